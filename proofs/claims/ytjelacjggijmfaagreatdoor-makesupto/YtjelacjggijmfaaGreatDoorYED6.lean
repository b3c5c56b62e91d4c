/- . -/
import Derived.Test.YtjelacjggijmfaaGreatDoorYEA1
set_option linter.all false
set_option maxHeartbeats 8000000
set_option maxRecDepth 20000
namespace Go.Proofs.YtjelacjggijmfaaGreatDoor
open Pl Mk Cp Proofs.Tryz
open RowKit
variable {c ws:fv}{a:Er}{d bb lb T n i:Nat}{f vs k:f'}{L0 W wr w':ay}{vf v:az}{fs:fy}{rec:Bk->aj->Bk}{can:Bool}{fin b:Bk}{m m':Bm}
def Tryz.QZ:(Tryz.prog.info? 147).map (λi=>(i.zero,i.size,i.bytes))=some (some (.agg #[ς,ς,ς,ς,.bool false,.bool false]),6,104):=by kernel_rfl
def Tryz.G0:(Tryz.prog.info? 223).map (λi=>(i.zero,i.size,i.bytes))=some (some (.agg #[ε,ε,.bool false]),3,40):=by kernel_rfl
def QR(N:aj->Nv){a:aj}:b_ N (λ_=>none) [] 0 [] a (dy N a):=by obtain⟨d,c,-⟩:=Bf N (λ_=>none) 301 0 (by omega) a.length a ax [] [];rw[Uw c];exact c
def xV{L:js}(h:qV W vf L)(g:Dw L)(a:aj)(d:a.length<=100000000):
 γ 72 #[vf,σ a,.agg #[.bool false,ε,ε,ε,ε]] W (lB (dy (nR L) a)):=by have:=Fy h g Wt d (r:=dy (nR L) a) (by rw[Xf];exact QR _);exact this
def yy{a:aj->Bool}(h:i<c.length):(c.take (i+1)).any a=((c.take i).any a||a c[i]):=by rw[Yn h,List.any_append];simp
def xi(h:a.er=0):lB a=.tuple #[σ a.bK,ι 0]:=by unfold lB;rw[Yd h,h];rfl
def wR(h:¬a.er=0):lB a=.tuple #[ε,ι a.er]:=by unfold lB;rw[Yb h]
def cV.qe(h:cV L0 wr bb vf fs m)(f:aF wr lb d vs)(e:ej W wr bb m.os m.os)(a:μ wr w'):cV L0 w' bb vf fs m/\aF w' lb d vs/\ej W w' bb m.os m.os:=⟨(h.aD a).1,f.aD a,e.trans (h.aD a).2⟩
def cV.nE{X:ay}(h:cV L0 W bb vf fs m)(k:X.ownsRow W.heap.size d lb v n f):Fz X bb m.os v:=λq a=>by have c:=Yt k q a;have j:=h.row.lt;refine⟨c.2,by omega,λu g d=>?_⟩;have:=(h.bG u g q d.symm).2;omega
def Bc(a:aj)(c:a.length<=2000)(w:ay):Calls prog 151 #[σ a] w λe w'=>∃v,e=.returned v/\eV w' w.heap.size v (bQ a)/\μ w w':=by have:=MS ⟨a.toArray⟩ w (by rw[ea];omega);exact this
def Gh(a:aj)(c:a.length<=2000)(w:ay):δ 152 #[σ a] w (ι (ep a:Int)):=by have:=MZ ⟨a.toArray⟩ w (by rw[ea];omega);exact this
def px(a:fv):Bool:=decide (a=[s7])
def Bm.Uu(m:Bm)(a:List Rm)(z:Rm)(v:az):({m with xs:=a++[z],vR:=v}:Bm).os=[m.vN,v,z.vs,z.vl]:=by unfold Bm.os;rw[Bm.pH (m:={m with xs:=a++[z],vR:=v}) rfl]
def U7(y:aj):(y==[46,80,72,79,78,89])=px [y]:=by
 unfold px;rw[ZE,Zj,aej];constructor
 ·rintro rfl;rfl
 intro h;exact(List.cons.inj h).1
def V3(h:¬c.length=1):false=px c:=by unfold px;exact(Y9 λe=>h (by rw[e];rfl)).symm
def Tz(h:cV L0 W bb vf fs m)(z:km m b)(h0:b.cH=0)(hS:nM b)(n:Nat)(kd:Int)(g f:aj)(hl:g.length<=100000000)(hr:f.length<=100000000):
 Calls prog 108 #[π bb,qX n kd ⟨g.toArray⟩ ⟨f.toArray⟩] W λx W'=>oG L0 bb vf fs m.os (gL b g f n) W x W':=by
 unfold π;have HR:Hid (gL b g f n=if(dy (nR b.aX) g).er≠0 then b.dH (dy (nR b.aX) g).er n
  else if(dy (nR b.aX) f).er≠0 then b.dH (dy (nR b.aX) f).er n
  else if oq (bQ (dy (nR b.aX) g).bK) (bQ (dy (nR b.aX) f).bK)=true then b.dH 1 n
  else if 64<=b.aG.length then b.dH 5 n
  else {b with aG:=b.aG++[gg (bQ (dy (nR b.aX) g).bK) (bQ (dy (nR b.aX) f).bK)]}):=aC rfl
 have bg:=oP (nR b.aX) g;have aT:=oP (nR b.aX) f;have br:μ W (W.alloc (.cells #[ι (n:Int),.int .u8 kd,σ g,σ f] 218)):=ak W _;obtain⟨j,bV⟩:=h.aD br;have HB:=aC (aF.bq W 218 [ι (n:Int),.int .u8 kd,σ g,σ f]);have cy:bb<W.heap.size:=h.row.lt;have bl:=z.len;have ar:=z.cZ;unfold qX;go_enter func108,ntmps108;go_upto_region 1 with fail
 generalize b':W.alloc (.cells #[ι (n:Int),.int .u8 kd,σ g,σ f] 218)=wA at*;generalize bZ:W.heap.size=lb at*;have HL:=HB.u.lt;have HH:=aC z;have cp:=j.row.lt;obtain⟨aN,cN,bN,oN,au,-,-,-⟩:=j.tU;obtain⟨-,J,-,-,-,-⟩:=j.cells;rw[au]at J;have aw:Hid (∀w,μ wA w->γ 72 #[.slice aN m.cZ.length cN,σ g,.agg #[.bool false,ε,ε,ε,ε]] w (lB (dy (nR b.aX) g))):=aC λw hb=>by have p:=j.tU.aD hb;rw[au,ar]at p;rw[ar];exact xV p hS.aX g hl
 have ap:Hid (∀w,μ wA w->γ 72 #[.slice aN m.cZ.length cN,σ f,.agg #[.bool false,ε,ε,ε,ε]] w (lB (dy (nR b.aX) f))):=aC λw hb=>by have p:=j.tU.aD hb;rw[au,ar]at p;rw[ar];exact xV p hS.aX f hr
 have H1:=aC j;have aZ:=aC bV;have l2:=HB.u.cell 2 (by simp);simp only[X6,X7]at l2;have am:=aC au;have cq:=aC hS.fU;generalize dy (nR b.aX) g=G at*;generalize dy (nR b.aX) f=Q at*;clear b' bZ h j bV br z hS au ar hl hr;by_cases e1:G.er=0
 ·rw[xi e1]at aw;go_region_held3 (λw'=>w'.χ bb 1=some (.slice aN m.cZ.length cN)/\w'.χ lb 2=some (σ g)) (first|with_reducible exact⟨J,l2⟩|with_reducible exact⟨A,al⟩|go_keep) (first|(go_at_call 72;refine κ (aw.u _ (X5 _ wA).drew) λw1 aH=>?_;have ae :=(X5 _ wA).drew.trans aH;obtain⟨m1,H,f1⟩:=H1.u.qe HB.u aZ.u ae;have A :=m1.cells.2.1;rw[am.u]at A;have al :=H.cell 2 (by simp);simp only[X6,X7]at al;have ab:=aC m1;have Y:=aC H;have aE:=aC f1;have a':=aC ae;clear aH ae m1 H f1))
  go_upto_region 4 with fail
  clear J l2 A al aw H1 HB aZ;obtain⟨-,J,-,-,-,-⟩:=ab.u.cells;rw[am.u]at J;have l3:=Y.u.cell 3 (by simp);simp only[X6,X7]at l3;have cu:=ab.u.row.lt;have ct:=Y.u.lt;by_cases e2:Q.er=0
  ·rw[xi e2]at ap;go_region_held3 (λw'=>w'.χ bb 1=some (.slice aN m.cZ.length cN)/\w'.χ lb 3=some (σ f)) (first|with_reducible exact⟨J,l3⟩|with_reducible exact⟨A,ai⟩|go_keep) (first|(go_at_call 72;refine κ (ap.u _ a'.u.drew) λw2 av=>?_;have aq :=(X5 _ w1).drew.trans av;obtain⟨m2,I,f2⟩:=ab.u.qe Y.u aE.u aq;have A :=m2.cells.2.1;rw[am.u]at A;have ai :=I.cell 3 (by simp);simp only[X6,X7]at ai;have ah:=aC m2;have aL:=aC I;have aS:=aC f2;clear av aq m2 I f2))
   clear A ai J l3 ap ab Y aE a';have aY:Hid (gL b g f n=if oq (bQ G.bK) (bQ Q.bK)=true then b.dH 1 n else if 64<=b.aG.length then b.dH 5 n else {b with aG:=b.aG++[gg (bQ G.bK) (bQ Q.bK)]}):=aC (by rw[HR.u,Yb (λe=>e e1),Yb (λe=>e e2)]);have bW:=aC (Bc G.bK bg.1);have bE:=aC (Bc Q.bK aT.1);obtain⟨cx,bY,-⟩:=wU bg.1;obtain⟨cw,ch,-⟩:=wU aT.1;generalize ce:G.bK=t1 at*;generalize bX:Q.bK=t2 at*;generalize bQ t1=a at*;generalize bQ t2=c at*;clear bg aT HR ce bX e1 e2;have tb:((a.length:Int)==0)=decide (a.length=0):=by rw[ZE,Zj,aej];omega
   go_wp2_with (first|(go_at_call 151;refine(bW.u _).mono ?_;rintro e w3⟨v3,rfl,aU,bC⟩;obtain⟨B,r,rfl⟩:=dR aU;have aQ:=aC aU;have a_:=aC bC;clear bW aU bC)|(go_at_call 151;refine(bE.u _).mono ?_;rintro e d⟨v4,rfl,a0,bU⟩;obtain⟨s,t,rfl⟩:=dR a0;have a6:=aC a0;have aO:=aC bU;clear bE a0 bU))
   have bt:=aF.bq d 147 [.slice B a.length r,.slice s c.length t,ς,ς,.bool false,.bool false];have bP:Below d.heap.size d (d.alloc (.cells #[.slice B a.length r,.slice s c.length t,ς,ς,.bool false,.bool false] 147)):=ak d _;have bS:=a_.u.tr aO.u;obtain⟨m4,r4,f4⟩:=ah.u.qe aL.u aS.u bS;have s3:=(eV.vU aQ.u).aD aO.u;have s4:=eV.vU a6.u;have z3:Fz d bb m.os (.slice B a.length r):=ah.u.nE (X:=d) (bI aQ.u λk F=>aO.u.block k (Yt aQ.u k F).2);have z4:Fz d bb m.os (.slice s c.length t):=ah.u.nE (X:=d) (kY a6.u a_.u.size);have aA:=aC m4;have bn:=aC r4;have bD:=aC f4;have aM:=aC s3;have a7:=aC s4;have bL:=aC z3;have bw:=aC z4;clear ah aL aS m4 r4 f4 s3 s4 z3 z4 bS aQ a6 a_ aO;generalize cf:d.alloc (.cells #[.slice B a.length r,.slice s c.length t,ς,ς,.bool false,.bool false] 147)=wB at*;have cc:=aC bt;have cd:=aC bP;generalize bO:d.heap.size=T at*;have ad:=aC bO;clear cf bt bP bO tb;go_loopw [8,9] (λbv U wr=>∃(i:Nat) (K o:Bool),bv=.bool K/\U= ι i/\i<=a.length/\Hid (K=(decide (a.length=0)||(a.take i).any (pW a)))/\Hid (o=(a.take i).any λac=>decide (0<ep ac))/\Hid (aF wr T 147 [.slice B a.length r,.slice s c.length t,ς,ς,.bool o,.bool false])/\Hid (Below T d wr)) (λ_ U _=>a.length-aV U)
   case atStart=>exact⟨0,_,false,rfl,rfl,Yh _,aC (by simp),aC (by simp),cc,cd⟩
   obtain⟨i,K,o,rfl,rfl,z,a1,bc,C,af⟩:=hrel;have x0:=C.u.cell 0 (by simp);have x4:=C.u.cell 4 (by simp);have g4:=C.u.frozen 4;simp only[X6,X7]at x0 x4;by_cases F:i<a.length
   ·have ti:(i:Int)<a.length:=by omega
    obtain⟨a9,k9,b9,o9,ao,O,S⟩:=aM.u.aD (ad.u▸af.u);cases ao;obtain⟨rfl,-⟩:=O (by omega);have e9:=S i F;unfold aK at e9;have CC:=aC (Gh a[i] (bY _ (Ym F)));have bf:Hid ((a.take (i+1)).any (pW a)=((a.take i).any (pW a)||(decide (1<ep a[i])||(decide (0<ep a[i])&&decide (1<a.length))))):=aC (yy F);have b4:Hid ((a.take (i+1)).any (λac=>decide (0<ep ac))=((a.take i).any (λac=>decide (0<ep ac))||decide (0<ep a[i]))):=aC (yy F);clear O S;generalize a[i]=y at*;generalize ep y=N at*;go_upto_region 13 with(first|(go_at_call 152;refine(CC.u _).mono ?_;rintro e w5⟨rfl,rfl⟩))
    go_cut [] from 71 to 77 (λwx=>∃Z,Hid (Z =(o||decide (0<N)))/\Hid (aF wx T 147 [.slice (some (η b9 o9)) a.length r,.slice s c.length t,ς,ς,.bool Z,.bool false])/\Hid (Below T d wx))
    case first=>
     have ba:Hid (∀q:Bool,q=(o||decide (0<N))->∃Z,Hid (Z =(o||decide (0<N)))/\Hid (aF (w5.ψ T 4 (.bool q)) T 147 [.slice (some (η b9 o9)) a.length r,.slice s c.length t,ς,ς,.bool Z,.bool false])/\Hid (Below T d (w5.ψ T 4 (.bool q)))):=aC λq hq=>⟨q,aC hq,aC (C.u.set 4 (.bool q)),aC (af.u.setCell (p:=η T 4) ax _)⟩;cases o with
     |true=>
      go_wp2_with fail
      go_meet
      exact ba.u true (by simp)
     |false=>
      by_cases hN:0<N
      ·have tn:(0:Int)<N:=by omega
       go_wp2_with fail
       go_meet
       exact ba.u true (by simp[hN])
      have tn:¬(0:Int)<N:=by omega
      go_wp2_with fail
      go_meet
      exact ba.u false (by simp[hN])
    obtain⟨Z,ca,bR,b8⟩:=hcut;have y0:=bR.u.cell 0 (by simp);simp only[X6]at y0;have l:Hid (∀q:Bool,q=(K||(decide (1<N)||(decide (0<N)&&decide (1<a.length))))->∃(R:Nat) (bB bz:Bool),Value.bool q=.bool bB /\ι ((i:Int)+1)= ι (R:Int)/\R<=a.length/\Hid (bB =(decide (a.length=0)||(a.take R).any (pW a)))/\Hid (bz =(a.take R).any λac=>decide (0<ep ac))/\Hid (aF wc T 147 [.slice (some (η b9 o9)) a.length r,.slice s c.length t,ς,ς,.bool bz,.bool false])/\Hid (Below T d wc)):=aC λq hq=>⟨i+1,q,Z,rfl,by go_num,by omega,aC (by rw[bf.u,<-adP,<-a1.u];exact hq),aC (by rw[b4.u,<-bc.u];exact ca.u),bR,b8⟩;have tl:(1:Int)<a.length\/¬(1:Int)<a.length:=by omega
    clear x0 x4 g4 C af;cases K with
    |true=>
     go_wp2_with fail
     first
      |exact⟨l.u true (by simp),by simp only[aV];omega⟩
      |(go_roundw;exact l.u true (by simp);simp only[aV];omega)
    |false=>
     by_cases j:1<N
     ·have tn:(1:Int)<N:=by omega
      go_wp2_with fail
      first
       |exact⟨l.u true (by simp[j]),by simp only[aV];omega⟩
       |(go_roundw;exact l.u true (by simp[j]);simp only[aV];omega)
     have tn:¬(1:Int)<N:=by omega
     by_cases p:0<N
     ·have a5:(0:Int)<N:=by omega
      rcases tl with tl|tl
      ·have h3:1<a.length:=by omega
       go_wp2_with fail
       first
        |exact⟨l.u true (by simp[p,h3]),by simp only[aV];omega⟩
        |(go_roundw;exact l.u true (by simp[p,h3]);simp only[aV];omega)
      have h3:¬1<a.length:=by omega
      go_wp2_with fail
      first
       |exact⟨l.u false (by simp[j,h3]),by simp only[aV];omega⟩
       |(go_roundw;exact l.u false (by simp[j,h3]);simp only[aV];omega)
     have a5:¬(0:Int)<N:=by omega
     go_wp2_with fail
     first
      |exact⟨l.u false (by simp[j,p]),by simp only[aV];omega⟩
      |(go_roundw;exact l.u false (by simp[j,p]);simp only[aV];omega)
   have ti:¬(i:Int)<a.length:=by omega
   have hit:i=a.length:=by omega
   subst hit;have b5:Hid (K=(decide (a.length=0)||a.any (pW a))):=aC (by rw[a1.u,YR]);have bp:Hid (o=fu a):=aC (by rw[bc.u,YR];rfl);clear a1 bc x4 g4 z;go_wp2_with fail
   clear x0;go_loopw [8,11] (λbv U wz=>∃(i:Nat) (V:Bool),bv=.bool V/\U= ι i/\i<=c.length/\Hid (V=(K||(c.take i).any (r_ o)))/\wz=wr) (λ_ U _=>c.length-aV U)
   case atStart=>exact⟨0,K,rfl,rfl,Yh _,aC (by simp),rfl⟩
   obtain⟨i,V,rfl,rfl,z,bF,b2⟩:=hrel;subst b2;have G:=C.u.cell 1 (by simp);have x4:=C.u.cell 4 (by simp);simp only[X6,X7]at G x4;by_cases F:i<c.length
   ·have tj:(i:Int)<c.length:=by omega
    obtain⟨a9,k9,b9,o9,ao,O,S⟩:=a7.u.aD (ad.u▸af.u);cases ao;obtain⟨rfl,-⟩:=O (by omega);have e9:=S i F;unfold aK at e9;have CC:=aC (Gh c[i] (ch _ (Ym F)));have bf:Hid ((c.take (i+1)).any (r_ o)=((c.take i).any (r_ o)||(decide (1<ep c[i])||(decide (0<ep c[i])&& !o)))):=aC (yy F);clear O S;generalize c[i]=y at*;generalize ep y=N at*;have l:Hid (∀q:Bool,q=(V||(decide (1<N)||(decide (0<N)&& !o)))->∃(R:Nat) (bT:Bool),Value.bool q=.bool bT /\ι ((i:Int)+1)= ι (R:Int)/\R<=c.length/\Hid (bT =(K||(c.take R).any (r_ o)))/\wr=wr):=aC λq hq=>⟨i+1,q,rfl,by go_num,by omega,aC (by rw[bf.u,<-adP,<-bF.u];exact hq),rfl⟩;cases V with
    |true=>
     go_wp2_with (go_at_call 152;refine κ (CC.u _) λ_ L=>?_;subst L)
     first
      |exact⟨l.u true (by simp),by simp only[aV];omega⟩
      |(go_roundw;exact l.u true (by simp);simp only[aV];omega)
    |false=>
     by_cases j:1<N
     ·have tn:(1:Int)<N:=by omega
      go_wp2_with (go_at_call 152;refine κ (CC.u _) λ_ L=>?_;subst L)
      first
       |exact⟨l.u true (by simp[j]),by simp only[aV];omega⟩
       |(go_roundw;exact l.u true (by simp[j]);simp only[aV];omega)
     have tn:¬(1:Int)<N:=by omega
     by_cases p:0<N
     ·have a5:(0:Int)<N:=by omega
      cases o with
      |true=>
       go_wp2_with (go_at_call 152;refine κ (CC.u _) λ_ L=>?_;subst L)
       first
        |exact⟨l.u _ (by rw[show decide ((1:Int)<N)=false from Y9 (by omega)];simp[j]),by simp only[aV];omega⟩
        |(go_roundw;exact l.u _ (by rw[show decide ((1:Int)<N)=false from Y9 (by omega)];simp[j]);simp only[aV];omega)
      |false=>
       go_wp2_with (go_at_call 152;refine κ (CC.u _) λ_ L=>?_;subst L)
       first
        |exact⟨l.u true (by simp[p]),by simp only[aV];omega⟩
        |(go_roundw;exact l.u true (by simp[p]);simp only[aV];omega)
     have a5:¬(0:Int)<N:=by omega
     go_wp2_with (go_at_call 152;refine κ (CC.u _) λ_ L=>?_;subst L)
     first
      |exact⟨l.u _ (by rw[show decide ((1:Int)<N)=false from Y9 (by omega)];simp[j,p]),by simp only[aV];omega⟩
      |(go_roundw;exact l.u _ (by rw[show decide ((1:Int)<N)=false from Y9 (by omega)];simp[j,p]);simp only[aV];omega)
   have tj:¬(i:Int)<c.length:=by omega
   have bh:Hid (V=oq a c):=aC (by rw[bF.u,show i=c.length by omega,YR,b5.u,bp.u];rfl);have ag:Below d.heap.size d wr:=ad.u▸af.u;obtain⟨P,r5,f5⟩:=aA.u.qe bn.u bD.u ag;have l0:=r5.cell 0 (by simp);simp only[X6]at l0;cases V with
   |true=>
    have M:Hid (gL b g f n=b.dH 1 n):=aC (by rw[aY.u,Yd bh.u.symm]);have an:=aC P;have aB:=aC f5;clear P r5 f5 ag;go_wp2_with (go_at_call 106;refine(nX an.u HH.u h0 1 n).mono ?_;rintro e w9 D;have E:=aC (D.bo aB.u);clear D;obtain⟨⟨ev,rfl⟩,-⟩:=E.u;skip)
    refine Yw (Zr rfl _ _ _) rfl ?_;rw[M.u];exact⟨⟨_,rfl⟩,E.u.2⟩
   |false=>
    obtain⟨aR,cR,aP⟩:=dR P.gP;obtain⟨-,-,c2,-,-,-⟩:=P.cells;rw[aP]at c2;by_cases co:64<=m.xs.length
    ·have M:Hid (gL b g f n=b.dH 5 n):=aC (by rw[aY.u,<-bh.u,Yb (by decide),Yd (by omega)]);have an:=aC P;have aB:=aC f5;have ck:(64:Int)<=m.xs.length:=by omega
     clear P r5 f5 ag aP bl;go_wp2_with (go_at_call 106;refine(nX an.u HH.u h0 5 n).mono ?_;rintro e w9 D;have E:=aC (D.bo aB.u);clear D;obtain⟨⟨ev,rfl⟩,-⟩:=E.u;skip)
     refine Yw (Zr rfl _ _ _) rfl ?_;rw[M.u];exact⟨⟨_,rfl⟩,E.u.2⟩
    have M:Hid (gL b g f n={b with aG:=b.aG++[gg a c]}):=aC (by rw[aY.u,<-bh.u,Yb (by decide),Yb (by omega)]);have ck:¬(64:Int)<=m.xs.length:=by omega
    have bk:qP wr bb m.os ⟨a,c,[],[],fu a,px a,.slice B a.length r,.slice s c.length t,ς,ς⟩:=(show qP d bb m.os _ from⟨aM.u,bL.u,a7.u,bw.u⟩).cY (aA.u.aD ag).2;have an:=aC P;have aB:=aC f5;have b3:=aC bk;have aI:=aC aP;have bx:=aC (aM.u.aD ag);clear P r5 f5 ag aP bl bk l0;go_upto_region 24 with fail
    have x0:=C.u.cell 0 (by simp);have g5:=C.u.frozen 5;have x5:=C.u.cell 5 (by simp);simp only[X6,X7]at x0 x5;have bJ:Hid (∀q,q=px a->Hid (aF (wr.ψ T 5 (.bool q)) T 147 [.slice B a.length r,.slice s c.length t,ς,ς,.bool o,.bool (px a)])):=aC λq hq=>aC (by rw[<-hq];exact C.u.set 5 (.bool q));have bA:Hid (∀q,Hid (Below T wr (wr.ψ T 5 (.bool q)))):=aC λq=>aC ((X5 _ _).setCell (p:=η T 5) ax _);go_cut [] from 135 (λwx=>Hid (aF wx T 147 [.slice B a.length r,.slice s c.length t,ς,ς,.bool o,.bool (px a)])/\Hid (Below T wr wx))
    case first=>
     by_cases j:a.length=1
     ·obtain⟨y,rfl⟩:∃y,a=[y]:=List.length_eq_one_iff.1 j;obtain⟨a9,k9,b9,o9,ao,O,S⟩:=bx.u;cases ao;obtain⟨rfl,-⟩:=O (by simp);have e9:=S 0 (by simp);simp only[aK,X6,ZH]at e9;clear O S;go_wp2_with fail
      go_meet
      exact⟨bJ.u _ (U7 y),bA.u _⟩
     have t1:((a.length:Int)==1)=false:=by rw[Yi];omega
     go_wp2_with fail
     go_meet
     exact⟨bJ.u _ (V3 j),bA.u _⟩
    obtain⟨aa,b6⟩:=hcut;have a8:Below d.heap.size d wc:=(ad.u▸af.u:Below d.heap.size d wr).trans (ad.u▸b6.u);obtain⟨m6,r6,f6⟩:=aA.u.qe bn.u bD.u a8;have bm:qP wc bb m.os ⟨a,c,[],[],fu a,px a,.slice B a.length r,.slice s c.length t,ς,ς⟩:=(show qP d bb m.os _ from⟨aM.u,bL.u,a7.u,bw.u⟩).cY (aA.u.aD a8).2;obtain⟨-,-,b1,-,-,-⟩:=m6.cells;rw[aI.u]at b1;have g2:=m6.row.frozen 2;have q0:=aa.u.cell 0 (by simp);have q1:=aa.u.cell 1 (by simp);have q2:=aa.u.cell 2 (by simp);have q3:=aa.u.cell 3 (by simp);have q4:=aa.u.cell 4 (by simp);have q5:=aa.u.cell 5 (by simp);simp only[X6,X7]at q0 q1 q2 q3 q4 q5;have bi:=aC m6.gP;rw[aI.u]at bi;have cs:=m6.row.lt;have cv:=aa.u.lt;have cm:T≠bb:=by have:=ad.u;have:=aA.u.row.lt;omega
    have b7:=aC m6;have cb:=aC f6;have cl:=aC bm;obtain⟨i0,bH,bs,bM,bG⟩:=Y1 Tryz.QZ;have cg:=aC bH;have ci:=aC bs;have cj:=aC bM;have b0:=aC bG;rw[bp.u]at q4;clear bH bs bM bG m6 r6 f6 a8 bm c2 x0 g5 x5 an aB b3 bx;have b_:Hid (∀v:az,km {m with xs:=m.xs++[⟨a,c,[],[],fu a,px a,.slice B a.length r,.slice s c.length t,ς,ς⟩],vR:=v} (gL b g f n)):=aC λv=>by rw[M.u];have z:=HH.u;refine⟨z.cZ,z.tk,z.er,z.ln,?_⟩;show(m.xs++[_]).map Rm.key=(b.aG++[_]).map Ru.key;rw[Yy,Yy,z.rs];rfl
    generalize px a=ph at*;generalize fu a=pt at*;go_wp2_with fail
    go_region_law (refine sH rfl (.tmp 151) (.tmp 153) 109 rfl (bb+1) 147 i0 _ 6 104 underlying109 cg.u ci.u cj.u b0.u rfl (by decide) _ m.xs.length _ (by simp[Act.eval]) (bi.u.alloc _) (η _ 0) 1 1 [.slice B a.length r,.slice s c.length t,ς,ς,.bool pt,.bool ph] (by simp[Act.eval]) rfl (gX _ _ [.slice B a.length r,.slice s c.length t,ς,ς,.bool pt,.bool ph]) (by intro u hu;simp at hu;rcases hu with rfl|rfl|rfl|rfl|rfl<;>rfl) (by unfold maxLen;omega) (by omega) (by simp;omega) ?_;intro v1 w2 a2 bu bj;obtain⟨g1,cn,rfl,-,-⟩:=dv a2 (by omega);obtain⟨H,I,r3⟩:=b7.u.push cl.u (by rw[aI.u];exact pD bu) a2 (by rw[aI.u];rcases bj with e|e;exact .inl e;exact .inr ⟨_,e,by simp⟩);have e2:=r3.cell 2 (by simp);have f2:=r3.frozen 2;simp only[X6,X7]at e2;have Y:=aC H;have aL:=aC (cb.u.trans I);clear a2 bu bj H I r3)
    all_goals go_wp2_with fail
    all_goals refine Yw (Zr rfl _ _ _) rfl ?_
    all_goals exact⟨⟨_,rfl⟩,_,Y.u,b_.u _,by rw[Bm.Uu];exact aL.u⟩
  have cr:((Q.er:Int) !=0)=true:=by rw[ZI];omega
  rw[wR e2]at ap;have M:Hid (gL b g f n=b.dH Q.er n):=aC (by rw[HR.u,Yb (λe=>e e1),Yd e2]);go_region_held3 (λw'=>w'.χ bb 1=some (.slice aN m.cZ.length cN)/\w'.χ lb 3=some (σ f)) (first|with_reducible exact⟨J,l3⟩|with_reducible exact⟨A,ai⟩|go_keep) (first|(go_at_call 72;refine κ (ap.u _ a'.u.drew) λw2 av=>?_;have aq :=(X5 _ w1).drew.trans av;obtain⟨m2,I,f2⟩:=ab.u.qe Y.u aE.u aq;have A :=m2.cells.2.1;rw[am.u]at A;have ai :=I.cell 3 (by simp);have aW :=I.cell 0 (by simp);simp only[X6,X7]at ai aW;have ah:=aC m2;have aS:=aC f2;clear av aq m2 I f2))
  all_goals go_wp2_with (go_at_call 106;refine(nX ah.u HH.u h0 Q.er n).mono ?_;rintro e d D;have E:=aC (D.bo aS.u);clear D;obtain⟨⟨ev,rfl⟩,-⟩:=E.u;skip)
  all_goals refine Yw (Zr rfl _ _ _) rfl ?_
  all_goals rw[M.u]
  all_goals exact⟨⟨_,rfl⟩,E.u.2⟩
 have t1:((G.er:Int) !=0)=true:=by rw[ZI];omega
 rw[wR e1]at aw;have M:Hid (gL b g f n=b.dH G.er n):=aC (by rw[HR.u,Yd e1]);go_region_held3 (λw'=>w'.χ bb 1=some (.slice aN m.cZ.length cN)/\w'.χ lb 2=some (σ g)) (first|with_reducible exact⟨J,l2⟩|with_reducible exact⟨A,al⟩|go_keep) (first|(go_at_call 72;refine κ (aw.u _ (X5 _ wA).drew) λw1 aH=>?_;have ae :=(X5 _ wA).drew.trans aH;obtain⟨m1,H,f1⟩:=H1.u.qe HB.u aZ.u ae;have A :=m1.cells.2.1;rw[am.u]at A;have al :=H.cell 2 (by simp);have aW :=H.cell 0 (by simp);simp only[X6,X7]at al aW;have ab:=aC m1;have aE:=aC f1;clear aH ae m1 H f1))
 all_goals go_wp2_with (go_at_call 106;refine(nX ab.u HH.u h0 G.er n).mono ?_;rintro e d D;have E:=aC (D.bo aE.u);clear D;obtain⟨⟨ev,rfl⟩,-⟩:=E.u;skip)
 all_goals refine Yw (Zr rfl _ _ _) rfl ?_
 all_goals rw[M.u]
 all_goals exact⟨⟨_,rfl⟩,E.u.2⟩
def zD(g:ay)(d:Nat)(e:az)(f:fy)(T:Nat)(D:Int)(rec:Bk->aj->Bk):Prop:=∀(W:ay) (m:Bm) (b:Bk) (s:aj) (c:Nat),cV g W d e f m->km m b->b.cH=0->s.length<=T->iB T b (c+(T+1))->
 Calls prog 69 #[.pointer (some ⟨d,0,none⟩),.string ⟨s.toArray⟩,.int .i64 D] W λx a=>oG g d e f m.os (rec b s) W x a
structure p9(L0 W:ay)(bb lb:Nat)(vf v:az)(fs:fy)(os:f')(vs:f')(ws:fv)(T rest n:Nat)(rec:Bk->aj->Bk)(can:Bool)(fin:Bk)(i:Nat)(m:Bm)(b:Bk)(wr:ay):Prop where
 mm:cV L0 wr bb vf fs m
 ii:km m b
 f:ej W wr bb os m.os
 row:aF wr lb 218 vs
 ln:Fz wr bb m.os (ξ lb 0 0)
 w:fO wr v ws
 wz:Fz wr bb m.os v
 bd:iB T b rest
 go:lh rec can fs n (ws.drop i) b=fin
def aF.Wl(h:aF W lb d k)(j:Fz W bb vs (ξ lb 0 0))(a:ej W L0 bb vs f):aF L0 lb d k:=by have⟨e,c,g⟩:=j lb rfl;exact(a.jX lb e c g).trans h
section
variable {os:f'}{rest:Nat}
def p9.cY(h:p9 L0 W bb lb vf v fs os vs ws T rest n rec can fin i m b wr)(l:qF T rec)(g:∀q d,Pl.look fs q=some d->d.aU.length<=T)(r:n<=T+1)(c:i<ws.length)(p:b.cH=0)(o:cV L0 w' bb vf fs m')(j:km m' (jU rec can fs b ws[i] n))(a:ej wr w' bb m.os m'.os):p9 L0 W bb lb vf v fs os vs ws T rest n rec can fin (i+1) m' (jU rec can fs b ws[i] n) w':=by
 refine⟨o,j,h.f.trans a,h.row.Wl h.ln a,h.ln.cY a,h.w.cY h.wz a,h.wz.cY a,?_,?_⟩
 ·exact iB.step (add:=0) h.bd λk c=>Jo l g c _ r
 have:=h.go;rw[Yu c,lh,Yb (λe=>e p)]at this;exact this
def p9.aD(h:p9 L0 W bb lb vf v fs os vs ws T rest n rec can fin i m b wr)(a:μ wr w'):p9 L0 W bb lb vf v fs os vs ws T rest n rec can fin i m b w':=⟨(h.mm.aD a).1,h.ii,h.f.trans (h.mm.aD a).2,h.row.aD a,h.ln.cY (h.mm.aD a).2,h.w.aD a,h.wz.cY (h.mm.aD a).2,h.bd,h.go⟩
def p9.cL(h:p9 L0 W bb lb vf v fs os vs ws T rest n rec can fin i m b wr)(d:¬i<ws.length\/b.cH≠0):oG L0 bb vf fs os fin W (.returned (.tuple #[])) wr:=by
 have e:fin=b:=by
  have a:=h.go;by_cases c:i<ws.length
  ·rw[Yu c,lh,Yd (d.resolve_left (λq=>q c))]at a;exact a.symm
  rw[Zz (by omega)]at a;exact a.symm
 rw[e];exact⟨⟨_,rfl⟩,m,h.mm,h.ii,h.f⟩
end
def N1(h:cV L0 W bb vf fs m)(J:km m b)(h0:b.cH=0)(hT:T<=1048576)(al:iB T b d)(aw:qF T rec)(hf:∀au aG,Pl.look fs au=some aG->aG.aU.length<=T)(a_:fs.length<=16777216)(Y:Nat)(aQ:can=decide (Y<3))(hC:can=true->zD L0 bb vf fs T ((Y:Int)+1) rec)(n:Nat)(hn:n<=T+1)(F:Int)(L:aA)(a:aj)(hr:a.length<=100000000):
 Calls prog 107 #[π bb,qX n F L ⟨a.toArray⟩,ι (Y:Int)] W λx W'=>oG L0 bb vf fs m.os (nr rec can fs b a n) W x W':=by
 unfold π ι;have HR:Hid (nr rec can fs b a n=if(dy (nR b.aX) a).er≠0 then b.dH (dy (nR b.aX) a).er n else lh rec can fs n (bQ (dy (nR b.aX) a).bK) b):=aC rfl;have ap:=oP (nR b.aX) a;have hS:=al.size hT;have ax:μ W (W.alloc (.cells #[ι (n:Int),.int .u8 F,.string L,σ a] 218)):=ak W _;obtain⟨M,aY⟩:=h.aD ax;have hB:=aF.bq W 218 [ι (n:Int),.int .u8 F,.string L,σ a];have aT:Fz (W.alloc (.cells #[ι (n:Int),.int .u8 F,.string L,σ a] 218)) bb m.os (ξ W.heap.size 0 0):=λq hq=>by have be:W.heap.size=q:=YW hq;subst be;refine⟨by rw[X_];omega,by have:=h.row.lt;omega,λu hu e=> ?_⟩;have:=(h.bG u hu _ e.symm).2;omega
 have ah:=J.cZ;obtain⟨H,S,R,pz,ar,ab,aM⟩:=h.fl;have bl:=aC ar;have a8:Hid (∀w,μ L0 w->eJ w R pz fs):=aC λw hb i J=>aM.aP hb (ab (by omega)).2 i J;have aL:Hid (0<fs.length->H=some ⟨R,pz,none⟩):=aC λe=>(ab e).1;have ba:Hid (0<fs.length->R<bb):=aC λe=>Yo (ab e).2 h.lt;clear ab aM ar;unfold qX;go_enter func107,ntmps107;go_upto_region 1 with fail
 generalize bc:W.alloc (.cells #[ι (n:Int),.int .u8 F,.string L,σ a] 218)=wA at*;generalize a6:W.heap.size=lb at*;have HB:=aC hB;have aE:=aC aT;have HH:=aC J;obtain⟨aN,cN,bN,oN,ac,-,-,-⟩:=M.tU;obtain⟨-,c1,-,-,-,-⟩:=M.cells;rw[ac]at c1;have U:Hid (∀w,μ wA w->γ 72 #[.slice aN m.cZ.length cN,σ a,.agg #[.bool false,ε,ε,ε,ε]] w (lB (dy (nR b.aX) a))):=aC λw hb=>by have h2:=M.tU.aD hb;rw[ac,ah]at h2;rw[ah];exact xV h2 hS.aX a hr
 have H1:=aC M;have ai:=aC aY;have l2:=hB.cell 3 (by simp);simp only[X6,X7]at l2;have aq:=aC ac;have ad:=aC aw;have P:=aC hf;have HC:=aC hC;have aB:=aC al;have aR:=aC aQ;generalize dy (nR b.aX) a=D at*;clear bc a6 h M aY ax J hS ac ah hr hB aT aw hf hC al aQ;by_cases Q:D.er=0
 ·rw[xi Q]at U;go_region_held3 (λw'=>w'.χ bb 1=some (.slice aN m.cZ.length cN)/\w'.χ lb 3=some (σ a)) (first|with_reducible exact⟨c1,l2⟩|with_reducible exact⟨K,N⟩|go_keep) (first|(go_at_call 72;refine κ (U.u _ (X5 _ wA).drew) λw1 aa=>?_;have G :=(X5 _ wA).drew.trans aa;obtain⟨B,E,X⟩:=H1.u.qe HB.u ai.u G;have K :=B.cells.2.1;rw[aq.u]at K;have N :=E.cell 3 (by simp);simp only[X6,X7]at N;have O:=aC B;have aH:=aC E;have ae:=aC X;have aW:=aC (aE.u.cY (H1.u.aD G).2);clear aa G B E X))
  clear c1 l2 K N U H1 HB ai aE;have av:Hid (nr rec can fs b a n=lh rec can fs n (bQ D.bK) b):=aC (by rw[HR.u,Yb (λe=>e Q)]);have a0:=aC (Bc D.bK ap.1);obtain⟨bt,bm,-⟩:=wU ap.1;generalize bi:D.bK=t1 at*;generalize bQ t1=ws at*;clear ap HR bi Q;go_wp2_with (go_at_call 151;refine(a0.u _).mono ?_;rintro e w3⟨v3,rfl,ag,aI⟩;obtain⟨a3,k3,rfl⟩:=dR ag;have ao:=aC ag;have am:=aC aI;clear a0 ag aI)
  have a1:Hid (p9 L0 W bb lb vf (.slice a3 ws.length k3) fs m.os [ι (n:Int),.int .u8 F,.string L,σ a] ws T d n rec can (nr rec can fs b a n) 0 m b w3):=aC (by obtain⟨m4,r4,f4⟩:=O.u.qe aH.u ae.u am.u;exact⟨m4,HH.u,f4,r4,aW.u.cY (O.u.aD am.u).2,eV.vU ao.u,O.u.nE ao.u,aB.u,by rw[av.u];rfl⟩);clear O aH ae aW am ao aB HH av;go_loopw [9] (λiv wr=>∃(i:Nat) (m':Bm) (c:Bk),iv= ι i/\i<=ws.length/\Hid (p9 L0 W bb lb vf (.slice a3 ws.length k3) fs m.os [ι (n:Int),.int .u8 F,.string L,σ a] ws T d n rec can (nr rec can fs b a n) i m' c wr)) (λiv _=>ws.length-aV iv)
  case atStart=>exact⟨0,m,b,rfl,Yh _,a1⟩
  obtain⟨i,m',c,rfl,J,s⟩:=hrel;obtain⟨Z,-,-,c3,c4,-⟩:=s.u.mm.cells;rw[bl.u]at Z;rw[s.u.ii.er]at c4;rw[s.u.ii.tk]at c3;by_cases I:i<ws.length
  ·have ti:(i:Int)<ws.length:=by omega
   by_cases p:c.cH=0
   ·rw[p]at c4;obtain⟨a9,k9,b9,o9,a2,f,g⟩:=s.u.w;cases a2;obtain⟨rfl,-⟩:=f (by omega);have V:=g i I;unfold aK at V;have l0:=s.u.row.cell 0 (by simp);simp only[X6]at l0;have an:=a8.u _ s.u.mm.bS;have A:=aC (qg fs ws[i] H S R pz wr.drew aL.u an a_);unfold aK at A;have v:=aC (s.u.aD (X5 _ wr).drew);have a7:=aC an;clear f g an;rcases rA (fs:=fs) (p:=ws[i]) with⟨y,r⟩|⟨k,bg,y,r⟩
    ·rw[y]at A;have C:Hid (jU rec can fs c ws[i] n=c.dH 2 n):=aC (by unfold jU;rw[r]);clear y r;go_wp2_with fail
     go_region_held3 (λw'=>w'.χ bb 0=some (.slice H fs.length S)/\w'.χ b9 (o9+i)=some (σ ws[i])) (first|with_reducible exact⟨Z,V⟩|go_keep) (first|(go_at_call 45;refine κ A.u λw5 z=>?_;subst z))
     go_wp2_with (go_at_call 106;refine(nX v.u.mm v.u.ii p 2 n).mono ?_;rintro e w9⟨⟨ev,rfl⟩,o,j,f,g⟩;have l:=aC (v.u.cY ad.u P.u hn I p j (by rw[C.u];exact f) g);clear j f g)
     first
      |exact⟨⟨i+1,o,_,by go_num,by omega,l⟩,by simp only[aV];omega⟩
      |(go_roundw;exact⟨i+1,o,_,by go_num,by omega,l⟩;simp only[aV];omega)
    rw[y]at A;have bs:¬(k:Int)<0:=by omega
    cases t:can with
    |false=>
     have C:Hid (jU rec can fs c ws[i] n=c.dH 3 n):=aC (by unfold jU;rw[r];simp only;rw[Yd t]);have td:(3:Int)<=Y:=by have:=aR.u;rw[t]at this;have:=acQ this.symm;omega
     clear y r;subst t;go_wp2_with fail
     go_region_held3 (λw'=>w'.χ bb 0=some (.slice H fs.length S)/\w'.χ b9 (o9+i)=some (σ ws[i])) (first|with_reducible exact⟨Z,V⟩|go_keep) (first|(go_at_call 45;refine κ A.u λw5 z=>?_;subst z))
     go_wp2_with (go_at_call 106;refine(nX v.u.mm v.u.ii p 3 n).mono ?_;rintro e w9⟨⟨ev,rfl⟩,o,j,f,g⟩;have l:=aC (v.u.cY ad.u P.u hn I p j (by rw[C.u];exact f) g);clear j f g)
     first
      |exact⟨⟨i+1,o,_,by go_num,by omega,l⟩,by simp only[aV];omega⟩
      |(go_roundw;exact⟨i+1,o,_,by go_num,by omega,l⟩;simp only[aV];omega)
    |true=>
     have td:¬(3:Int)<=Y:=by have:=aR.u;rw[t]at this;have:=q9 this.symm;omega
     by_cases aO:100<=c.cF
     ·have C:Hid (jU rec can fs c ws[i] n=c.dH 5 n):=aC (by unfold jU;rw[r];simp only;rw[Yb (by rw[t];decide),Yd aO]);have tt:(100:Int)<=c.cF:=by omega
      clear y r;subst t;go_wp2_with fail
      go_region_held3 (λw'=>w'.χ bb 0=some (.slice H fs.length S)/\w'.χ b9 (o9+i)=some (σ ws[i])) (first|with_reducible exact⟨Z,V⟩|go_keep) (first|(go_at_call 45;refine κ A.u λw5 z=>?_;subst z))
      go_wp2_with (go_at_call 106;refine(nX v.u.mm v.u.ii p 5 n).mono ?_;rintro e w9⟨⟨ev,rfl⟩,o,j,f,g⟩;have l:=aC (v.u.cY ad.u P.u hn I p j (by rw[C.u];exact f) g);clear j f g)
      first
       |exact⟨⟨i+1,o,_,by go_num,by omega,l⟩,by simp only[aV];omega⟩
       |(go_roundw;exact⟨i+1,o,_,by go_num,by omega,l⟩;simp only[aV];omega)
     have C:Hid (jU rec can fs c ws[i] n=rec {c with cF:=c.cF+1} fs[k].aU):=aC (by unfold jU;rw[r];simp only;rw[Yb (by rw[t];decide),Yb aO]);have tt:¬(100:Int)<=c.cF:=by omega
     have aZ:=P.u _ _ r;obtain⟨-,g1,-⟩:=a7.u k bg;have CT:=aC (HC.u t);clear y r;subst t;go_wp2_with fail
     go_region_held3 (λw'=>w'.χ bb 0=some (.slice H fs.length S)/\w'.χ b9 (o9+i)=some (σ ws[i])) (first|with_reducible exact⟨Z,V⟩|go_keep) (first|(go_at_call 45;refine κ A.u λw5 z=>?_;subst z))
     obtain rfl:=aL.u (by omega);obtain⟨n1,n2⟩:=v.u.mm.bh 3 (c.cF+1) m'.er m'.ln (c.cF+1) (.inl ⟨rfl,rfl,rfl,rfl⟩);have f3:=v.u.mm.row.frozen 3;have bj:=aC (CT.u _ _ {c with cF:=c.cF+1} fs[k].aU d n1 ⟨v.u.ii.cZ,rfl,v.u.ii.er,v.u.ii.ln,v.u.ii.rs⟩ p aZ (iB.cF v.u.bd (by omega)));have a5:=aC n2;have bp:(k:Int)<fs.length:=by omega
     unfold dC at*;unfold aK at g1;have br:=ba.u (by omega)
     clear n1 n2 aZ CT;generalize fs[k].aU=tx at*;go_wp2_with (go_at_call 69;refine bj.u.mono ?_;rintro e w9⟨⟨ev,rfl⟩,o,j,f,g⟩;have l:=aC (v.u.cY ad.u P.u hn I p j (by rw[C.u];exact f) (a5.u.trans g));clear j f g)
     first
      |exact⟨⟨i+1,o,_,by go_num,by omega,l⟩,by simp only[aV];omega⟩
      |(go_roundw;exact⟨i+1,o,_,by go_num,by omega,l⟩;simp only[aV];omega)
   have tz:((c.cH:Int)==0)=false:=by rw[Yi];omega
   have HO:=aC (s.u.cL (.inr p));go_wp2_with fail
   refine Yw (Zr rfl _ _ _) rfl ?_;exact⟨⟨_,rfl⟩,HO.u.2⟩
  have ti:¬(i:Int)<ws.length:=by omega
  have HO:=aC (s.u.cL (.inl I));go_wp2_with fail
  refine Yw (Zr rfl _ _ _) rfl ?_;exact⟨⟨_,rfl⟩,HO.u.2⟩
 have t1:((D.er:Int) !=0)=true:=by rw[ZI];omega
 rw[wR Q]at U;have bk:Hid (nr rec can fs b a n=b.dH D.er n):=aC (by rw[HR.u,Yd Q]);go_region_held3 (λw'=>w'.χ bb 1=some (.slice aN m.cZ.length cN)/\w'.χ lb 3=some (σ a)) (first|with_reducible exact⟨c1,l2⟩|with_reducible exact⟨K,N⟩|go_keep) (first|(go_at_call 72;refine κ (U.u _ (X5 _ wA).drew) λw1 aa=>?_;have G :=(X5 _ wA).drew.trans aa;obtain⟨B,E,X⟩:=H1.u.qe HB.u ai.u G;have K :=B.cells.2.1;rw[aq.u]at K;have N :=E.cell 3 (by simp);have a4 :=E.cell 0 (by simp);simp only[X6,X7]at N a4;have O:=aC B;have ae:=aC X;clear aa G B E X))
 all_goals go_wp2_with (go_at_call 106;refine(nX O.u HH.u h0 D.er n).mono ?_;rintro e w4 hp;have HP:=aC (hp.bo ae.u);clear hp;obtain⟨⟨ev,rfl⟩,-⟩:=HP.u;skip)
 all_goals refine Yw (Zr rfl _ _ _) rfl ?_
 all_goals rw[bk.u]
 all_goals exact⟨⟨_,rfl⟩,HP.u.2⟩


