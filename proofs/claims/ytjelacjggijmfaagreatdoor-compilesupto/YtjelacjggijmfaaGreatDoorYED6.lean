/- . -/
import Derived.Test.YtjelacjggijmfaaGreatDoorYEA1
set_option maxHeartbeats 8000000
set_option maxRecDepth 20000
namespace Go.Proofs.YtjelacjggijmfaaGreatDoor
open Pl Mk Cp Proofs.Tryz
open RowKit
theorem Tryz.Nl:(Tryz.prog.info? 147).map (λi=>(i.zero,i.size,i.bytes))=some (some (.agg #[.slice none 0 0,.slice none 0 0,.slice none 0 0,.slice none 0 0,.bool false,.bool false]),6,104):=by kernel_rfl
theorem Tryz.Et:(Tryz.prog.info? 223).map (λi=>(i.zero,i.size,i.bytes))=some (some (.agg #[.string ⟨#[]⟩,.string ⟨#[]⟩,.bool false]),3,40):=by kernel_rfl
theorem Nc (N:ag->Nv)(a:ag):bM N (λ_=>none) [] 0 [] a (dd N a):=by obtain⟨d,c,-⟩:=zb N (λ_=>none) 301 0 (by omega) a.length a ak [] [];rw[Qf c];exact c
theorem vG {W:ax}{c:ay}{L:List Rn}(h:pN W c L)(f:AJ L)(a:ag)(g:a.length<=100000000):
 Calls prog 72 #[c,.string ⟨a.toArray⟩,.agg #[.bool false,.string ⟨#[]⟩,.string ⟨#[]⟩,.string ⟨#[]⟩,.string ⟨#[]⟩]] W λe d=>e= .returned (kf (dd (nR L) a))/\Below W.heap.size W d :=by have:=C' h f R_ g (r:=dd (nR L) a) (by rw[SN];exact Nc _ _);exact this
variable {a:List ag}
theorem wH {c:ag->Bool}{i:Nat}(h:i<a.length):(a.take (i+1)).any c=((a.take i).any c||c a[i]):=by rw[TW h,List.any_append];simp
variable {c:Er}
theorem uM (h:c.er=0):kf c= .tuple #[.string ⟨c.bE.toArray⟩,.int .i64 0]:=by unfold kf;rw[TP h,h];rfl
theorem ur (h:¬c.er=0):kf c= .tuple #[.string ⟨#[]⟩,.int .i64 (c.er:Int)]:=by unfold kf;rw[TJ h]
variable {d:Nat}
theorem cG.oT {L0 c W X:ax}{bb lb:Nat}{vf:ay}{fs:List aI}{m:Bm}{vs:List ay}(h:cG L0 W bb vf fs m)(e:aG W lb d vs)(f:dN c W bb m.os m.os)(a:Below W.heap.size W X):cG L0 X bb vf fs m/\aG X lb d vs/\dN c X bb m.os m.os:=⟨(h.aE a).1,e.aE a,f.trans (h.aE a).2⟩
variable {f:List ay}
theorem cG.lZ {L0 W X:ax}{bb e k n:Nat}{vf v:ay}{fs:List aI}{m:Bm}(h:cG L0 W bb vf fs m)(d:X.ownsRow W.heap.size e k v n f):Fz X bb m.os v:=λq c=>by have g:=T3 d q c;have j:=h.row.lt;refine⟨g.2,by omega,λu a e=> ?_⟩;have:=(h.bI u a q e.symm).2;omega
theorem y' (a:ag)(c:a.length<=2000)(w:ax):Calls prog 151 #[.string ⟨a.toArray⟩] w λe w'=>∃v,e= .returned v/\ep w' w.heap.size v (bH a)/\Below w.heap.size w w' :=by have:=J2 ⟨a.toArray⟩ w (by rw[eh];omega);exact this
theorem DS (a:ag)(c:a.length<=2000)(w:ax):Calls prog 152 #[.string ⟨a.toArray⟩] w λe w'=>e= .returned (.int .i64 (dP a:Int))/\w' =w:=by have:=J9 ⟨a.toArray⟩ w (by rw[eh];omega);exact this
def nV (a:List ag):Bool:=decide (a=[ra])
theorem Bm.Qe (m:Bm)(a:List Rm)(z:Rm)(v:ay):({m with xs:=a++[z],vR:=v}:Bm).os=[m.vN,v,z.vs,z.vl]:=by unfold Bm.os;rw[Bm.og (m:={m with xs:=a++[z],vR:=v}) rfl]
theorem QI (y:ag):(y==[46,80,72,79,78,89])=nV [y]:=by
 unfold nV;rw[U3,UR,ZF];constructor
 ·rintro rfl;rfl
 ·intro h;exact(List.cons.inj h).1
theorem RG (h:¬a.length=1):false=nV a:=by unfold nV;exact(UA λe=>h (by rw[e];rfl)).symm
theorem Ps {L0 W:ax}{bb:Nat}{vf:ay}{fs:List aI}{m:Bm}{b:Bk}(h:cG L0 W bb vf fs m)(z:jF m b)(h0:b.cy=0)(hS:mi b)(n:Nat)(kd:Int)(d f:ag)(hl:d.length<=100000000)(hr:f.length<=100000000):
 Calls prog 108 #[.pointer (some ⟨bb,0,none⟩),pO n kd ⟨d.toArray⟩ ⟨f.toArray⟩] W λx W'=>mW L0 bb vf fs m.os (fZ b d f n) W x W' :=by
 have HR:Hid (fZ b d f n=if(dd (nR b.aV) d).er≠0 then b.dk (dd (nR b.aV) d).er n
  else if(dd (nR b.aV) f).er≠0 then b.dk (dd (nR b.aV) f).er n
  else if mN (bH (dd (nR b.aV) d).bE) (bH (dd (nR b.aV) f).bE)=true then b.dk 1 n
  else if 64<=b.aD.length then b.dk 5 n
  else {b with aD:=b.aD++[fC (bH (dd (nR b.aV) d).bE) (bH (dd (nR b.aV) f).bE)]}):=aB rfl
 have a7:=np (nR b.aV) d;have aY:=np (nR b.aV) f;have br:Below W.heap.size W (W.alloc (.cells #[.int .i64 (n:Int),.int .u8 kd,.string ⟨d.toArray⟩,.string ⟨f.toArray⟩] 218)):=aj W _;obtain⟨j,bh⟩:=h.aE br;have HB:=aB (aG.bA W 218 [.int .i64 (n:Int),.int .u8 kd,.string ⟨d.toArray⟩,.string ⟨f.toArray⟩]);have cq:bb<W.heap.size:=h.row.lt;have bO:=z.len;have ap:=z.cK;unfold pO;go_enter func108,ntmps108;go_upto_region 1 with fail
 generalize b_:W.alloc (.cells #[.int .i64 (n:Int),.int .u8 kd,.string ⟨d.toArray⟩,.string ⟨f.toArray⟩] 218)=wA at*;generalize b5:W.heap.size=lb at*;have HL:=HB.u.lt;have HH:=aB z;have cs:=j.row.lt;obtain⟨aN,cN,bN,oN,ao,-,-,-⟩:=j.rU;obtain⟨-,K,-,-,-,-⟩:=j.cells;rw[ao] at K;have am:Hid (∀w,Below wA.heap.size wA w->Calls prog 72 #[.slice aN m.cK.length cN,.string ⟨d.toArray⟩,.agg #[.bool false,.string ⟨#[]⟩,.string ⟨#[]⟩,.string ⟨#[]⟩,.string ⟨#[]⟩]] w λe W'=>e= .returned (kf (dd (nR b.aV) d))/\Below w.heap.size w W'):=aB λw hb=>by have s:=j.rU.aE hb;rw[ao,ap] at s;rw[ap];exact vG s hS.aV d hl
 have aC:Hid (∀w,Below wA.heap.size wA w->Calls prog 72 #[.slice aN m.cK.length cN,.string ⟨f.toArray⟩,.agg #[.bool false,.string ⟨#[]⟩,.string ⟨#[]⟩,.string ⟨#[]⟩,.string ⟨#[]⟩]] w λe W'=>e= .returned (kf (dd (nR b.aV) f))/\Below w.heap.size w W'):=aB λw hb=>by have s:=j.rU.aE hb;rw[ao,ap] at s;rw[ap];exact vG s hS.aV f hr
 have H1:=aB j;have aU:=aB bh;have l2:=HB.u.cell 2 (by simp);simp only[TG,TI] at l2;have aA:=aB ao;have cn:=aB hS.gG;generalize dd (nR b.aV) d=G at*;generalize dd (nR b.aV) f=R at*;clear b_ b5 h j bh br z hS ao ap hl hr;by_cases e1:G.er=0
 ·rw[uM e1] at am;go_region_held3 (λw'=>w'.cell? ⟨bb,1,none⟩=some (.slice aN m.cK.length cN)/\w'.cell? ⟨lb,2,none⟩=some (.string ⟨d.toArray⟩)) (first|with_reducible exact⟨K,l2⟩|with_reducible exact⟨A,ah⟩|go_keep) (first|(go_at_call 72;refine(am.u _ (TF _ wA).drew).mono ?_;rintro e w1 ⟨rfl,aq⟩;have ac :=(TF _ wA).drew.trans aq;obtain⟨V,I,f1⟩:=H1.u.oT HB.u aU.u ac;have A :=V.cells.2.1;rw[aA.u] at A;have ah :=I.cell 2 (by simp);simp only[TG,TI] at ah;have aa:=aB V;have Z:=aB I;have aw:=aB f1;have bf:=aB ac;clear aq ac V I f1)|fail)
  go_upto_region 4 with fail
  clear K l2 A ah am H1 HB aU;obtain⟨-,K,-,-,-,-⟩:=aa.u.cells;rw[aA.u] at K;have l3:=Z.u.cell 3 (by simp);simp only[TG,TI] at l3;have ct:=aa.u.row.lt;have cw:=Z.u.lt;by_cases e2:R.er=0
  ·rw[uM e2] at aC;go_region_held3 (λw'=>w'.cell? ⟨bb,1,none⟩=some (.slice aN m.cK.length cN)/\w'.cell? ⟨lb,3,none⟩=some (.string ⟨f.toArray⟩)) (first|with_reducible exact⟨K,l3⟩|with_reducible exact⟨A,af⟩|go_keep) (first|(go_at_call 72;refine(aC.u _ bf.u.drew).mono ?_;rintro e w2 ⟨rfl,az⟩;have av :=(TF _ w1).drew.trans az;obtain⟨m2,F,f2⟩:=aa.u.oT Z.u aw.u av;have A :=m2.cells.2.1;rw[aA.u] at A;have af :=F.cell 3 (by simp);simp only[TG,TI] at af;have al:=aB m2;have aQ:=aB F;have aJ:=aB f2;clear az av m2 F f2)|fail)
   clear A af K l3 aC aa Z aw bf;have bc:Hid (fZ b d f n=if mN (bH G.bE) (bH R.bE)=true then b.dk 1 n else if 64<=b.aD.length then b.dk 5 n else {b with aD:=b.aD++[fC (bH G.bE) (bH R.bE)]}):=aB (by rw[HR.u,TJ (λe=>e e1),TJ (λe=>e e2)]);have bq:=aB (y' G.bE a7.1);have bG:=aB (y' R.bE aY.1);obtain⟨cv,b4,-⟩:=ux a7.1;obtain⟨cr,b1,-⟩:=ux aY.1;generalize ch:G.bE=t1 at*;generalize b6:R.bE=t2 at*;generalize bH t1=a at*;generalize bH t2=c at*;clear a7 aY HR ch b6 e1 e2;have tb:((a.length:Int)==0)=decide (a.length=0):=by rw[U3,UR,ZF];omega
   go_wp2_with (first|(go_at_call 151;refine(bq.u _).mono ?_;rintro e w3 ⟨v3,rfl,a8,bi⟩;obtain⟨B,r,rfl⟩:=dX a8;have aL:=aB a8;have a':=aB bi;clear bq a8 bi)|(go_at_call 151;refine(bG.u _).mono ?_;rintro e g ⟨v4,rfl,aZ,bo⟩;obtain⟨p,t,rfl⟩:=dX aZ;have aW:=aB aZ;have aH:=aB bo;clear bG aZ bo)|fail)
   have bD:=aG.bA g 147 [.slice B a.length r,.slice p c.length t,.slice none 0 0,.slice none 0 0,.bool false,.bool false];have bk:Below g.heap.size g (g.alloc (.cells #[.slice B a.length r,.slice p c.length t,.slice none 0 0,.slice none 0 0,.bool false,.bool false] 147)):=aj g _;have bm:=a'.u.tr aH.u;obtain⟨m4,r4,f4⟩:=al.u.oT aQ.u aJ.u bm;have s3:=(ep.tL aL.u).aE aH.u;have s4:=ep.tL aW.u;have z3:Fz g bb m.os (.slice B a.length r):=al.u.lZ (X:=g) (bT aL.u λk H=>aH.u.block k (T3 aL.u k H).2);have z4:Fz g bb m.os (.slice p c.length t):=al.u.lZ (X:=g) (pZ aW.u a'.u.size);have aF:=aB m4;have bn:=aB r4;have bs:=aB f4;have aO:=aB s3;have ba:=aB s4;have bz:=aB z3;have bx:=aB z4;clear al aQ aJ m4 r4 f4 s3 s4 z3 z4 bm aL aW a' aH;generalize bY:g.alloc (.cells #[.slice B a.length r,.slice p c.length t,.slice none 0 0,.slice none 0 0,.bool false,.bool false] 147)=wB at*;have cd:=aB bD;have b3:=aB bk;generalize bS:g.heap.size=rb at*;have ai:=aB bS;clear bY bD bk bS tb;go_loopw [8,9] (λbv iv wr=>∃(i:Nat) (J o:Bool),bv= .bool J/\iv= .int .i64 i/\i<=a.length/\Hid (J=(decide (a.length=0)||(a.take i).any (oH a)))/\Hid (o=(a.take i).any λY=>decide (0<dP Y))/\Hid (aG wr rb 147 [.slice B a.length r,.slice p c.length t,.slice none 0 0,.slice none 0 0,.bool o,.bool false])/\Hid (Below rb g wr)) (λ_ iv _=>a.length-aS iv)
   case atStart=>exact⟨0,_,false,rfl,rfl,TS _,aB (by simp),aB (by simp),cd,b3⟩
   case round=>
    obtain⟨i,J,o,rfl,rfl,z,a0,a6,D,ad⟩:=hrel;have x0:=D.u.cell 0 (by simp);have x4:=D.u.cell 4 (by simp);have g4:=D.u.frozen 4;simp only[TG,TI] at x0 x4;by_cases H:i<a.length
    ·have ti:(i:Int)<(a.length:Int):=by omega
     obtain⟨a9,k9,b9,o9,ar,Q,P⟩:=aO.u.aE (ai.u▸ad.u);cases ar;obtain⟨rfl,-⟩:=Q (by omega);have e9:=P i H;unfold aK at e9;have CC:=aB (DS a[i] (b4 _ (TV H)));have aX:Hid ((a.take (i+1)).any (oH a)=((a.take i).any (oH a)||(decide (1<dP a[i])||(decide (0<dP a[i])&&decide (1<a.length))))):=aB (wH H);have ca:Hid ((a.take (i+1)).any (λY=>decide (0<dP Y))=((a.take i).any (λY=>decide (0<dP Y))||decide (0<dP a[i]))):=aB (wH H);clear Q P;generalize a[i]=y at*;generalize dP y=N at*;go_upto_region 13 with(first|(go_at_call 152;refine(CC.u _).mono ?_;rintro e w5 ⟨rfl,rfl⟩)|fail)
     go_cut [] from 71 to 77 (λwx=>∃p',Hid (p' =(o||decide (0<N)))/\Hid (aG wx rb 147 [.slice (some ⟨b9,o9,none⟩) a.length r,.slice p c.length t,.slice none 0 0,.slice none 0 0,.bool p',.bool false])/\Hid (Below rb g wx))
     case first=>
      have a1:Hid (∀q:Bool,q=(o||decide (0<N))->∃p',Hid (p' =(o||decide (0<N)))/\Hid (aG (w5.setCell ⟨rb,4,none⟩ (.bool q)) rb 147 [.slice (some ⟨b9,o9,none⟩) a.length r,.slice p c.length t,.slice none 0 0,.slice none 0 0,.bool p',.bool false])/\Hid (Below rb g (w5.setCell ⟨rb,4,none⟩ (.bool q)))):=aB λq U=>⟨q,aB U,aB (D.u.set 4 (.bool q)),aB (ad.u.setCell (p:=⟨rb,4,none⟩) ak _)⟩;cases o with
      |true=>
       go_wp2_with fail
       go_meet
       case rel=>exact a1.u true (by simp)
      |false=>
       by_cases hN:0<N
       ·have tn:(0:Int)<(N:Int):=by omega
        go_wp2_with fail
        go_meet
        case rel=>exact a1.u true (by simp[hN])
       ·have tn:¬(0:Int)<(N:Int):=by omega
        go_wp2_with fail
        go_meet
        case rel=>exact a1.u false (by simp[hN])
     case rest=>
      obtain⟨p',cf,bF,bZ⟩:=hcut;have y0:=bF.u.cell 0 (by simp);simp only[TG] at y0;have l:Hid (∀q:Bool,q=(J||(decide (1<N)||(decide (0<N)&&decide (1<a.length))))->∃(S:Nat) (bR bL :Bool),Value.bool q= .bool bR /\Value.int .i64 ((i:Int)+1)= .int .i64 (S:Int)/\S<=a.length/\Hid (bR =(decide (a.length=0)||(a.take S).any (oH a)))/\Hid (bL =(a.take S).any λY=>decide (0<dP Y))/\Hid (aG wc rb 147 [.slice (some ⟨b9,o9,none⟩) a.length r,.slice p c.length t,.slice none 0 0,.slice none 0 0,.bool bL,.bool false])/\Hid (Below rb g wc)):=aB λq U=>⟨i+1,q,p',rfl,by go_num,by omega,aB (by rw[aX.u,<-Y9,<-a0.u];exact U),aB (by rw[ca.u,<-a6.u];exact cf.u),bF,bZ⟩;have tl:(1:Int)<(a.length:Int)\/¬(1:Int)<(a.length:Int):=by omega
      clear x0 x4 g4 D ad;cases J with
      |true=>
       go_wp2_with fail
       first
        |exact⟨l.u true (by simp),by simp only[aS];omega⟩
        |(go_roundw;exact l.u true (by simp);simp only[aS];omega)
      |false=>
       by_cases j:1<N
       ·have tn:(1:Int)<(N:Int):=by omega
        go_wp2_with fail
        first
         |exact⟨l.u true (by simp[j]),by simp only[aS];omega⟩
         |(go_roundw;exact l.u true (by simp[j]);simp only[aS];omega)
       ·have tn:¬(1:Int)<(N:Int):=by omega
        by_cases s:0<N
        ·have a_:(0:Int)<(N:Int):=by omega
         rcases tl with tl|tl
         ·have h3:1<a.length:=by omega
          go_wp2_with fail
          first
           |exact⟨l.u true (by simp[s,h3]),by simp only[aS];omega⟩
           |(go_roundw;exact l.u true (by simp[s,h3]);simp only[aS];omega)
         ·have h3:¬1<a.length:=by omega
          go_wp2_with fail
          first
           |exact⟨l.u false (by simp[j,h3]),by simp only[aS];omega⟩
           |(go_roundw;exact l.u false (by simp[j,h3]);simp only[aS];omega)
        ·have a_:¬(0:Int)<(N:Int):=by omega
         go_wp2_with fail
         first
          |exact⟨l.u false (by simp[j,s]),by simp only[aS];omega⟩
          |(go_roundw;exact l.u false (by simp[j,s]);simp only[aS];omega)
    ·have ti:¬(i:Int)<(a.length:Int):=by omega
     have hit:i=a.length:=by omega
     subst hit;have ce:Hid (J=(decide (a.length=0)||a.any (oH a))):=aB (by rw[a0.u,Us]);have bB:Hid (o=eJ a):=aB (by rw[a6.u,Us];rfl);clear a0 a6 x4 g4 z;go_wp2_with fail
     clear x0;go_loopw [8,11] (λbv iv wz=>∃(i:Nat) (be:Bool),bv= .bool be/\iv= .int .i64 i/\i<=c.length/\Hid (be=(J||(c.take i).any (qq o)))/\wz=wr) (λ_ iv _=>c.length-aS iv)
     case atStart=>exact⟨0,J,rfl,rfl,TS _,aB (by simp),rfl⟩
     case round=>
      obtain⟨i,be,rfl,rfl,z,bM,cg⟩:=hrel;subst cg;have G:=D.u.cell 1 (by simp);have x4:=D.u.cell 4 (by simp);simp only[TG,TI] at G x4;by_cases H:i<c.length
      ·have tj:(i:Int)<(c.length:Int):=by omega
       obtain⟨a9,k9,b9,o9,ar,Q,P⟩:=ba.u.aE (ai.u▸ad.u);cases ar;obtain⟨rfl,-⟩:=Q (by omega);have e9:=P i H;unfold aK at e9;have CC:=aB (DS c[i] (b1 _ (TV H)));have aX:Hid ((c.take (i+1)).any (qq o)=((c.take i).any (qq o)||(decide (1<dP c[i])||(decide (0<dP c[i])&& !o)))):=aB (wH H);clear Q P;generalize c[i]=y at*;generalize dP y=N at*;have l:Hid (∀q:Bool,q=(be||(decide (1<N)||(decide (0<N)&& !o)))->∃(S:Nat) (bl :Bool),Value.bool q= .bool bl /\Value.int .i64 ((i:Int)+1)= .int .i64 (S:Int)/\S<=c.length/\Hid (bl =(J||(c.take S).any (qq o)))/\wr=wr):=aB λq U=>⟨i+1,q,rfl,by go_num,by omega,aB (by rw[aX.u,<-Y9,<-bM.u];exact U),rfl⟩;cases be with
       |true=>
        go_wp2_with (first|(go_at_call 152;refine(CC.u _).mono ?_;rintro e _ ⟨rfl,M⟩;subst M)|fail)
        first
         |exact⟨l.u true (by simp),by simp only[aS];omega⟩
         |(go_roundw;exact l.u true (by simp);simp only[aS];omega)
       |false=>
        by_cases j:1<N
        ·have tn:(1:Int)<(N:Int):=by omega
         go_wp2_with (first|(go_at_call 152;refine(CC.u _).mono ?_;rintro e _ ⟨rfl,M⟩;subst M)|fail)
         first
          |exact⟨l.u true (by simp[j]),by simp only[aS];omega⟩
          |(go_roundw;exact l.u true (by simp[j]);simp only[aS];omega)
        ·have tn:¬(1:Int)<(N:Int):=by omega
         by_cases s:0<N
         ·have a_:(0:Int)<(N:Int):=by omega
          cases o with
          |true=>
           go_wp2_with (first|(go_at_call 152;refine(CC.u _).mono ?_;rintro e _ ⟨rfl,M⟩;subst M)|fail)
           first
            |exact⟨l.u _ (by rw[show decide ((1:Int)<(N:Int))=false from UA (by omega)];simp[j]),by simp only[aS];omega⟩
            |(go_roundw;exact l.u _ (by rw[show decide ((1:Int)<(N:Int))=false from UA (by omega)];simp[j]);simp only[aS];omega)
          |false=>
           go_wp2_with (first|(go_at_call 152;refine(CC.u _).mono ?_;rintro e _ ⟨rfl,M⟩;subst M)|fail)
           first
            |exact⟨l.u true (by simp[s]),by simp only[aS];omega⟩
            |(go_roundw;exact l.u true (by simp[s]);simp only[aS];omega)
         ·have a_:¬(0:Int)<(N:Int):=by omega
          go_wp2_with (first|(go_at_call 152;refine(CC.u _).mono ?_;rintro e _ ⟨rfl,M⟩;subst M)|fail)
          first
           |exact⟨l.u _ (by rw[show decide ((1:Int)<(N:Int))=false from UA (by omega)];simp[j,s]),by simp only[aS];omega⟩
           |(go_roundw;exact l.u _ (by rw[show decide ((1:Int)<(N:Int))=false from UA (by omega)];simp[j,s]);simp only[aS];omega)
      ·have tj:¬(i:Int)<(c.length:Int):=by omega
       have a5:Hid (be=mN a c):=aB (by rw[bM.u,show i=c.length by omega,Us,ce.u,bB.u];rfl);have ae:Below g.heap.size g wr:=ai.u▸ad.u;obtain⟨O,r5,f5⟩:=aF.u.oT bn.u bs.u ae;have l0:=r5.cell 0 (by simp);simp only[TG] at l0;cases be with
       |true=>
        have L:Hid (fZ b d f n=b.dk 1 n):=aB (by rw[bc.u,TP a5.u.symm]);have au:=aB O;have an:=aB f5;clear O r5 f5 ae;go_wp2_with (first|(go_at_call 106;refine(mC au.u HH.u h0 1 n).mono ?_;rintro e w9 C;have E:=aB (C.bj an.u);clear C;obtain⟨⟨ev,rfl⟩,-⟩:=E.u;skip)|fail)
        refine Ua (U' rfl _ _ _) rfl ?_;rw[L.u];exact⟨⟨_,rfl⟩,E.u.2⟩
       |false=>
        obtain⟨aR,cR,aM⟩:=dX O.f_;obtain⟨-,-,c2,-,-,-⟩:=O.cells;rw[aM] at c2;by_cases cm:64<=m.xs.length
        ·have L:Hid (fZ b d f n=b.dk 5 n):=aB (by rw[bc.u,<-a5.u,TJ (by decide),TP (by omega)]);have au:=aB O;have an:=aB f5;have cj:(64:Int)<=(m.xs.length:Int):=by omega
         clear O r5 f5 ae aM bO;go_wp2_with (first|(go_at_call 106;refine(mC au.u HH.u h0 5 n).mono ?_;rintro e w9 C;have E:=aB (C.bj an.u);clear C;obtain⟨⟨ev,rfl⟩,-⟩:=E.u;skip)|fail)
         refine Ua (U' rfl _ _ _) rfl ?_;rw[L.u];exact⟨⟨_,rfl⟩,E.u.2⟩
        ·have L:Hid (fZ b d f n={b with aD:=b.aD++[fC a c]}):=aB (by rw[bc.u,<-a5.u,TJ (by decide),TJ (by omega)]);have cj:¬(64:Int)<=(m.xs.length:Int):=by omega
         have bQ:pG wr bb m.os ⟨a,c,[],[],eJ a,nV a,.slice B a.length r,.slice p c.length t,.slice none 0 0,.slice none 0 0⟩:=(show pG g bb m.os _ from⟨aO.u,bz.u,ba.u,bx.u⟩).cF (aF.u.aE ae).2;have au:=aB O;have an:=aB f5;have b7:=aB bQ;have aP:=aB aM;have bC:=aB (aO.u.aE ae);clear O r5 f5 ae aM bO bQ l0;go_upto_region 24 with fail
         have x0:=D.u.cell 0 (by simp);have g5:=D.u.frozen 5;have x5:=D.u.cell 5 (by simp);simp only[TG,TI] at x0 x5;have bJ:Hid (∀q,q=nV a->Hid (aG (wr.setCell ⟨rb,5,none⟩ (.bool q)) rb 147 [.slice B a.length r,.slice p c.length t,.slice none 0 0,.slice none 0 0,.bool o,.bool (nV a)])):=aB λq U=>aB (by rw[<-U];exact D.u.set 5 (.bool q));have bu:Hid (∀q,Hid (Below rb wr (wr.setCell ⟨rb,5,none⟩ (.bool q)))):=aB λq=>aB ((TF _ _).setCell (p:=⟨rb,5,none⟩) ak _);go_cut [] from 135 (λwx=>Hid (aG wx rb 147 [.slice B a.length r,.slice p c.length t,.slice none 0 0,.slice none 0 0,.bool o,.bool (nV a)])/\Hid (Below rb wr wx))
         case first=>
          by_cases j:a.length=1
          ·obtain⟨y,rfl⟩:∃y,a=[y]:=List.length_eq_one_iff.1 j;obtain⟨a9,k9,b9,o9,ar,Q,P⟩:=bC.u;cases ar;obtain⟨rfl,-⟩:=Q (by simp);have e9:=P 0 (by simp);simp only[aK,TG,Ve] at e9;clear Q P;go_wp2_with fail
           go_meet
           case rel=>exact⟨bJ.u _ (QI y),bu.u _⟩
          ·have t1:((a.length:Int)==1)=false:=by rw[TQ];omega
           go_wp2_with fail
           go_meet
           case rel=>exact⟨bJ.u _ (RG j),bu.u _⟩
         case rest=>
          obtain⟨ab,cb⟩:=hcut;have aT:Below g.heap.size g wc:=(ai.u▸ad.u:Below g.heap.size g wr).trans (ai.u▸cb.u);obtain⟨m6,r6,f6⟩:=aF.u.oT bn.u bs.u aT;have bP:pG wc bb m.os ⟨a,c,[],[],eJ a,nV a,.slice B a.length r,.slice p c.length t,.slice none 0 0,.slice none 0 0⟩:=(show pG g bb m.os _ from⟨aO.u,bz.u,ba.u,bx.u⟩).cF (aF.u.aE aT).2;obtain⟨-,-,b0,-,-,-⟩:=m6.cells;rw[aP.u] at b0;have g2:=m6.row.frozen 2;have q0:=ab.u.cell 0 (by simp);have q1:=ab.u.cell 1 (by simp);have q2:=ab.u.cell 2 (by simp);have q3:=ab.u.cell 3 (by simp);have q4:=ab.u.cell 4 (by simp);have q5:=ab.u.cell 5 (by simp);simp only[TG,TI] at q0 q1 q2 q3 q4 q5;have bU:=aB m6.f_;rw[aP.u] at bU;have co:=m6.row.lt;have cu:=ab.u.lt;have cx:rb≠bb:=by have:=ai.u;have:=aF.u.row.lt;omega
          have ck:=aB m6;have ci:=aB f6;have b2:=aB bP;obtain⟨i0,bI,bp,bK,bV⟩:=UF Tryz.Nl;have bW:=aB bI;have cc:=aB bp;have b':=aB bK;have b8:=aB bV;rw[bB.u] at q4;clear bI bp bK bV m6 r6 f6 aT bP c2 x0 g5 x5 au an b7 bC;have bX:Hid (∀v:ay,jF {m with xs:=m.xs++[⟨a,c,[],[],eJ a,nV a,.slice B a.length r,.slice p c.length t,.slice none 0 0,.slice none 0 0⟩],vR:=v} (fZ b d f n)):=aB λv=>by rw[L.u];have z:=HH.u;refine⟨z.cK,z.tk,z.er,z.ln,?_⟩;show(m.xs++[_]).map Rm.key=(b.aD++[_]).map Ru.key;rw[T',T',z.rs];rfl
          generalize nV a=ph at*;generalize eJ a=pt at*;go_wp2_with fail
          go_region_law (refine qM rfl (.tmp 151) (.tmp 153) 109 rfl (bb+1) 147 i0 _ 6 104 underlying109 bW.u cc.u b'.u b8.u rfl (by decide) _ m.xs.length _ (by simp[Act.eval]) (bU.u.alloc _) ⟨_,0,none⟩ 1 1 [.slice B a.length r,.slice p c.length t,.slice none 0 0,.slice none 0 0,.bool pt,.bool ph] (by simp[Act.eval]) rfl (gw _ _ [.slice B a.length r,.slice p c.length t,.slice none 0 0,.slice none 0 0,.bool pt,.bool ph]) (by intro u hu;simp at hu;rcases hu with rfl|rfl|rfl|rfl|rfl<;>rfl) (by unfold maxLen;omega) (by omega) (by simp;omega) ?_;intro v1 w2 bg bw bt;obtain⟨g1,cl,rfl,-,-⟩:=d_ bg (by omega);obtain⟨I,F,r3⟩:=ck.u.push b2.u (by rw[aP.u];exact oU bw) bg (by rw[aP.u];rcases bt with e|e;exact .inl e;exact .inr ⟨_,e,by simp⟩);have e2:=r3.cell 2 (by simp);have f2:=r3.frozen 2;simp only[TG,TI] at e2;have Z:=aB I;have aQ:=aB (ci.u.trans F);clear bg bw bt I F r3)
          all_goals go_wp2_with fail
          all_goals refine Ua (U' rfl _ _ _) rfl ?_
          all_goals exact⟨⟨_,rfl⟩,_,Z.u,bX.u _,by rw[Bm.Qe];exact aQ.u⟩
  ·have cp:((R.er:Int) !=0)=true:=by rw[UY];omega
   rw[ur e2] at aC;have L:Hid (fZ b d f n=b.dk R.er n):=aB (by rw[HR.u,TJ (λe=>e e1),TP e2]);go_region_held3 (λw'=>w'.cell? ⟨bb,1,none⟩=some (.slice aN m.cK.length cN)/\w'.cell? ⟨lb,3,none⟩=some (.string ⟨f.toArray⟩)) (first|with_reducible exact⟨K,l3⟩|with_reducible exact⟨A,af⟩|go_keep) (first|(go_at_call 72;refine(aC.u _ bf.u.drew).mono ?_;rintro e w2 ⟨rfl,az⟩;have av :=(TF _ w1).drew.trans az;obtain⟨m2,F,f2⟩:=aa.u.oT Z.u aw.u av;have A :=m2.cells.2.1;rw[aA.u] at A;have af :=F.cell 3 (by simp);have a2 :=F.cell 0 (by simp);simp only[TG,TI] at af a2;have al:=aB m2;have aJ:=aB f2;clear az av m2 F f2)|fail)
   all_goals go_wp2_with (first|(go_at_call 106;refine(mC al.u HH.u h0 R.er n).mono ?_;rintro e g C;have E:=aB (C.bj aJ.u);clear C;obtain⟨⟨ev,rfl⟩,-⟩:=E.u;skip)|fail)
   all_goals refine Ua (U' rfl _ _ _) rfl ?_
   all_goals rw[L.u]
   all_goals exact⟨⟨_,rfl⟩,E.u.2⟩
 ·have t1:((G.er:Int) !=0)=true:=by rw[UY];omega
  rw[ur e1] at am;have L:Hid (fZ b d f n=b.dk G.er n):=aB (by rw[HR.u,TP e1]);go_region_held3 (λw'=>w'.cell? ⟨bb,1,none⟩=some (.slice aN m.cK.length cN)/\w'.cell? ⟨lb,2,none⟩=some (.string ⟨d.toArray⟩)) (first|with_reducible exact⟨K,l2⟩|with_reducible exact⟨A,ah⟩|go_keep) (first|(go_at_call 72;refine(am.u _ (TF _ wA).drew).mono ?_;rintro e w1 ⟨rfl,aq⟩;have ac :=(TF _ wA).drew.trans aq;obtain⟨V,I,f1⟩:=H1.u.oT HB.u aU.u ac;have A :=V.cells.2.1;rw[aA.u] at A;have ah :=I.cell 2 (by simp);have a2 :=I.cell 0 (by simp);simp only[TG,TI] at ah a2;have aa:=aB V;have aw:=aB f1;clear aq ac V I f1)|fail)
  all_goals go_wp2_with (first|(go_at_call 106;refine(mC aa.u HH.u h0 G.er n).mono ?_;rintro e g C;have E:=aB (C.bj aw.u);clear C;obtain⟨⟨ev,rfl⟩,-⟩:=E.u;skip)|fail)
  all_goals refine Ua (U' rfl _ _ _) rfl ?_
  all_goals rw[L.u]
  all_goals exact⟨⟨_,rfl⟩,E.u.2⟩
def xR (L0:ax)(bb:Nat)(vf:ay)(fs:List aI)(T:Nat)(D:Int)(rec:Bk->ag->Bk):Prop:=∀(W:ax) (m:Bm) (b:Bk) (s:ag) (rest:Nat),cG L0 W bb vf fs m->jF m b->b.cy=0->s.length<=T->gR T b (rest+(T+1))->
 Calls prog 69 #[.pointer (some ⟨bb,0,none⟩),.string ⟨s.toArray⟩,.int .i64 D] W λx a=>mW L0 bb vf fs m.os (rec b s) W x a
structure oK (L0 W:ax)(bb lb:Nat)(vf v:ay)(fs:List aI)(os:List ay)(vs:List ay)(ws:List ag)(T rest n:Nat)(rec:Bk->ag->Bk)(can:Bool)(fin:Bk)(i:Nat)(m:Bm)(b:Bk)(wr:ax):Prop where
 mm:cG L0 wr bb vf fs m
 ii:jF m b
 f:dN W wr bb os m.os
 row:aG wr lb 218 vs
 ln:Fz wr bb m.os (.slice (some ⟨lb,0,none⟩) 0 0)
 w:e_ wr v ws
 wz:Fz wr bb m.os v
 bd:gR T b rest
 go:j5 rec can fs n (ws.drop i) b=fin
theorem aG.R5 {W X:ax}{bb lb:Nat}{os:List ay}{vs:List ay}(h:aG W lb d vs)(g:Fz W bb os (.slice (some ⟨lb,0,none⟩) 0 0))(j:dN W X bb os f):aG X lb d vs:=by obtain⟨e,a,c⟩:=g lb rfl;exact(j.jo lb e a c).trans h
section
variable {L0 W:ax} {bb lb:Nat} {vf v:ay} {fs:List aI} {os:List ay} {vs:List ay} {ws:List ag} {T rest n:Nat} {rec:Bk->ag->Bk} {can:Bool} {fin:Bk} {i:Nat} {m m' :Bm} {b:Bk} {wr w' :ax}
theorem oK.cF (h:oK L0 W bb lb vf v fs os vs ws T rest n rec can fin i m b wr)(l:px T rec)(r:∀p d,Pl.look fs p=some d->d.aT.length<=T)(g:n<=T+1)(c:i<ws.length)(j:b.cy=0)(q:cG L0 w' bb vf fs m')(o:jF m' (jk rec can fs b ws[i] n))(a:dN wr w' bb m.os m'.os):oK L0 W bb lb vf v fs os vs ws T rest n rec can fin (i+1) m' (jk rec can fs b ws[i] n) w' :=by
 refine⟨q,o,h.f.trans a,h.row.R5 h.ln a,h.ln.cF a,h.w.cF h.wz a,h.wz.cF a,?_,?_⟩
 ·exact gR.step (add:=0) h.bd λk c=>Ga l r c _ g
 ·have:=h.go;rw[T2 c,j5,TJ (λe=>e j)] at this;exact this
theorem oK.aE (h:oK L0 W bb lb vf v fs os vs ws T rest n rec can fin i m b wr)(a:Below wr.heap.size wr w'):oK L0 W bb lb vf v fs os vs ws T rest n rec can fin i m b w' :=⟨(h.mm.aE a).1,h.ii,h.f.trans (h.mm.aE a).2,h.row.aE a,h.ln.cF (h.mm.aE a).2,h.w.aE a,h.wz.cF (h.mm.aE a).2,h.bd,h.go⟩
theorem oK.cD (h:oK L0 W bb lb vf v fs os vs ws T rest n rec can fin i m b wr)(d:¬i<ws.length\/b.cy≠0):mW L0 bb vf fs os fin W (.returned (.tuple #[])) wr:=by
 have e:fin=b:=by
  have a:=h.go;by_cases c:i<ws.length
  ·rw[T2 c,j5,TP (d.resolve_left (λq=>q c))] at a;exact a.symm
  ·rw[U_ (by omega)] at a;exact a.symm
 rw[e];exact⟨⟨_,rfl⟩,m,h.mm,h.ii,h.f⟩
end
theorem KK {L0 W:ax}{bb:Nat}{vf:ay}{fs:List aI}{m:Bm}{b:Bk}{T rest:Nat}{rec:Bk->ag->Bk}{can:Bool}(h:cG L0 W bb vf fs m)(H:jF m b)(h0:b.cy=0)(hT:T<=1048576)(ai:gR T b rest)(aM:px T rec)(hf:∀aq av,Pl.look fs aq=some av->av.aT.length<=T)(a4:fs.length<=16777216)(Y:Nat)(aw:can=decide (Y<3))(hC:can=true->xR L0 bb vf fs T ((Y:Int)+1) rec)(n:Nat)(hn:n<=T+1)(B:Int)(L:az)(a:ag)(hr:a.length<=100000000):
 Calls prog 107 #[.pointer (some ⟨bb,0,none⟩),pO n B L ⟨a.toArray⟩,.int .i64 (Y:Int)] W λx W'=>mW L0 bb vf fs m.os (lV rec can fs b a n) W x W' :=by
 have HR:Hid (lV rec can fs b a n=if(dd (nR b.aV) a).er≠0 then b.dk (dd (nR b.aV) a).er n else j5 rec can fs n (bH (dd (nR b.aV) a).bE) b):=aB rfl;have al:=np (nR b.aV) a;have hS:=ai.size hT;have aC:Below W.heap.size W (W.alloc (.cells #[.int .i64 (n:Int),.int .u8 B,.string L,.string ⟨a.toArray⟩] 218)):=aj W _;obtain⟨N,ap⟩:=h.aE aC;have hB:=aG.bA W 218 [.int .i64 (n:Int),.int .u8 B,.string L,.string ⟨a.toArray⟩];have aQ:Fz (W.alloc (.cells #[.int .i64 (n:Int),.int .u8 B,.string L,.string ⟨a.toArray⟩] 218)) bb m.os (.slice (some ⟨W.heap.size,0,none⟩) 0 0):=λq hq=>by have a2 :W.heap.size=q:=UX hq;subst a2;refine⟨by rw[TM];omega,by have:=h.row.lt;omega,λu hu e=> ?_⟩;have:=(h.bI u hu _ e.symm).2;omega
 have bo:bb<W.heap.size:=h.row.lt;have ah:=H.cK;obtain⟨M,cf,R,nW,aO,ad,a0⟩:=h.fl;have bc:=aB aO;have a':Hid (∀w,Below L0.heap.size L0 w->dA w R nW fs):=aB λw hb i H=>a0.aL hb (ad (by omega)).2 i H;have aR:Hid (0<fs.length->M=some ⟨R,nW,none⟩):=aB λe=>(ad e).1;have a7:Hid (0<fs.length->R<bb):=aB λe=>T7 (ad e).2 h.lt;clear ad a0 aO;unfold pO;go_enter func107,ntmps107;go_upto_region 1 with fail
 generalize a_:W.alloc (.cells #[.int .i64 (n:Int),.int .u8 B,.string L,.string ⟨a.toArray⟩] 218)=wA at*;generalize a5:W.heap.size=lb at*;have HB:=aB hB;have aP:=aB aQ;have br:=hB.lt;have HH:=aB H;have bh:=N.row.lt;obtain⟨aN,cN,bN,oN,ab,-,-,-⟩:=N.rU;obtain⟨-,c1,-,-,-,-⟩:=N.cells;rw[ab] at c1;have P:Hid (∀w,Below wA.heap.size wA w->Calls prog 72 #[.slice aN m.cK.length cN,.string ⟨a.toArray⟩,.agg #[.bool false,.string ⟨#[]⟩,.string ⟨#[]⟩,.string ⟨#[]⟩,.string ⟨#[]⟩]] w λe W'=>e= .returned (kf (dd (nR b.aV) a))/\Below w.heap.size w W'):=aB λw hb=>by have h2:=N.rU.aE hb;rw[ab,ah] at h2;rw[ah];exact vG h2 hS.aV a hr
 have H1:=aB N;have ae:=aB ap;have l2:=hB.cell 3 (by simp);simp only[TG,TI] at l2;have aW:=aB ab;have aa:=aB aM;have Z:=aB hf;have HC:=aB hC;have aD:=aB ai;have aF:=aB aw;generalize dd (nR b.aV) a=z at*;clear a_ a5 h N ap aC H hS ab ah hr hB aQ aM hf hC ai aw;by_cases V:z.er=0
 ·rw[uM V] at P;go_region_held3 (λw'=>w'.cell? ⟨bb,1,none⟩=some (.slice aN m.cK.length cN)/\w'.cell? ⟨lb,3,none⟩=some (.string ⟨a.toArray⟩)) (first|with_reducible exact⟨c1,l2⟩|with_reducible exact⟨J,K⟩|go_keep) (first|(go_at_call 72;refine(P.u _ (TF _ wA).drew).mono ?_;rintro e w1 ⟨rfl,U⟩;have G :=(TF _ wA).drew.trans U;obtain⟨y,E,S⟩:=H1.u.oT HB.u ae.u G;have J :=y.cells.2.1;rw[aW.u] at J;have K :=E.cell 3 (by simp);simp only[TG,TI] at K;have I:=aB y;have aH:=aB E;have ac:=aB S;have aJ:=aB (aP.u.cF (H1.u.aE G).2);clear U G y E S)|fail)
  clear c1 l2 J K P H1 HB ae aP;have aY:Hid (lV rec can fs b a n=j5 rec can fs n (bH z.bE) b):=aB (by rw[HR.u,TJ (λe=>e V)]);have aA:=aB (y' z.bE al.1);obtain⟨bq,bn,-⟩:=ux al.1;generalize bk:z.bE=t1 at*;generalize bH t1=ws at*;clear al HR bk V;go_wp2_with (first|(go_at_call 151;refine(aA.u _).mono ?_;rintro e w3 ⟨v3,rfl,am,ar⟩;obtain⟨a3,k3,rfl⟩:=dX am;have ak:=aB am;have ao:=aB ar;clear aA am ar)|fail)
  have a6:Hid (oK L0 W bb lb vf (.slice a3 ws.length k3) fs m.os [.int .i64 (n:Int),.int .u8 B,.string L,.string ⟨a.toArray⟩] ws T rest n rec can (lV rec can fs b a n) 0 m b w3):=aB (by obtain⟨m4,r4,f4⟩:=I.u.oT aH.u ac.u ao.u;exact⟨m4,HH.u,f4,r4,aJ.u.cF (I.u.aE ao.u).2,ep.tL ak.u,I.u.lZ ak.u,aD.u,by rw[aY.u];rfl⟩);clear I aH ac aJ ao ak aD HH aY;go_loopw [9] (λiv wr=>∃(i:Nat) (m' :Bm) (c :Bk),iv= .int .i64 i/\i<=ws.length/\Hid (oK L0 W bb lb vf (.slice a3 ws.length k3) fs m.os [.int .i64 (n:Int),.int .u8 B,.string L,.string ⟨a.toArray⟩] ws T rest n rec can (lV rec can fs b a n) i m' c wr)) (λiv _=>ws.length-aS iv)
  case atStart=>exact⟨0,m,b,rfl,TS _,a6⟩
  case round=>
   obtain⟨i,m',c,rfl,H,s⟩:=hrel;obtain⟨X,-,-,c3,c4,-⟩:=s.u.mm.cells;have bh:=s.u.mm.row.lt;rw[bc.u] at X;rw[s.u.ii.er] at c4;rw[s.u.ii.tk] at c3;by_cases O:i<ws.length
   ·have ti:(i:Int)<(ws.length:Int):=by omega
    by_cases p:c.cy=0
    ·rw[p] at c4;obtain⟨a9,k9,b9,o9,ba,g,f⟩:=s.u.w;cases ba;obtain⟨rfl,-⟩:=g (by omega);have Q:=f i O;unfold aK at Q;have l0:=s.u.row.cell 0 (by simp);simp only[TG] at l0;have an:=a'.u _ s.u.mm.bU;have F:=aB (n_ fs ws[i] M cf R nW wr.drew aR.u an a4);unfold aK at F;have d:=aB (s.u.aE (TF _ wr).drew);have a1:=aB an;clear g f an;rcases oY (fs:=fs) (p:=ws[i]) with⟨C,r⟩|⟨k,bl,C,r⟩
     ·rw[C] at F;have A:Hid (jk rec can fs c ws[i] n=c.dk 2 n):=aB (by unfold jk;rw[r]);clear C r;go_wp2_with fail
      go_region_held3 (λw'=>w'.cell? ⟨bb,0,none⟩=some (.slice M fs.length cf)/\w'.cell? ⟨b9,o9+i,none⟩=some (.string ⟨ws[i].toArray⟩)) (first|with_reducible exact⟨X,Q⟩|go_keep) (first|(go_at_call 45;refine F.u.mono ?_;rintro e w5 ⟨rfl,D⟩;subst D)|fail)
      go_wp2_with (first|(go_at_call 106;refine(mC d.u.mm d.u.ii p 2 n).mono ?_;rintro e w9 ⟨⟨ev,rfl⟩,l,o,g,f⟩;have j:=aB (d.u.cF aa.u Z.u hn O p o (by rw[A.u];exact g) f);clear o g f)|fail)
      first
       |exact⟨⟨i+1,l,_,by go_num,by omega,j⟩,by simp only[aS];omega⟩
       |(go_roundw;exact⟨i+1,l,_,by go_num,by omega,j⟩;simp only[aS];omega)
     ·rw[C] at F;have bm:¬(k:Int)<0:=by omega
      cases t:can with
      |false=>
       have A:Hid (jk rec can fs c ws[i] n=c.dk 3 n):=aB (by unfold jk;rw[r];simp only;rw[TP t]);have td:(3:Int)<=(Y:Int):=by have:=aF.u;rw[t] at this;have:=Yh this.symm;omega
       clear C r;subst t;go_wp2_with fail
       go_region_held3 (λw'=>w'.cell? ⟨bb,0,none⟩=some (.slice M fs.length cf)/\w'.cell? ⟨b9,o9+i,none⟩=some (.string ⟨ws[i].toArray⟩)) (first|with_reducible exact⟨X,Q⟩|go_keep) (first|(go_at_call 45;refine F.u.mono ?_;rintro e w5 ⟨rfl,D⟩;subst D)|fail)
       go_wp2_with (first|(go_at_call 106;refine(mC d.u.mm d.u.ii p 3 n).mono ?_;rintro e w9 ⟨⟨ev,rfl⟩,l,o,g,f⟩;have j:=aB (d.u.cF aa.u Z.u hn O p o (by rw[A.u];exact g) f);clear o g f)|fail)
       first
        |exact⟨⟨i+1,l,_,by go_num,by omega,j⟩,by simp only[aS];omega⟩
        |(go_roundw;exact⟨i+1,l,_,by go_num,by omega,j⟩;simp only[aS];omega)
      |true=>
       have td:¬(3:Int)<=(Y:Int):=by have:=aF.u;rw[t] at this;have:=Xe this.symm;omega
       by_cases au:100<=c.cj
       ·have A:Hid (jk rec can fs c ws[i] n=c.dk 5 n):=aB (by unfold jk;rw[r];simp only;rw[TJ (by rw[t];decide),TP au]);have tt:(100:Int)<=(c.cj:Int):=by omega
        clear C r;subst t;go_wp2_with fail
        go_region_held3 (λw'=>w'.cell? ⟨bb,0,none⟩=some (.slice M fs.length cf)/\w'.cell? ⟨b9,o9+i,none⟩=some (.string ⟨ws[i].toArray⟩)) (first|with_reducible exact⟨X,Q⟩|go_keep) (first|(go_at_call 45;refine F.u.mono ?_;rintro e w5 ⟨rfl,D⟩;subst D)|fail)
        go_wp2_with (first|(go_at_call 106;refine(mC d.u.mm d.u.ii p 5 n).mono ?_;rintro e w9 ⟨⟨ev,rfl⟩,l,o,g,f⟩;have j:=aB (d.u.cF aa.u Z.u hn O p o (by rw[A.u];exact g) f);clear o g f)|fail)
        first
         |exact⟨⟨i+1,l,_,by go_num,by omega,j⟩,by simp only[aS];omega⟩
         |(go_roundw;exact⟨i+1,l,_,by go_num,by omega,j⟩;simp only[aS];omega)
       ·have A:Hid (jk rec can fs c ws[i] n=rec {c with cj:=c.cj+1} fs[k].aT):=aB (by unfold jk;rw[r];simp only;rw[TJ (by rw[t];decide),TJ au]);have tt:¬(100:Int)<=(c.cj:Int):=by omega
        have aX:=Z.u _ _ r;obtain⟨-,g1,-⟩:=a1.u k bl;have CT:=aB (HC.u t);clear C r;subst t;go_wp2_with fail
        go_region_held3 (λw'=>w'.cell? ⟨bb,0,none⟩=some (.slice M fs.length cf)/\w'.cell? ⟨b9,o9+i,none⟩=some (.string ⟨ws[i].toArray⟩)) (first|with_reducible exact⟨X,Q⟩|go_keep) (first|(go_at_call 45;refine F.u.mono ?_;rintro e w5 ⟨rfl,D⟩;subst D)|fail)
        obtain rfl:=aR.u (by omega);obtain⟨n1,n2⟩:=d.u.mm.aZ 3 (c.cj+1) m'.er m'.ln (c.cj+1) (.inl ⟨rfl,rfl,rfl,rfl⟩);have f3:=d.u.mm.row.frozen 3;have bi:=aB (CT.u _ _ {c with cj:=c.cj+1} fs[k].aT rest n1 ⟨d.u.ii.cK,rfl,d.u.ii.er,d.u.ii.ln,d.u.ii.rs⟩ p aX (gR.cj d.u.bd (by omega)));have be:=aB n2;have bs:(k:Int)<(fs.length:Int):=by omega
        unfold dg at*;unfold aK at g1;have bp:=a7.u (by omega);have aU:¬R=bb:=by omega
        clear n1 n2 aX CT;generalize fs[k].aT=tx at*;go_wp2_with (first|(go_at_call 69;refine bi.u.mono ?_;rintro e w9 ⟨⟨ev,rfl⟩,l,o,g,f⟩;have j:=aB (d.u.cF aa.u Z.u hn O p o (by rw[A.u];exact g) (be.u.trans f));clear o g f)|fail)
        first
         |exact⟨⟨i+1,l,_,by go_num,by omega,j⟩,by simp only[aS];omega⟩
         |(go_roundw;exact⟨i+1,l,_,by go_num,by omega,j⟩;simp only[aS];omega)
    ·have tz:((c.cy:Int)==0)=false:=by rw[TQ];omega
     have HO:=aB (s.u.cD (.inr p));go_wp2_with fail
     refine Ua (U' rfl _ _ _) rfl ?_;exact⟨⟨_,rfl⟩,HO.u.2⟩
   ·have ti:¬(i:Int)<(ws.length:Int):=by omega
    have HO:=aB (s.u.cD (.inl O));go_wp2_with fail
    refine Ua (U' rfl _ _ _) rfl ?_;exact⟨⟨_,rfl⟩,HO.u.2⟩
 ·have t1:((z.er:Int) !=0)=true:=by rw[UY];omega
  rw[ur V] at P;have bg:Hid (lV rec can fs b a n=b.dk z.er n):=aB (by rw[HR.u,TP V]);go_region_held3 (λw'=>w'.cell? ⟨bb,1,none⟩=some (.slice aN m.cK.length cN)/\w'.cell? ⟨lb,3,none⟩=some (.string ⟨a.toArray⟩)) (first|with_reducible exact⟨c1,l2⟩|with_reducible exact⟨J,K⟩|go_keep) (first|(go_at_call 72;refine(P.u _ (TF _ wA).drew).mono ?_;rintro e w1 ⟨rfl,U⟩;have G :=(TF _ wA).drew.trans U;obtain⟨y,E,S⟩:=H1.u.oT HB.u ae.u G;have J :=y.cells.2.1;rw[aW.u] at J;have K :=E.cell 3 (by simp);have a8 :=E.cell 0 (by simp);simp only[TG,TI] at K a8;have I:=aB y;have ac:=aB S;clear U G y E S)|fail)
  all_goals go_wp2_with (first|(go_at_call 106;refine(mC I.u HH.u h0 z.er n).mono ?_;rintro e w4 hp;have HP:=aB (hp.bj ac.u);clear hp;obtain⟨⟨ev,rfl⟩,-⟩:=HP.u;skip)|fail)
  all_goals refine Ua (U' rfl _ _ _) rfl ?_
  all_goals rw[bg.u]
  all_goals exact⟨⟨_,rfl⟩,HP.u.2⟩
