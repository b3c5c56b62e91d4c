/- . -/
import Derived.Test.YtjelacjggijmfaaGreatDoorYAL3
import Derived.Deep.RegionHeld3
import Derived.Deep.DrawnRows
set_option linter.all false
set_option maxHeartbeats 10000000
set_option maxRecDepth 1000000
namespace Go.Proofs.YtjelacjggijmfaaGreatDoor
open Pl Mk Cp Proofs.Tryz
section
open RowKit
variable {a:ga}
def uI{s:aA}:∀u∈[Value.string s],u.oneCell' =true:=by intro u a;simp at a;subst a;rfl
def GY(c:Int)(d:fy)(a:fy)(k:Nat)(h:k<a.length):(a.take (k+1)).foldl (λb f=>fR b (jh c f)) d=fR ((a.take k).foldl (λb f=>fR b (jh c f)) d) (jh c a[k]):=by rw[Yn h,r'];rfl
theorem Fit.vP{S:fv}(b:Int):∀(d:fy) {a:fy},Fit S a->(∀f∈d,f.aL∈S)->Fit S (d.foldl (λi f=>fR i (jh b f)) a)
 |[],_,h,_=>h
 |f::e,a,h,c=>by rw[YP];exact Fit.vP b e (h.put (c f (by simp))) (λg j=>c g (by simp[j]))
def Hv{X:Wd}{c:aj}(h:∀b (d:b<a.length),a[b].dg≠c):eI a X c=⟨X.aW,wrap64 (X.aQ+1),X.aI++[c],X.exit⟩:=by
 have:a.find? (λe=>e.dg==c)=none:=by rw[ZW];intro x f;obtain⟨b,d,rfl⟩:=ZD f;simpa using h b d
 unfold eI;rw[this]
def Gv{X:Wd}{c:aj}{k:Nat}(g:k<a.length)(h:∀b (d:b<a.length),b<k->a[b].dg≠c)(i:a[k].dg=c):
 eI a X c=⟨a[k].cE.foldl (λj f=>fR j (jh (wrap64 (X.aQ+1)) f)) X.aW,wrap64 (X.aQ+1),X.aI++[c],a[k].exit⟩:=by
 have:a.find? (λe=>e.dg==c)=some a[k]:=by rw[aa4];exact⟨by simpa using i,k,g,rfl,λb d=>by simpa using h b (by omega) d⟩
 unfold eI;rw[this]
def NQ(c:aj)(S:fv)(b:ga)(L B l M U ce:Nat)(ae:fY)(P vc:az)(X:Wd)(w:ay)(h:RW w B l (.slice ae b.length ce) P vc X)(bh:0<b.length->ae=some ⟨M,U,none⟩)(hE:kX w L M U b)(hL:L<=l)(af:Fit S X.aW)(hS:S.length<=8388608)(a3:∀e∈b,∀f∈e.cE,f.aL∈S)(bB:B<=w.heap.size)(bQ:b.length<=8388608)(bZ:X.aI.length<=8388608)(a5:∀e∈b,e.cE.length<=8388608):
 Calls prog 49 #[π l,aK c] w λe w'=>(∃v,e=.returned v)/\∃bp C,RW w' B l (.slice ae b.length ce) bp C (eI b X c)/\Below l w w'/\kQ w w':=by
 unfold π;have⟨i0,hi,a',bf,a0⟩:=Y1 Tryz.kZ;have⟨j0,r,bd,a6,ba⟩:=Y1 Tryz.A6;have bj:=aC r;have bk:=aC bd;have bD:=aC a6;have bH:=aC ba;have an:iI w B l (.slice ae b.length ce) P vc X w:=⟨h,X5 _ _,kQ.refl _⟩;obtain⟨ac,cc,rfl⟩:=h.aI.shape;have⟨o,s,G,K,x⟩:=h.cells;have a9:=h.lt;have aM:=h.aI;have bt:=aC a5;have bl:=aC bh;unfold aK;go_in;go_wp2_with (first|(at_builtin;refine YX _ rfl (.tmp 12) (.tmp 14) 30 rfl B 9 i0 (ε) 1 16 YU hi a' bf a0 rfl (by decide) _ _ _ rfl (Yz aM _) (η w.heap.size 0) 1 1 [σ c] rfl rfl (gX w _ [σ c]) (uI) (by unfold maxLen;omega) (by omega) (by rw[X_];omega) ?_;intro v1 w1 J aa bz;obtain⟨g1,aq,rfl,aX,bg⟩:=dv J (by omega);have Q:=(YZ w _ _).trans aa;have D:=an.rw.row.grown Q (cQ aM a9);have⟨d0,d1,d2,d3,d4⟩:=D.JD;have:=D.frozen 1;have:=D.frozen 3)|go_in)
 have aT:=(an.WX (c:=c) (show w.grownBy w1 (Value.slice ac X.aI.length cc).ownBlock from Q) J).aQ (wrap64 (X.aQ+1));simp only[World.ψ]at aT;generalize ((w1.setCell (η l 3) (ξ g1 (X.aI.length+1) aq)).setCell (η l 1) (ι (wrap64 (X.aQ+1))))=W1 at*;generalize bE:ξ g1 (X.aI.length+1) aq=C at*;generalize a2:wrap64 (X.aQ+1)=clk at*;have a1:=aC a2;have bm:Hid (∀Y,Below l w Y->B<=Y.heap.size):=λY hb=>Ye bB hb.size;go_loopw [4] (λar wr=>∃k:Nat,ar=ι k/\k<=b.length/\Hid (∀a (r:a<b.length),a<k->b[a].dg≠c)/\Hid (iI w B l (.slice ae b.length ce) P C ⟨X.aW,clk,X.aI++[c],X.exit⟩ wr)) (λar _=>b.length-aV ar)
 case atStart=>exact⟨0,rfl,Yh _,λa _ h=>by omega,aT⟩
 obtain⟨k,rfl,bS,V,p⟩:=hrel;have⟨o,s,G,K,x⟩:=p.rw.cells;simp only at s x;by_cases Z:k<b.length
 ·obtain rfl:=bl (by omega);have aJ:=hE.aP (p.aP.mono hL);have⟨A,e2,aw,cw,bw,ow,H,F,E,ax⟩:=aJ.2 k Z;have ai:=Ym Z;have bv:=a3 b[k] ai;have:=bt b[k] ai;have aS:=aC (λq=>Gv (X:=X) (c:=c) Z V q);generalize am:b[k]=ek at*;unfold aK at A;have:(k:Int)<b.length:=by omega
  by_cases q:ek.dg=c
  ·have:(ek.dg==c)=true:=by simpa using q
   have bJ:(ek.dg !=c)=false:=by rw[Zi];exact q
   have a7:=aC (aS q);rw[a1.u]at a7;have:=p.rw.row.frozen 4;have bc:=aC am;have an:=p;have a4:iI w B l (.slice (some (η M U)) b.length ce) P C ⟨(ek.cE.take 0).foldl (λi f=>fR i (jh clk f)) X.aW,clk,X.aI++[c],X.exit⟩ wr:=p;have⟨o,s,G,K,x⟩:=p.rw.cells;obtain⟨A,-,aw,cw,bw,ow,H,-,-,-⟩:=(hE.aP (p.aP.mono hL)).2 k Z;rw[bc.u]at A H;unfold aK at A;go_wp2
   go_loopw [5] (λt bA=>∃(m:Nat) (aA:az),t=ι m/\m<=ek.cE.length/\Hid (iI w B l (.slice (some (η M U)) b.length ce) aA C ⟨(ek.cE.take m).foldl (λi f=>fR i (jh clk f)) X.aW,clk,X.aI++[c],X.exit⟩ bA)) (λt _=>ek.cE.length-aV t)
   case atStart=>exact⟨0,P,rfl,Yh _,a4⟩
   obtain⟨m,aA,rfl,bW,y⟩:=hrel;have⟨o,s,G,K,x⟩:=y.rw.cells;simp only at s x;obtain⟨-,e2,aw,cw,bw,ow,H,F,E,ax⟩:=(hE.aP (y.aP.mono hL)).2 k Z;rw[bc.u]at H e2 F E;by_cases a_:m<ek.cE.length
   ·obtain rfl:=F (by omega);obtain⟨p0,p1,-⟩:=E m a_;have ao:=aC (GY clk X.aW ek.cE m a_);have af:Fit S ((ek.cE.take m).foldl (λi f=>fR i (jh clk f)) X.aW):=af.vP clk _ (λf hf=>bv f (adQ hf));have:=af.len;have bK:=VX (fs:=(ek.cE.take m).foldl (λi f=>fR i (jh clk f)) X.aW) (f:=jh clk ek.cE[m]);generalize ek.cE[m]=j at*;generalize (ek.cE.take m).foldl (λi f=>fR i (jh clk f)) X.aW=i at*;have:=y.rw.row.lt;have:(m:Int)<ek.cE.length:=by omega
    have:=hE.1;have bG:M<wr.heap.size:=by omega
    have bI:bw<wr.heap.size:=by omega
    unfold aK at p0 p1;go_wp2
    go_region
    have aZ:=(ak wr (.cells #[σ j.aL,σ j.aU,ι clk] 89)).drew;have I:=y.aD aZ;have T:aF (wr.alloc (.cells #[σ j.aL,σ j.aU,ι clk] 89)).drew wr.heap.size 89 [σ j.aL,σ j.aU,ι clk]:=aF.bq wr 89 [σ j.aL,σ j.aU,ι clk];have:some wr.heap.size≠aA.ownBlock:=λe=>by have:=(y.rw.aW.lt _ e.symm).2;omega
    have bF:=aC (bm _ I.aP);generalize (wr.alloc (.cells #[σ j.aL,σ j.aU,ι clk] 89)).drew=d at*;generalize wr.heap.size=z at*;obtain⟨av,cv,gv,rfl,aR,ap,bb⟩:=I.rw.aW.rd;have N:=aC (λn=>qg i j.aL av cv gv 0 (d.drewN n) aR ap (by omega));unfold aK at N;have a8:∀n,iI w B l (.slice (some (η M U)) b.length ce) (.slice av i.length cv) C ⟨i,clk,X.aI++[c],X.exit⟩ (d.drewN n):=λn=>I.aD (Below.drewN (X5 _ _) n);have o:=I.rw.row.cell 0 (by simp);have b0:=T.cell 0 (by simp);have W:=T.cell 1 (by simp);have b2:=T.cell 2 (by simp);simp only[X6,X7]at o b0 W b2;have:=I.rw.row.frozen 0;have R:=aC bb;have aE:=aC aR;have aB:=I.rw.row.lt;have:=T.lt;obtain⟨i1,t⟩|⟨a,r,i1,t⟩:=bK
    ·have ab:jW i j.aL= -1:=i1;rw[ab]at N;have au:=aC (ao.trans t);as_aux_lemma=>
      go_wp2
      go_quiet (first|(go_at_call 45;exact ZV ((N _).mono (λ_ _ h=>⟨h.1,h.2.symm⟩))))
      go_wp2
      have d0:(d.drewN nq).χ l 0=_:=o;have:(d.drewN nq).χ z 0=_:=b0;have:(d.drewN nq).χ z 1=_:=W;have:(d.drewN nq).χ z 2=_:=b2;have O:=a8 nq;have:B<=(d.drewN nq).heap.size:=bF;have:l<(d.drewN nq).heap.size:=aB;generalize d.drewN nq=W5 at*;as_aux_lemma=>
       go_region_law (refine D_ rfl (.tmp 99) (.tmp 101) 22 rfl B 89 j0 _ 3 40 A2 bj bk bD bH rfl (by decide) _ i.length _ (by simp[Act.eval]) (O.rw.aW.alloc _) (η _ 0) 1 1 (fP (jh clk j)) (by simp[Act.eval]) rfl (gX _ _ (fP (jh clk j))) (by intro u hu;simp[fP]at hu;rcases hu with rfl|rfl|rfl<;>rfl) (by unfold maxLen;omega) (by omega) (by simp;omega) ?_;intro v1 w1 J aa;obtain⟨g1,aq,rfl,aX,bg⟩:=dv J (by omega);have Q:=pD aa;have D:=O.rw.row.grown Q (cQ O.rw.aW a9);have A:=D.cell 0 (by simp);have:=D.frozen 0;simp only[X6]at A)
       all_goals go_wp2
       all_goals go_roundw
       all_goals first
        |exact⟨m+1,_,by go_num,by omega,by rw[au.u];exact O.Wi Q J⟩
        |(simp only[aV];omega)
    have ab:jW i j.aL=a:=i1;rw[ab]at N;have au:=aC (ao.trans t);have:¬(a:Int)<0:=by omega
    have ad:=Nat.lt_of_le_of_lt (Yh _) r;obtain rfl:=aE ad;have⟨y0,y1,y2⟩:=ap a r;simp only[YO]at y0 y1 y2;have z0:=(R ad).2.2 (a*3);have z1:=(R ad).2.2 (a*3+1);have z2:=(R ad).2.2 (a*3+2);have:(a:Int)<i.length:=by omega
    as_aux_lemma=>
     go_wp2
     go_quiet (first|(go_at_call 45;exact ZV ((N _).mono (λ_ _ h=>⟨h.1,h.2.symm⟩))))
     go_wp2
     have d0:(d.drewN nq).χ l 0=_:=o;have:(d.drewN nq).χ z 0=_:=b0;have:(d.drewN nq).χ z 1=_:=W;have:(d.drewN nq).χ z 2=_:=b2;have:(d.drewN nq).χ gv (a*3)=_:=y0;have:(d.drewN nq).χ gv (a*3+1)=_:=y1;have:(d.drewN nq).χ gv (a*3+2)=_:=y2;have:(d.drewN nq).frozen? (η gv (a*3))=_:=z0;have:(d.drewN nq).frozen? (η gv (a*3+1))=_:=z1;have:(d.drewN nq).frozen? (η gv (a*3+2))=_:=z2;have O:=a8 nq;generalize d.drewN nq=W5 at*;have HS:iI w B l (.slice (some (η M U)) b.length ce) (ξ gv i.length cv) C ⟨i.set a (jh clk j),clk,X.aI++[c],X.exit⟩ (((W5.ψ gv (a*3) (σ j.aL)).ψ gv (a*3+1) (σ j.aU)).ψ gv (a*3+2) (ι clk)).drew:=by have bo:=iI.oh (X:=⟨i,clk,X.aI++[c],X.exit⟩) (g:=gv) (cap:=cv) (Y:=W5) O a r (jh clk j);exact bo.aD (ae6 (X5 _ _))
     as_aux_lemma=>
      go_region
      all_goals go_wp2
      all_goals go_roundw
      all_goals first
       |(refine ⟨m+1,ξ gv i.length cv,by go_num,by omega,?_⟩;rw[au.u];exact HS)|(simp only[aV];omega)
   have aY:ek.cE.take m=ek.cE:=YF (by omega);rw[aY]at y;have:=y.rw.row.frozen 4;have ag:=y.exit ek.exit;simp only at ag;rw[<-a7.u]at ag;go_wp2
   refine Yw (Zr rfl _ _ _) rfl ?_;exact⟨⟨_,rfl⟩,_,_,ag.rw,ag.aP,ag.kept⟩
  have:(ek.dg==c)=false:=by simpa using q
  have bJ:(ek.dg !=c)=true:=by rw[ZI];exact q
  have HN:Hid (∀a (h:a<b.length),a<k+1->b[a].dg≠c):=by
   intro a h r;by_cases e:a=k
   ·subst e;rw[am];exact q
   exact V a h (by omega)
  go_wp2
  go_roundw
  case rel=>exact⟨k+1,by go_num,by omega,HN,p⟩
  simp only[aV];omega
 have HV:=aC (Hv (X:=X) (c:=c) (λa r=>V a r (by omega)));rw[a1.u]at HV;go_wp2
 go_end0
 exact⟨⟨_,rfl⟩,P,C,by rw[HV.u];exact p.rw,p.aP,p.kept⟩
end
variable {w W Z:ay}{l e h i:Nat}{c:aj}{d:fv}{g a b f:az}{m:jb}{j:Nat->Bool}{X:Wd}
section
open RowKit
def xP(a:Nat)(L:aA)(h:(L.toList==[105,110,99,108,117,100,101])=true):fV a L.data.toList=false:=by rw[Zx]at h;rw[show L.data.toList=iK from eq_of_beq h];rfl
def Ek(a:Nat)(L:aA)(b:a≠5)(h:(L.toList==[105,110,99,108,117,100,101])=false):fV a L.data.toList=eT L.data.toList:=by rw[Zx]at h;unfold fV;rw[show (L.data.toList==iK)=false from h];simp[b]
def Ee(L:aA)(h:(L.toList==[105,110,99,108,117,100,101])=false):fV 5 L.data.toList= !L.toList.isEmpty:=by rw[Zx]at h;unfold fV;rw[show (L.data.toList==iK)=false from h,uc];rfl
def yM{a b:UInt8}(h:¬a=b):((a.toNat:Int)==b.toNat)=false:=by rw[Yi];intro d;apply h;rw[<-p7];exact G4 d
def M3(n:Nat)(s:aA)(w:ay)(hs:s.size<=4294967200)(h9:List.isPrefixOf [9] s.data.toList=false)(h0:0<s.size)(aJ:((s[0].toNat:Int)==9)=false):
 Calls prog 150 #[ι n,.string s] w λe w'=>∃v,e=.returned v/\iq n (bD s.data.toList) v/\μ w w':=by
 unfold ι;have⟨a,hT,af,aD⟩:=sX (Mk.cut (Mk.bo 35 s.data.toList));have G:=aC (O3 s.data.toList a.data.toList h9 af);have aG:a.size<=4294967200:=by have h1:=s6 (Mk.bo 35 s.data.toList);have h2:=yr 35 s.data.toList;have h3:=YJ s;omega
 have Q:=aC hT;have T:=aC af;clear hT af aD h9;go_in;go_wp2_with fail
 go_loop [1,6] (λv J=>∃(D:aA) (k:Nat),v=.string D/\J=ι k/\oR s D k) (λv J=>pO v+2-(intOf J).toNat)
 case atStart=>exact⟨s,0,rfl,rfl,.inl ⟨rfl,Yh _,by simp⟩⟩
 obtain⟨D,k,rfl,rfl,ae⟩:=hrel;have aF:=ae.le;have g:=aC ae;clear ae;have⟨aI,aH⟩:=aF;by_cases b:k<D.size
 ·by_cases M:(D[k]'b)=35
  ·have HR:=aC (g.cut b M);have ax:(((D[k]'b).toNat:Int)==35)=true:=by rw[M];rfl
   clear M g;go_wp2_with fail
   refine⟨⟨_,k+1,rfl,by go_num,HR⟩,?_⟩;simp[pO,intOf];omega
  have HR:=aC (g.go b M);have ax:(((D[k]'b).toNat:Int)==35)=false:=by rw[Yi];intro h;apply M;rw[<-p7];exact G4 h
  clear M g;go_wp2_with fail
  refine⟨⟨D,k+1,rfl,by go_num,HR⟩,?_⟩;simp[pO,intOf];omega
 have hd:=g.done b;have am:Mk.cut D.data.toList=Mk.cut (Mk.bo 35 s.data.toList):=by rw[hd]
 have ao:=aC am;clear hd am g;go_wp2_with fail
 refine(mC _ _ (by omega)).mono ?_;rintro e i⟨rfl,rfl⟩;rw[ao.u,<-Q.u];clear ao;cases he:a.toList.isEmpty with
 |true=>
  have R:bD s.data.toList=(Ln.zero,0):=by rw[G.u,<-uc,he];rfl
  have HR:=aC R;clear R G Q T;go_wp2_with fail
  refine Yw (v:=.agg #[ι n,.int .u8 0,ε,ε]) (by simp[results,results150,go_sem]) rfl ⟨_,rfl,iq.of ?_ ?_,(ak w _).alloc (by simp) _⟩
  ·rw[HR.u];rfl
  intro _;rw[HR.u];exact⟨rfl,rfl⟩
 |false=>
  cases W:a.toList==[105,110,99,108,117,100,101] with
  |true=>
   have R:rk (bD s.data.toList)=120:=by rw[G.u,<-uc,he];rw[Zx]at W;rw[show a.data.toList=iK from eq_of_beq W];rfl
   have HR:=aC R;clear R G Q T;go_wp2_with fail
   refine Yw (v:=.agg #[ι n,.int .u8 120,ε,ε]) (by simp[results,results150,go_sem]) rfl ⟨_,rfl,iq.of ?_ ?_,(ak w _).alloc (by simp) _⟩
   ·rw[HR.u];rfl
   intro h;exact absurd rfl h
  |false=>
   have HN:Hid (a.data.toList≠iK):=by rw[Zx]at W;have:(a.data.toList==iK)=false:=W;show _≠_;simpa using this
   have V:Hid (a.data.toList.isEmpty=false):=by show _=_;rw[<-uc];exact he
   have H:(a.extract 0 7).toList=a.data.toList.take 7:=by rw[Zx,tv,n']
   obtain⟨z,F,S,O⟩|⟨O,hw⟩:=P0 a.data.toList HN
   ·have P:7<a.size:=by rw[YJ];exact z
    have an:((a.extract 0 7).toList==[105,110,99,108,117,100,101])=true:=by rw[H];exact F
    have ag:Mk.dV (a[7]'P)=true:=S;have aw:(a.extract 7 a.size).size<=4294967296:=by simp;omega
    have HR:Hid (bD s.data.toList=(⟨0,2,[],Mk.cut (a.data.toList.drop 7)⟩,0)):=by show _=_;rw[G.u,V.u,O,Yb (by decide),Yd rfl];exact Pk T z
    have HX:=aC (ZQ a 7);clear z F S O H G Q T HN V;go_wp2_with fail
    refine(np).mono ?_;rintro e i⟨rfl,rfl⟩;rw[ag];go_wp2_with fail
    refine(mC _ _ aw).mono ?_;rintro e i⟨rfl,rfl⟩;rw[HX.u];go_wp2_with fail
    refine Yw (v:=.agg #[ι n,.int .u8 105,ε,σ (Mk.cut (a.data.toList.drop 7))]) (by simp[results,results150,go_sem]) rfl ⟨_,rfl,iq.of ?_ ?_,(ak w _).alloc (by simp) _⟩
    ·rw[HR.u];rfl
    intro _;rw[HR.u];exact⟨rfl,rfl⟩
   have HR:Hid (bD s.data.toList=gG a.data.toList):=by
    show _=_;rw[G.u,V.u,O];rfl
   clear G Q T HN V O;obtain z|⟨z,F|⟨F,S⟩⟩:=hw
   case' false.false.inr.inl=>
    have P:a.size<=7:=by rw[YJ];exact z
    clear H z;go_wp2_with fail
   case' false.false.inr.inr.inl=>
    have P:7<a.size:=by rw[YJ];exact z
    have an:((a.extract 0 7).toList==[105,110,99,108,117,100,101])=false:=by rw[H];exact F
    clear H z F;go_wp2_with fail
   case' false.false.inr.inr.inr=>
    have P:7<a.size:=by rw[YJ];exact z
    have an:((a.extract 0 7).toList==[105,110,99,108,117,100,101])=true:=by rw[H];exact F
    have ag:Mk.dV (a[7]'P)=false:=S;clear H z F S;go_wp2_with fail
    refine(np).mono ?_;rintro e i⟨rfl,rfl⟩;rw[ag];go_wp2_with fail
   all_goals
    go_loop [8] (λJ=>∃k:Nat,k<=a.size/\J=ι k/\(a.data.toList.take k).all dh=true) (λJ=>a.size-(intOf J).toNat)
    case atStart=>exact⟨0,Yh _,rfl,by simp⟩
    obtain⟨k,hk,rfl,ar⟩:=hrel;have g:=aC ar;clear ar;by_cases b:k<a.size
    ·have o:Hid (k<a.data.toList.length):=by show k<_;rw[<-YJ];exact b
     have⟨L,au,ai,av⟩:=sX (Mk.cut (a.data.toList.take k));have X:L.size<=4294967296:=by have h1:=s6 (a.data.toList.take k);have h2:=List.length_take_le k a.data.toList;omega
     have c:=aC au;have E:=aC ai;have U:(a.extract 0 k).size<=4294967296:=by simp;omega
     have Y:Hid ((a.extract 0 k).data.toList=a.data.toList.take k):=by show _=_;rw[tv,n',ad4]
     clear au ai av;by_cases I:(a[k]'b)=61
     ·obtain⟨j,p,x,-⟩:=sX (Mk.cut (a.data.toList.drop (k+1)));have l:=uW.of o g (show dh (a.data.toList[k]' o)=false from(show dh (a[k]'b)=false by rw[I];rfl)) (Qu k o I);have r:Hid (fV 4 L.data.toList=true->gG a.data.toList=(⟨0,4,L.data.toList,j.data.toList⟩,0)):=by show _->_;rw[E.u,x];exact l.qU
      have y:Hid (fV 4 L.data.toList=false->rk (gG a.data.toList)=120):=by show _->_;rw[E.u];exact l.no
      have A:=aC p;have C:(a.extract (k+1) a.size).size<=4294967296:=by simp;omega
      have B:=aC (ZQ a (k+1));have ah:(((a[k]'b).toNat:Int) !=61)=false:=by rw[I];rfl
      have aq:(((a[k]'b).toNat:Int)==58)=false:=by rw[I];rfl
      clear I;clear l p x g o;go_wp2_with fail
      refine(mC _ _ U).mono ?_;rintro e i⟨rfl,rfl⟩;rw[Y.u,<-c.u];go_wp2_with fail
      refine(sI X).mono ?_;rintro e i⟨rfl,rfl⟩;cases q:L.toList==[105,110,99,108,117,100,101] with
      |true=>
       have d:=aC (xP 4 L q);generalize eT L.data.toList=N;go_wp2_with fail
       refine Yw (v:=.agg #[ι n,.int .u8 120,.string L,ε]) (by simp[results,results150,go_sem]) rfl ⟨_,rfl,iq.of ?_ ?_,(ak w _).alloc (by simp) _⟩
       ·rw[HR.u,y.u d.u];rfl
       intro h;exact absurd rfl h
      |false=>
       have d:=aC (Ek 4 L (by decide) q);cases t:eT L.data.toList with
       |true=>
        have f:Hid (fV 4 L.data.toList=true):=by show _=_;rw[d.u,t]
        go_wp2_with fail
        refine(mC _ _ C).mono ?_;rintro e i⟨rfl,rfl⟩;rw[B.u,<-A.u];go_wp2_with fail
        refine Yw (v:=.agg #[ι n,.int .u8 108,.string L,.string j]) (by simp[results,results150,go_sem]) rfl ⟨_,rfl,iq.of ?_ ?_,(ak w _).alloc (by simp) _⟩
        ·rw[HR.u,r.u f.u];rfl
        intro _;rw[HR.u,r.u f.u];exact⟨ij rfl,ij rfl⟩
       |false=>
        have f:Hid (fV 4 L.data.toList=false):=by show _=_;rw[d.u,t]
        go_wp2_with fail
        refine(mC _ _ C).mono ?_;rintro e i⟨rfl,rfl⟩;rw[B.u,<-A.u];go_wp2_with fail
        refine Yw (v:=.agg #[ι n,.int .u8 120,.string L,.string j]) (by simp[results,results150,go_sem]) rfl ⟨_,rfl,iq.of ?_ ?_,(ak w _).alloc (by simp) _⟩
        ·rw[HR.u,y.u f.u];rfl
        intro h;exact absurd rfl h
     have ah:(((a[k]'b).toNat:Int) !=61)=true:=by have:=yM I;simpa [bne]using this
     clear I;by_cases m:(a[k]'b)=58
     ·have aq:(((a[k]'b).toNat:Int) !=58)=false:=by rw[m];rfl
      have aK:(((a[k]'b).toNat:Int)==58)=true:=by rw[m];rfl
      by_cases hE:k+1=a.size
      ·obtain⟨j,p,x,-⟩:=sX (Mk.cut (a.data.toList.drop (k+1)));have l:=uW.of o g (show dh (a.data.toList[k]' o)=false from(show dh (a[k]'b)=false by rw[m];rfl)) (Mx k (by rw[<-YJ];exact hE) m);have r:Hid (fV 5 L.data.toList=true->gG a.data.toList=(⟨0,5,L.data.toList,j.data.toList⟩,0)):=by show _->_;rw[E.u,x];exact l.qU
       have y:Hid (fV 5 L.data.toList=false->rk (gG a.data.toList)=120):=by show _->_;rw[E.u];exact l.no
       have A:=aC p;have C:(a.extract (k+1) a.size).size<=4294967296:=by simp;omega
       have B:=aC (ZQ a (k+1));have aE:(((k:Int)+1)==(a.size:Int))=true:=by rw[Zj];omega
       clear hE;clear m;clear l p x g o;go_wp2_with fail
       refine(mC _ _ U).mono ?_;rintro e i⟨rfl,rfl⟩;rw[Y.u,<-c.u];go_wp2_with fail
       refine(sI X).mono ?_;rintro e i⟨rfl,rfl⟩;cases q:L.toList==[105,110,99,108,117,100,101] with
       |true=>
        have d:=aC (xP 5 L q);generalize eT L.data.toList=N;go_wp2_with fail
        refine Yw (v:=.agg #[ι n,.int .u8 120,.string L,ε]) (by simp[results,results150,go_sem]) rfl ⟨_,rfl,iq.of ?_ ?_,(ak w _).alloc (by simp) _⟩
        ·rw[HR.u,y.u d.u];rfl
        intro h;exact absurd rfl h
       |false=>
        have d:=aC (Ee L q);generalize eT L.data.toList=N;go_wp2_with fail
        refine(mC _ _ C).mono ?_;rintro e i⟨rfl,rfl⟩;rw[B.u,<-A.u];cases t:L.toList.isEmpty with
        |true=>
         have f:Hid (fV 5 L.data.toList=false):=by show _=_;rw[d.u,t];rfl
         go_wp2_with fail
         refine Yw (v:=.agg #[ι n,.int .u8 120,.string L,.string j]) (by simp[results,results150,go_sem]) rfl ⟨_,rfl,iq.of ?_ ?_,(ak w _).alloc (by simp) _⟩
         ·rw[HR.u,y.u f.u];rfl
         intro h;exact absurd rfl h
        |false=>
         have f:Hid (fV 5 L.data.toList=true):=by show _=_;rw[d.u,t];rfl
         go_wp2_with fail
         refine Yw (v:=.agg #[ι n,.int .u8 114,.string L,.string j]) (by simp[results,results150,go_sem]) rfl ⟨_,rfl,iq.of ?_ ?_,(ak w _).alloc (by simp) _⟩
         ·rw[HR.u,r.u f.u];rfl
         intro _;rw[HR.u,r.u f.u];exact⟨ij rfl,ij rfl⟩
      have Z:k+1<a.size:=by omega
      have al:Hid (k+1<a.data.toList.length):=by show k+1<_;rw[<-YJ];exact Z
      have aE:(((k:Int)+1)==(a.size:Int))=false:=by rw[Yi];omega
      by_cases K:(a[k+1]'Z)=61
      ·obtain⟨j,p,x,-⟩:=sX (Mk.cut (a.data.toList.drop (k+2)));have l:=uW.of o g (show dh (a.data.toList[k]' o)=false from(show dh (a[k]'b)=false by rw[m];rfl)) (OF _ k al m K);have r:Hid (fV 3 L.data.toList=true->gG a.data.toList=(⟨0,3,L.data.toList,j.data.toList⟩,0)):=by show _->_;rw[E.u,x];exact l.qU
       have y:Hid (fV 3 L.data.toList=false->rk (gG a.data.toList)=120):=by show _->_;rw[E.u];exact l.no
       have A:=aC p;have C:(a.extract (k+2) a.size).size<=4294967296:=by simp;omega
       have B:=aC (ZQ a (k+2));have aB:(((a[k+1]'Z).toNat:Int) !=61)=false:=by rw[K];rfl
       clear m K;clear l p x g o;go_wp2_with fail
       refine(mC _ _ U).mono ?_;rintro e i⟨rfl,rfl⟩;rw[Y.u,<-c.u];go_wp2_with fail
       refine(sI X).mono ?_;rintro e i⟨rfl,rfl⟩;cases q:L.toList==[105,110,99,108,117,100,101] with
       |true=>
        have d:=aC (xP 3 L q);generalize eT L.data.toList=N;go_wp2_with fail
        refine Yw (v:=.agg #[ι n,.int .u8 120,.string L,ε]) (by simp[results,results150,go_sem]) rfl ⟨_,rfl,iq.of ?_ ?_,(ak w _).alloc (by simp) _⟩
        ·rw[HR.u,y.u d.u];rfl
        intro h;exact absurd rfl h
       |false=>
        have d:=aC (Ek 3 L (by decide) q);cases t:eT L.data.toList with
        |true=>
         have f:Hid (fV 3 L.data.toList=true):=by show _=_;rw[d.u,t]
         go_wp2_with fail
         refine(mC _ _ C).mono ?_;rintro e i⟨rfl,rfl⟩;rw[B.u,<-A.u];go_wp2_with fail
         refine Yw (v:=.agg #[ι n,.int .u8 102,.string L,.string j]) (by simp[results,results150,go_sem]) rfl ⟨_,rfl,iq.of ?_ ?_,(ak w _).alloc (by simp) _⟩
         ·rw[HR.u,r.u f.u];rfl
         intro _;rw[HR.u,r.u f.u];exact⟨ij rfl,ij rfl⟩
        |false=>
         have f:Hid (fV 3 L.data.toList=false):=by show _=_;rw[d.u,t]
         go_wp2_with fail
         refine(mC _ _ C).mono ?_;rintro e i⟨rfl,rfl⟩;rw[B.u,<-A.u];go_wp2_with fail
         refine Yw (v:=.agg #[ι n,.int .u8 120,.string L,.string j]) (by simp[results,results150,go_sem]) rfl ⟨_,rfl,iq.of ?_ ?_,(ak w _).alloc (by simp) _⟩
         ·rw[HR.u,y.u f.u];rfl
         intro h;exact absurd rfl h
      obtain⟨j,p,x,-⟩:=sX (Mk.cut (a.data.toList.drop (k+1)));have l:=uW.of o g (show dh (a.data.toList[k]' o)=false from(show dh (a[k]'b)=false by rw[m];rfl)) (QC _ k al m K);have r:Hid (fV 5 L.data.toList=true->gG a.data.toList=(⟨0,5,L.data.toList,j.data.toList⟩,0)):=by show _->_;rw[E.u,x];exact l.qU
      have y:Hid (fV 5 L.data.toList=false->rk (gG a.data.toList)=120):=by show _->_;rw[E.u];exact l.no
      have A:=aC p;have C:(a.extract (k+1) a.size).size<=4294967296:=by simp;omega
      have B:=aC (ZQ a (k+1));have aB:(((a[k+1]'Z).toNat:Int) !=61)=true:=by have:=yM K;simpa [bne]using this
      clear m K;clear l p x g o;go_wp2_with fail
      refine(mC _ _ U).mono ?_;rintro e i⟨rfl,rfl⟩;rw[Y.u,<-c.u];go_wp2_with fail
      refine(sI X).mono ?_;rintro e i⟨rfl,rfl⟩;cases q:L.toList==[105,110,99,108,117,100,101] with
      |true=>
       have d:=aC (xP 5 L q);generalize eT L.data.toList=N;go_wp2_with fail
       refine Yw (v:=.agg #[ι n,.int .u8 120,.string L,ε]) (by simp[results,results150,go_sem]) rfl ⟨_,rfl,iq.of ?_ ?_,(ak w _).alloc (by simp) _⟩
       ·rw[HR.u,y.u d.u];rfl
       intro h;exact absurd rfl h
      |false=>
       have d:=aC (Ee L q);generalize eT L.data.toList=N;go_wp2_with fail
       refine(mC _ _ C).mono ?_;rintro e i⟨rfl,rfl⟩;rw[B.u,<-A.u];cases t:L.toList.isEmpty with
       |true=>
        have f:Hid (fV 5 L.data.toList=false):=by show _=_;rw[d.u,t];rfl
        go_wp2_with fail
        refine Yw (v:=.agg #[ι n,.int .u8 120,.string L,.string j]) (by simp[results,results150,go_sem]) rfl ⟨_,rfl,iq.of ?_ ?_,(ak w _).alloc (by simp) _⟩
        ·rw[HR.u,y.u f.u];rfl
        intro h;exact absurd rfl h
       |false=>
        have f:Hid (fV 5 L.data.toList=true):=by show _=_;rw[d.u,t];rfl
        go_wp2_with fail
        refine Yw (v:=.agg #[ι n,.int .u8 114,.string L,.string j]) (by simp[results,results150,go_sem]) rfl ⟨_,rfl,iq.of ?_ ?_,(ak w _).alloc (by simp) _⟩
        ·rw[HR.u,r.u f.u];rfl
        intro _;rw[HR.u,r.u f.u];exact⟨ij rfl,ij rfl⟩
     have HG:Hid ((a.data.toList.take (k+1)).all dh=true):=by
      show _=_;rw[sN a k b,acA,g.u];have h1:¬(a[k]'b)=61:=by intro h;rw[h]at ah;exact absurd ah (by decide)
      simp[dh,h1,m]
     have aq:(((a[k]'b).toNat:Int) !=58)=true:=by have:=yM m;simpa [bne]using this
     clear m;go_wp2_with fail
     refine⟨⟨k+1,by omega,by go_num,HG⟩,?_⟩;simp[intOf];omega
    have HZ:Hid (rk (gG a.data.toList)=120):=by
     refine U0 ?_;have:=g;rwa [YF (by rw[<-YJ];omega)]at this
    go_wp2_with fail
    refine Yw (v:=.agg #[ι n,.int .u8 120,ε,ε]) (by simp[results,results150,go_sem]) rfl ⟨_,rfl,iq.of ?_ ?_,(ak w _).alloc (by simp) _⟩
    ·rw[HR.u,HZ.u];rfl
    intro h;exact absurd rfl h
end
namespace Mk
theorem z7:∀(a:List Bs) (k:Nat),([32].intercalate (a.take k)).length<=([32].intercalate a).length
 |[],k=>by simp
 |[x],k=>by
  cases k with
  |zero=>simp|succ k=>simp
 |x::y::b,k=>by
  match k with
  |0=>simp|1=>simp only[ZY,List.take_zero,Rk,yh];simp
  |k+2=>have h:=z7 (y::b) (k+1);simp only[ZY]at h⊢;simp only[yh,X4,Ya];omega
theorem FA:∀(a:List Bs) (x:Bs),[32].intercalate (a++[x])=if a.isEmpty then x else [32].intercalate a++[32]++x
 |[],x=>by simp
 |[y],x=>by simp
 |y::z::b,x=>by have h:=FA (z::b) x;simp only[Y3]at h⊢;rw[yh,yh,h];simp
def O4(a:List Bs)(k:Nat)(b:k<a.length):[32].intercalate (a.take (k+1))=if k=0 then a[k] else [32].intercalate (a.take k)++[32]++a[k]:=by
 rw[Yn b,FA];cases k with
 |zero=>simp
 |succ k=>
  have:(a.take (k+1)).isEmpty=false:=by rw[L4,<-Y5];simp;omega
  rw[this];simp
end Mk
section
open RowKit
section
attribute [local go_sem↓] G2 G3
section
variable {k:fY}
end
def Ri(a:ga)(X:Wd)(c:aj):(eI a X c).aI.length=X.aI.length+1:=by unfold eI;split<;>simp
def Fit.W8{ef:ga}{c:aj}(h:Fit d X.aW)(a:∀e∈ef,∀f∈e.cE,f.aL∈d):Fit d (eI ef X c).aW:=by
 unfold eI;split
 ·exact h
 rename_i e b;exact Fit.vP _ _ h (a e (YV b))
end



end
