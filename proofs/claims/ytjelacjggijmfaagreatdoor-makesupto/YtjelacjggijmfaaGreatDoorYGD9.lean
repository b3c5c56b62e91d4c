/- . -/
import Derived.Test.YtjelacjggijmfaaGreatDoorYGD3
set_option linter.all false
set_option maxHeartbeats 8000000
set_option maxRecDepth 100000
namespace Go.Proofs.YtjelacjggijmfaaGreatDoor
open Pl Mk Cp Proofs.Tryz
variable {d:Nat×Nat×St}{b g bf bi M o k wk j:Nat}{a s:St}{e rb:Nat->Nat}{w W X Y Z w0:ay}{F q:dS}{c:Ad}{ve v vp v2 v3 v4 v5 u8 u9 v6:az}{ef:ga}{fs:fy}{rec:St->aj->Nat×Nat×St}{f:jq}{l:dr}{us:List (Nat×fv)}{nd:fv}{i:gb}{m p:List (Ln×Nat)}{n:List (aj×Nat)}{r G:ib}{t:Ln×Nat}{y:fY}
open RowKit Shelf MapKept ChangeMaps Maps
section
attribute [local go_sem] Kp
def uL(c:Nat)(a:aj)(n b:Nat)(x:Ln×Nat):Act:={tmps:= #[π c,.string ⟨a.toArray⟩,π n,undef,π (n+1),π (n+2),π (n+3),
 π b,ι x.2,undef,.string ⟨a.toArray⟩,.func (.func 119) #[] #[π (n+4)],dQ x.1,ι x.2,undef,undef,undef,undef,undef,undef,undef,undef,undef,undef,undef,undef,undef,undef,undef,undef,undef,undef,undef,undef,undef,undef,undef,undef,undef,undef,undef,undef,undef,undef,undef,undef,undef,undef,undef,undef,undef,undef],defers:=[]}
structure tL(M:Nat)(rec:St->aj->Nat×Nat×St)(fs:fy)(R:Nat×Nat×St)(s:St)(k:Nat)(L:List (Ln×Nat))(n:Nat)(sj:St)(kj:Nat)(op:ib):Prop where
 ok:Ok sj kj
 le:kj+(100-sj.inc)*M<=k+(100-s.inc)*M+n
 opn:sj.opn=s.opn
 Lt:∀i,op=some i->i<sj.aG.length
 eq:R=iQ rec fs (L.drop n) sj op
section
variable {aQ:Int}
def tL.cH(h:tL M rec fs d s k m g a b r)(e:m.drop g=t::p)(f:t.2≠0):d=(t.2,t.1.eK,a):=by have:=h.eq;rw[e,iQ,Yd f]at this;exact this
def tL.cC(h:tL M rec fs d s k m bf a b G)(q:pR M rec)(L:∀r g,Pl.look fs r=some g->g.aU.length+1<=M/\g.aU.length<=1073741824)(c:m.drop bf=t::p)(x:m.drop (bf+1)=p)(A:t.2=0)(z:t.1.right.length<=1073741824):
 ((eW rec fs a G t.1).1≠0->d=((eW rec fs a G t.1).1,(eW rec fs a G t.1).2.1,(eW rec fs a G t.1).2.2.2))/\((eW rec fs a G t.1).1=0->∃i,tL M rec fs d s k m (bf+1) (eW rec fs a G t.1).2.2.2 i (eW rec fs a G t.1).2.2.1):=by
 have f:=h.eq;rw[c,iQ,Yb (by rw[A];simp)]at f;refine⟨λe=>?_,λe=>?_⟩
 ·rw[Yd e]at f;exact f
 rw[Yb (by rw[e];simp)]at f;have⟨⟨⟨i,y,D⟩,C,E⟩,B⟩:=Ji q L h.ok h.Lt z;have:=h.le;exact⟨i,y,by omega,C.trans h.opn,B,by rw[x];exact f⟩
def Way(B l:Nat)(X Y:ay):Prop:=KeepsFrom B X Y/\kU l X Y
def Way.trans(h:Way b g X Y)(k:Way b g Y Z):Way b g X Z:=⟨h.1.trans k.1,h.2.trans k.2⟩
def Way.fr{B l:Nat}(h:bE X F c e a)(b:En X F c.bx bf bi ve ef fs aQ)(f:Fr F q X Y)(i:c.nm<B)(g:c.bt<B)(m:c.pb<B)(n:B<=l):Way B l X Y:=⟨h.vi f i g m,h.Xv f (λ_=>(b.fr f).fQ) (by omega) (by omega) (by omega)⟩
def Way.set{a:TypeId}(h:aF X bf a [v])(d:a≠234)(e:0<bf)(u:az):Way b g X (X.ψ bf 0 u):=⟨S1 h u,kU.setCell h d e u⟩
def Way.aP{B:Nat}(a:μ X Y):Way B b X Y:=⟨qj a,kU.aP a⟩
def Way.mf{B l:Nat}(h:il w F c q e a v3 b g X)(i:0<w.heap.size)(d f:Nat):Way B l X ((X.ψ (w.heap.size+1) 0 (ι d)).ψ (w.heap.size+2) 0 (ι f)):=(Way.set h.r1 (by decide) (by omega) _).trans (Way.set (h.r2.dI (by omega) 0 (ι d)) (by decide) (by omega) _)
def Way.open{B l:Nat}(h:il w F c q e a v3 b g X)(d:0<w.heap.size)(u:az):Way B l X (X.ψ (w.heap.size+3) 0 u):=Way.set h.r3 (by decide) (by omega) _
def JV(aN:o≠3->zt c bf bi ve ef fs aQ M rec (o+1))(ax:pR M rec)(hf:∀aM ar,Pl.look fs aM=some ar->ar.aU.length+1<=M/\ar.aU.length<=1073741824)(E:aj)(h:bE w F c rb s)(hE:En w F c.bx bf bi ve ef fs aQ)(hk:Ok s k)(ho:s.opn=o)(a1:o<=3)(a7:E.length+1<=M)(ht:E.length<=1073741824)(a2:k+(100-s.inc)*M+M<=4294967296)(H:Nat×Nat×St)(hR:H=iQ rec fs (eO (dF E)) s none):
 CallsIn Fence.wide 9 prog 89 #[π c.rd,σ E] w λe w'=>∃G i,e=.returned (.tuple #[ι (H.1:Int),ι (H.2.1:Int)])/\bE w' G c i H.2.2/\Fr F G w w':=by
 have a5:Tryz.prog.follows .mixedOrders=true:=by kernel_rfl
 have⟨q0,q1,q2,q3⟩:=QG E h;have a8:=AZ E;have aA:tL M rec fs H s k (eO (dF E)) 0 s k none:=⟨hk,by omega,rfl,λg e=>(by cases e),by rw[n'];exact hR⟩;have n1:=h.lt h.mZ;have n2:=h.lt h.mW;have n3:=h.lt h.mT;have ae:=xe hE.fQ;refine acs func89 rfl trivial ?_;simp only[ntmps89,ZM,Ya,Yr,Nat.reduceAdd,Nat.reduceSub,Rr,RR,R3,R1,Y2,Y3];gi_wp2_with fail
 refine⟨trivial,(Zm.2 (UD)).mono ?_⟩;rintro e w2⟨rfl,rfl⟩;gi_wp2_with fail
 unfold qB at q0 q1 q2 q3;generalize ((((w.alloc (.cells #[π c.rd] 264)).alloc (.cells #[ι 0] 24)).alloc (.cells #[ι 0] 3)).alloc (.cells #[.pointer none] 265)).alloc (.cells #[σ E] 9)=V at*;have aL:V.cell? ⟨w.heap.size+4,0,none⟩=some (σ E):=q1.cell? (i:=0) rfl;have aO:=(hE.aD q3).fQ;refine M0 (gf:=119) (lb:= #[π (w.heap.size+4)]) rfl (mL func119 (by kernel_rfl) rfl)
  (RL E (w.heap.size+4) V ht aO aL) kU.trans (λq l1 o o' _ hl ho=>kU.putObj q l1 o o' hl ho) (X5 _ _) (λ_=>rfl)
  (λaZ q=>∃G i f U j,il w F c G i f (ko i j) 0 0 q/\tL M rec fs H s k (eO (dF E)) aZ.length f U j)
  (λcc _ q=>cc=.ret/\∃G i v3,il w F c G i H.2.2 v3 H.1 H.2.1 q)
  (λaZ X Y v hs al hr=>by obtain⟨G,i,f,U,j,W,h2⟩:=hs;exact⟨G,i,f,U,j,il.bG (B:=V.heap.size) (by omega) (by omega) (by omega) (by omega) () X Y v W al hr,h2⟩)
  (λcc aZ X Y v hs al hr=>by obtain⟨W,G,i,v3,h2⟩:=hs;exact⟨W,G,i,v3,il.bG (B:=V.heap.size) (by omega) (by omega) (by omega) (by omega) () X Y v h2 al hr⟩)
  ⟨F,rb,s,k,none,q0,aA⟩
  (λx a' q=>∃Bx,w.heap.size+3<Bx/\aF q Bx 164 [ι x.1.eK,ι x.1.cK,σ x.1.left,σ x.1.right]/\a' =uL c.rd E w.heap.size Bx x)
  (λx a' s X Y v hs al hr=>by obtain⟨Bx,W,h2,h3⟩:=hs;exact⟨Bx,W,aF.bG V.heap.size _ _ _ () X Y v h2 al hr,h3⟩) ?assign ?body ?done ?stop
 case assign=>
  rintro aZ⟨⟨a,d,L,m⟩,er⟩post q K _ hi hK;have aY:w.heap.size+3<q.heap.size:=by obtain⟨_,_,_,_,_,W,_⟩:=hi;exact W.r3.lt
  unfold zq dQ;gi_wp2
  have hb:=ak q (.cells #[ι a,ι d,σ L,σ m] 164);refine hK _ _ (qj hb) (kU.aP hb) ?_ ⟨q.heap.size,aY,aF.bq q 164 _,rfl⟩;obtain⟨G,i,f,U,j,W,h2⟩:=hi;exact⟨G,i,f,U,j,W.aD hb,h2⟩
 case body=>
  rintro aZ⟨⟨a,d,L,m⟩,er⟩post a' q hL⟨G,i,f,U,j,t,hS⟩⟨Bx,a9,ac,rfl⟩;simp only at ac;have aR:=B9 (t:=E) (x:=(⟨a,d,L,m⟩,er)) (by rw[hL];simp);simp only at aR;have⟨aG,au⟩:=GK hL;rw[X4,Ya,Yr]at au;have a6:aZ.length+1<=M:=by have:=Yg List.length hL;rw[X4,Ya]at this;omega
  have a3:U+(100-f.inc)*M<=4294967295:=by have:=hS.le;omega
  have aw:=hE.fr t.fr;have d0:=ac.cell? (i:=0) rfl;have d1:=ac.cell? (i:=1) rfl;have d2:=ac.cell? (i:=2) rfl;have d3:=ac.cell? (i:=3) rfl;have e0:=t.r0.cell? (i:=0) rfl;have e1:=t.r1.cell? (i:=0) rfl;have e2:=t.r2.cell? (i:=0) rfl;have e3:=t.r3.cell? (i:=0) rfl;have f1:=t.r1.frozen 0;have f2:=t.r2.frozen 0;have f3:=t.r3.frozen 0;have aE:=aC aG;have aK:=aC au;clear hL aG au aA q0 hR;by_cases an:er=0
  ·have b1:((er:Int) !=0)=false:=by rw[Zi];omega
   have am:m.length<=1073741824:=by omega
   have aT:L.length<=1073741824:=by omega
   have z:=aC (hS.cC ax hf aE aK an am);have aa:=hS.ok;have o1:=aa.tl;have o2:=aa.jo;have o3:=aa.nl;clear an;simp only at z;by_cases k1:d=1
   ·have w1:((d:Int)==1)=true:=by rw[Zj];omega
    have O:eW rec fs f j ⟨a,d,L,m⟩=((gH f j ⟨a,d,L,m⟩).1,a,j,(gH f j ⟨a,d,L,m⟩).2):=by unfold eW;simp only;rw[Yd k1]
    rw[O]at z;have p:=NB j ⟨a,d,L,m⟩ t.fF hS.Lt (λname=>by have:=aa.ol name;omega) (λah hr=>by have:=(aa.rs ah hr).tl;omega) (λah hr=>by have:=aa.cl ah hr;omega);clear O k1;generalize gH f j ⟨a,d,L,m⟩=rc at*;obtain⟨n,rs⟩:=rc;simp only at z p;obtain⟨pv,ad⟩:∃pv,ko i j=.pointer pv:=by cases j<;>exact⟨_,rfl⟩
    unfold dQ at p;simp only at p;rw[ad]at e3 p;unfold uL dQ;simp only;gi_wp2_with fail
    refine⟨trivial,(so _ (Zm.2 p)).mono ?_⟩;rintro e W2⟨rfl,I,R,C⟩;have b:=t.step R C;have A:=Way.fr (B:=V.heap.size) (l:=V.heap.size+1) t.fF aw C (by omega) (by omega) (by omega) (by omega);obtain⟨y,av⟩:∃y,y=i:=⟨_,rfl⟩;rw[<-av]at b;clear R C p e0 e1 e2 e3 f1 f2 f3 d0 d1 d2 d3;by_cases r:n=0
    ·have u1:((n:Int) !=0)=false:=by rw[Zi];omega
     have⟨N,Q⟩:=z.2 r;clear r;gi_wp2_with fail
     exact⟨A.1,A.2,I,y,rs,N,j,b,by rw[X4];exact Q⟩
    have u1:((n:Int) !=0)=true:=by rw[ZI];omega
    have ag:=aC (z.1 r);have y1:=b.r1.cell? (i:=0) rfl;have y2:=b.r2.cell? (i:=0) rfl;have z1:=b.r1.frozen 0;have z2:=b.r2.frozen 0;have S:=b.mf n a;have P:=A.trans (Way.mf (B:=V.heap.size) (l:=V.heap.size+1) b ae n a);clear r;gi_wp2_with fail
    exact⟨P.1,P.2,rfl,I,y,_,by rw[ag.u];exact S⟩
   have w1:((d:Int)==1)=false:=by rw[Yi];omega
   by_cases k5:d=5
   ·have w5:((d:Int)==5)=true:=by rw[Zj];omega
    have O:eW rec fs f j ⟨a,d,L,m⟩=((gJ f ⟨a,d,L,m⟩).1,a,(gJ f ⟨a,d,L,m⟩).2.1,(gJ f ⟨a,d,L,m⟩).2.2):=by unfold eW;simp only;rw[Yb k1,Yd k5]
    rw[O]at z;have p:=Sv ⟨a,d,L,m⟩ U t.fF aa aw.fQ aw.n4 aT am;clear O k1 k5;generalize gJ f ⟨a,d,L,m⟩=rc at*;obtain⟨n,ai,rs⟩:=rc;unfold dQ at p;simp only at z p;unfold uL dQ;simp only;gi_wp2_with fail
    refine⟨trivial,(so _ (Zm.2 p)).mono ?_⟩;rintro e W2⟨I,y,rfl,R,C⟩;have J:=t.step R C;have b:=J.open (ko y ai);have A:=(Way.fr (B:=V.heap.size) (l:=V.heap.size+1) t.fF aw C (by omega) (by omega) (by omega) (by omega)).trans (Way.open J ae (ko y ai));have x3:=J.r3.cell? (i:=0) rfl;have z3:=J.r3.frozen 0;obtain⟨pv,ad⟩:∃pv,ko y ai=.pointer pv:=by cases ai<;>exact⟨_,rfl⟩
    rw[ad]at b A;rw[ad];have a0:=aC ad;clear R C p e0 e1 e2 e3 f1 f2 f3 d0 d1 d2 d3 ad;by_cases r:n=0
    ·have u1:((n:Int) !=0)=false:=by rw[Zi];omega
     have⟨N,Q⟩:=z.2 r;clear r;gi_wp2_with fail
     exact⟨A.1,A.2,I,y,rs,N,ai,by rw[a0.u];exact b,by rw[X4];exact Q⟩
    have u1:((n:Int) !=0)=true:=by rw[ZI];omega
    have ag:=aC (z.1 r);have y1:=b.r1.cell? (i:=0) rfl;have y2:=b.r2.cell? (i:=0) rfl;have z1:=b.r1.frozen 0;have z2:=b.r2.frozen 0;have S:=b.mf n a;have P:=A.trans (Way.mf (B:=V.heap.size) (l:=V.heap.size+1) b ae n a);clear r;gi_wp2_with fail
    exact⟨P.1,P.2,rfl,I,y,_,by rw[ag.u];exact S⟩
   have w5:((d:Int)==5)=false:=by rw[Yi];omega
   have J:=t.open (.pointer none);have ap:=hE.fr J.fr;have ao:=ac.dI (show Bx≠w.heap.size+3 by omega) 0 (.pointer none);have aH:=Way.open (B:=V.heap.size) (l:=V.heap.size+1) t ae (.pointer none);have i0:=J.r0.cell? (i:=0) rfl;have j0:=ao.cell? (i:=0) rfl;have j1:=ao.cell? (i:=1) rfl;have j2:=ao.cell? (i:=2) rfl;have j3:=ao.cell? (i:=3) rfl;obtain⟨pv,ad⟩:∃pv,ko i j=.pointer pv:=by cases j<;>exact⟨_,rfl⟩
   rw[ad]at e3;by_cases N:d=2
   ·have w2:((d:Int)==2)=true:=by rw[Zj];omega
    have O:eW rec fs f j ⟨a,d,L,m⟩=((lH rec fs f ⟨a,d,L,m⟩).1,(lH rec fs f ⟨a,d,L,m⟩).2.1,none,(lH rec fs f ⟨a,d,L,m⟩).2.2):=by unfold eW;simp only;rw[Yb k1,Yb k5,Yd N]
    rw[O]at z;have p:=NK aN ax hf ⟨a,d,L,m⟩ J.fF ap aa (hS.opn.trans ho) a1 (by omega) am;clear O k1 k5 N;generalize lH rec fs f ⟨a,d,L,m⟩=rc at*;obtain⟨n,rn,rs⟩:=rc;unfold dQ at p;simp only at z p;unfold uL dQ;simp only;gi_wp2_with fail
    refine⟨trivial,(so _ (Zm.2 p)).mono ?_⟩;rintro e W2⟨I,y,rfl,R,C⟩;have b:=J.step R C;have A:=aH.trans (Way.fr (B:=V.heap.size) (l:=V.heap.size+1) J.fF ap C (by omega) (by omega) (by omega) (by omega));clear R C p e0 e1 e2 e3 f1 f2 f3 d0 d1 d2 d3 i0 j0 j1 j2 j3;by_cases r:n=0
    ·have u1:((n:Int) !=0)=false:=by rw[Zi];omega
     have⟨N,Q⟩:=z.2 r;clear r;gi_wp2_with fail
     exact⟨A.1,A.2,I,y,rs,N,none,b,by rw[X4];exact Q⟩
    have u1:((n:Int) !=0)=true:=by rw[ZI];omega
    have ag:=aC (z.1 r);have y1:=b.r1.cell? (i:=0) rfl;have y2:=b.r2.cell? (i:=0) rfl;have z1:=b.r1.frozen 0;have z2:=b.r2.frozen 0;have S:=b.mf n rn;have P:=A.trans (Way.mf (B:=V.heap.size) (l:=V.heap.size+1) b ae n rn);clear r;gi_wp2_with fail
    exact⟨P.1,P.2,rfl,I,y,_,by rw[ag.u];exact S⟩
   have w2:((d:Int)==2)=false:=by rw[Yi];omega
   have O:eW rec fs f j ⟨a,d,L,m⟩=((iF f ⟨a,d,L,m⟩).1,a,none,(iF f ⟨a,d,L,m⟩).2):=by unfold eW;simp only;rw[Yb k1,Yb k5,Yb N]
   rw[O]at z;have p:=Om ⟨a,d,L,m⟩ J.fF aa.mI (by omega) ap.fQ am;clear O k1 k5 N;generalize iF f ⟨a,d,L,m⟩=rc at*;obtain⟨n,rs⟩:=rc;unfold dQ at p;simp only at z p;unfold uL dQ;simp only;gi_wp2_with fail
   refine⟨trivial,(so _ (Zm.2 p)).mono ?_⟩;rintro e W2⟨rfl,R,C⟩;have b:=J.step R C;have A:=aH.trans (Way.fr (B:=V.heap.size) (l:=V.heap.size+1) J.fF ap C (by omega) (by omega) (by omega) (by omega));obtain⟨y,av⟩:∃y,y=i:=⟨_,rfl⟩;obtain⟨I,aS⟩:∃I,I=G:=⟨_,rfl⟩;rw[<-av,<-aS]at b;clear R C p e0 e1 e2 e3 f1 f2 f3 d0 d1 d2 d3 i0 j0 j1 j2 j3;by_cases r:n=0
   ·have u1:((n:Int) !=0)=false:=by rw[Zi];omega
    have⟨N,Q⟩:=z.2 r;clear r;gi_wp2_with fail
    exact⟨A.1,A.2,I,y,rs,N,none,b,by rw[X4];exact Q⟩
   have u1:((n:Int) !=0)=true:=by rw[ZI];omega
   have ag:=aC (z.1 r);have y1:=b.r1.cell? (i:=0) rfl;have y2:=b.r2.cell? (i:=0) rfl;have z1:=b.r1.frozen 0;have z2:=b.r2.frozen 0;have S:=b.mf n a;have P:=A.trans (Way.mf (B:=V.heap.size) (l:=V.heap.size+1) b ae n a);clear r;gi_wp2_with fail
   exact⟨P.1,P.2,rfl,I,y,_,by rw[ag.u];exact S⟩
  have b1:((er:Int) !=0)=true:=by rw[ZI];omega
  have aW:=aC (hS.cH aE an);have S:=(t.mf er a).aD (X5 _ _).drew;have HW:=(Way.mf (B:=V.heap.size) (l:=V.heap.size+1) t ae er a).trans (Way.aP (X5 _ _).drew);clear an;unfold uL dQ;simp only;gi_wp2_with fail
  gi_region_o
  all_goals gi_wp2_with fail
  all_goals exact⟨HW.1,HW.2,rfl,G,i,ko i j,by rw[aW.u];exact S⟩
 case done=>
  rintro D q hD⟨G,i,f,U,j,t,hS⟩hK;have aI:H=(0,0,f):=by have:=hS.eq;rw[ub,iQ]at this;exact this
  have r1:=t.r1;have r2:=t.r2;have c1:=r1.cell? (i:=0) rfl;have c2:=r2.cell? (i:=0) rfl;have f1:=r1.frozen 0;have f2:=r2.frozen 0;have S:=t.mf 0 0;have ba:D≠w.heap.size+1:=by omega
  have a_:D≠w.heap.size+2:=by omega
  have HK:=aC hK;clear r1 r2;gi_wp2_with fail
  have aV:il w F c G i f (ko i j) 0 0 ((q.setCell ⟨w.heap.size+1,0,none⟩ (ι 0)).setCell ⟨w.heap.size+1+1,0,none⟩ (ι 0)):=S;have aB:((q.setCell ⟨w.heap.size+1,0,none⟩ (ι 0)).setCell ⟨w.heap.size+1+1,0,none⟩ (ι 0)).heap[D]?=some (.deferred (some [])):=by rw[Ys _ _ _ _ (by simp only;omega),Ys _ _ _ _ (by simp only;omega)];exact HK
  generalize ((q.setCell ⟨w.heap.size+1,0,none⟩ (ι 0)).setCell ⟨w.heap.size+1+1,0,none⟩ (ι 0))=Z at*;have T:il w F c G i f (ko i j) 0 0 (Z.putObj D (.deferred none)):=il.bG (β:=Unit) (B:=V.heap.size) (by omega) (by omega) (by omega) (by omega) () Z _ _ aV (G1 Z D (.deferred none)) (λah e=>by cases e;exact⟨by omega,_,aB,rfl⟩);refine⟨by simp,.inl ⟨_,_,rfl,po aB,?_⟩⟩;rw[aI];refine⟨_,?_,G,i,rfl,T.fF,T.fr⟩;have c1:=T.r1.cell? (i:=0) rfl;have c2:=T.r2.cell? (i:=0) rfl;simp[results,results89,go_sem,c1,c2]
 rintro D cc aZ post q hD hL⟨rfl,G,i,v3,t⟩hK;have T:il w F c G i H.2.2 v3 H.1 H.2.1 (q.putObj D (.deferred none)):=il.bG (β:=Unit) (B:=V.heap.size) (by omega) (by omega) (by omega) (by omega) () q _ _ t (G1 q D (.deferred none)) (λah e=>by cases e;exact⟨by omega,_,hK,rfl⟩);gi_wp2_with fail
 refine⟨by simp,.inl ⟨_,_,rfl,po hK,?_⟩⟩;refine⟨_,?_,G,i,rfl,T.fF,T.fr⟩;have c1:=T.r1.cell? (i:=0) rfl;have c2:=T.r2.cell? (i:=0) rfl;simp[results,results89,go_sem,c1,c2]
end
end
section
variable {aQ:Int}
theorem Lg(b:∀r p,Pl.look fs r=some p->p.aU.length+1<=M/\p.aU.length<=1073741824):∀d,d<=3->zt c bf bi ve ef fs aQ M (jE fs d) (3-d)
 |0,_=>λW F j s k a h f n g q i m=>Zm.1 (JV (o:=3) (rec:=λs _=>(3,0,s)) (λe=>absurd rfl e) (λs k a h _ _=>lp.refl h M) b a h f n g ax q i m (jE fs 0 s a) rfl)|d+1,t=>λW F j s k a h f n g q i m=>Zm.1 (JV (o:=3-(d+1)) (rec:=jE fs d) (λ_=>by rw[show 3-(d+1)+1=3-d by omega];exact Lg b d (by omega)) (B1 b d) b a h f n g (by omega) q i m (jE fs (d+1) s a) rfl)
def jD(n:Nat):dS:=λk=>if k=n then some .aX else if k=n+1 then some .iL else if k=n+2 then some .j8 else if k=n+3 then some .bW else if k=n+4 then some .rd else none
def vZ(n a:Nat):Ad:=⟨n+4,a,n+3,n,n+1,n+2⟩
def uk(h:k<b):jD b k=none:=by unfold jD;rw[Yb (by omega),Yb (by omega),Yb (by omega),Yb (by omega),Yb (by omega)]
def SI(h:jD b k=some f):k=b\/k=b+1\/k=b+2\/k=b+3\/k=b+4:=by
 unfold jD at h;split at h
 ·omega
 split at h
 ·omega
 split at h
 ·omega
 split at h
 ·omega
 split at h
 ·omega
 cases h
def Xr(n g:Nat)(i:jS w (n+3) n (n+1) (n+2) (ς) [])(r:bF w n (ja []))(m:bF w (n+1) [])(p:bF w (n+2) (dJ []))(b:aF w (n+4) 186 [π g,π (n+3),ι 0,ι 0,ι 0]):bE w (jD n) (vZ n g) (λ_=>0) iO:=by
 have h:∀d,iz w (jD n) d (ς) (λ_=>0) []:=λd=>⟨YG _ _ _ _,λk e=>by cases e⟩;refine⟨λk d e=>?_,?_,?_,?_,?_,?_,λf a=>?_,b,⟨_,i,h _⟩,r,p,⟨[],m,X0 _,λc=>h _⟩,λf t b=>?_,λf a=>?_,λc f a=>?_⟩
 ·obtain q|q|q|q|q:=SI e
  ·exact .inl q
  ·exact .inr (.inl q)
  ·exact .inr (.inr (.inl q))
  ·exact .inr (.inr (.inr (by rw[q];exact sZ i (.inr (.inl rfl)))))
  exact .inr (.inr (.inr (by rw[q];exact sZ b (.inl rfl))))
 ·show jD n (n+4)=_;unfold jD;rw[Yb (by omega),Yb (by omega),Yb (by omega),Yb (by omega),Yd rfl]
 ·show jD n (n+3)=_;unfold jD;rw[Yb (by omega),Yb (by omega),Yb (by omega),Yd rfl]
 ·show jD n n=_;unfold jD;rw[Yd rfl]
 ·show jD n (n+1)=_;unfold jD;rw[Yb (by omega),Yd rfl]
 ·show jD n (n+2)=_;unfold jD;rw[Yb (by omega),Yb (by omega),Yd rfl]
 ·exact absurd a (Nat.not_lt_zero _)
 ·cases b
 ·cases a
 cases a
def WY(W:ay)(d:Nat)(a:Nat×Nat×St)(e:Ending)(b:ay):Prop:=
 μ W b /\(a.1≠0->e=.returned (.tuple #[.pointer none,ι (a.1:Int),ι (a.2.1:Int)]))/\
  (a.1=0->∃c G f,c.bx=d/\e=.returned (.tuple #[π c.bb,ι 0,ι 0])/\bE b G c f a.2.2/\(∀k,k<W.heap.size->G k=none))
def Eg(b:Nat)(y:aj)(W:ay)(h:PW W b bf bi ve ef fs aQ)(T:dq W)(U:∀ad d,Pl.look fs ad=some d->d.aU.length+1<=M/\d.aU.length<=1073741824)(hM:101*M<=4294967296):
 Calls prog 64 #[π b,σ y] W λe Q=>WY W b (cX fs y) e Q:=by
 have g:=Ei b bf bi ve ef fs aQ y W h;cases L:Pl.look fs y with
 |none=>
  have J:cX fs y=(2,0,iO):=by unfold cX;rw[L]
  rw[J];rw[L]at g;simp only at g;go_in;go_wp2_with (go_at_call 87;refine κ g λa t=>?_)
  go_ret3
  exact⟨t,λ_=>rfl,λe=>by cases e⟩
 |some d=>
  rw[L]at g;simp only at g;have⟨X,ah⟩:=U y d L;have J:cX fs y=jE fs 3 iO d.aU:=by unfold cX;rw[L]
  rw[J];have O:∀a,μ W a->Calls prog 88 #[] a λe f=>e=.returned (π (a.heap.size+3))/\f.heap.size=a.heap.size+4/\μ a f/\∀Z,Z=f.alloc (.cells #[π b,π (a.heap.size+3),ι 0,ι 0,ι 0] 186)->bE Z (jD a.heap.size) (vZ a.heap.size b) (λ_=>0) iO/\En Z (jD a.heap.size) b bf bi ve ef fs aQ/\μ W Z:=λa w=>by
   refine κ (Ns a) λf⟨Y,S,h3,V,B,p⟩=>?_;refine⟨rfl,p,B,λZ r=>?_⟩;have H:μ f Z:=by rw[r];exact ak f _
   have x:=B.tr H;have o:=w.tr x;have ag:aF Z (a.heap.size+4) 186 [π b,π (a.heap.size+3),ι 0,ι 0,ι 0]:=by rw[r,<-p];exact aF.bq f _ _
   have z:=w.size;have:=h.row.lt;have:=h.aW.lt;have:bi<W.heap.size:=by obtain⟨l,q,-⟩:=h.first;exact q.lt
   have:=xe T;exact⟨Xr a.heap.size b (aF.aD Y H) (S.aD H) (h3.aD H) (V.aD H) ag,⟨h.aD o,T.aD o,uk (by omega),uk (by omega),uk (by omega),uk (by omega)⟩,o⟩
  have CR:∀n Z,W.heap.size<=n->bE Z (jD n) (vZ n b) (λ_=>0) iO->En Z (jD n) b bf bi ve ef fs aQ->μ W Z->Calls prog 89 #[π (n+4),σ d.aU] Z λe Q=>∃G C,e=.returned (.tuple #[ι ((jE fs 3 iO d.aU).1:Int),ι ((jE fs 3 iO d.aU).2.1:Int)])/\bE Q G (vZ n b) C (jE fs 3 iO d.aU).2.2/\μ W Q/\(∀k,k<W.heap.size->G k=none):=λn Z hn m e x=>by refine(Lg (c:=vZ n b) U 3 ax Z (jD n) (λ_=>0) iO 0 d.aU m e DQ rfl X ah (by show 0+(100-0)*M+M<=_;omega)).mono ?_;rintro e w'⟨G,C,rfl,F,A⟩;have z:=x.size;have hG:∀k,k<W.heap.size->G k=none:=λk v=>A.fS k (by omega) (uk (by omega));refine⟨G,C,rfl,F,⟨A.tn.os.trans x.os,A.tn.tape.trans x.tape,A.tn.output.trans x.output,Ye z A.tn.size,λk v=>(A.tn.block k (by omega) (λe=>e (uk (by omega)))).trans (x.block k v)⟩,hG⟩
  generalize jE fs 3 iO d.aU=af at*;have⟨R,rn,rs⟩:=af;simp only at CR;by_cases D:R=0
  ·have:((R:Int) !=0)=false:=by rw[Zi];omega
   have j:=aC D;go_in;go_wp2_with (first|(go_at_call 87;refine κ g λa t=>?_)|(go_at_call 88;refine κ (O a t) λf⟨p,B,r⟩=>?_;have:=p)|(go_at_call 89;have⟨m,N,I⟩:=r _ rfl;refine(CR a.heap.size _ t.size m N I).mono ?_;rintro e s⟨G,C,rfl,K,E,P⟩;have:s.χ (a.heap.size+4) 1=some (π (a.heap.size+3)):=K.row.cell? (i:=1) rfl))
   go_ret3
   have D:=j;subst D;exact⟨E,λe=>absurd rfl e,λ_=>⟨vZ a.heap.size b,G,C,rfl,rfl,K,(aC P).u⟩⟩
  have:((R:Int) !=0)=true:=by rw[ZI];omega
  have j:=aC D;go_in;go_wp2_with (first|(go_at_call 87;refine κ g λa t=>?_)|(go_at_call 88;refine κ (O a t) λf⟨p,B,r⟩=>?_;have:=p)|(go_at_call 89;have⟨m,N,I⟩:=r _ rfl;refine(CR a.heap.size _ t.size m N I).mono ?_;rintro e s⟨G,C,rfl,K,E,P⟩))
  go_ret3
  exact⟨E,λ_=>rfl,λe=>absurd e j⟩
end
def gn(W:ay)(v:az)(x:fv):Prop:=(v=.slice none 0 0/\x=[])\/∃b o c,v=.slice (some ⟨b,o,none⟩) x.length c/\x.length<=c/\eE W b o x/\∃d a,W.heap[b]?=some (Obj.cells d 9 a)
def pn(W:ay)(v:az)(x:List (aj×Nat)):Prop:=(v=.slice none 0 0/\x=[])\/∃b o c,v=.slice (some ⟨b,o,none⟩) x.length c/\sr W b o x/\∃d a,W.heap[b]?=some (Obj.cells d 202 a)
def nP(W:ay)(v:az)(x:gb):Prop:=(v=.slice none 0 0/\x=[])\/∃b o c,v=.slice (some ⟨b,o,none⟩) x.length c/\oC W b o x/\∃d a,W.heap[b]?=some (Obj.cells d 265 a)
section
def eE.xn(h:eE W b o nd)(d:X.heap[b]?=W.heap[b]?):eE X b o nd:=λj y a=>by have:=h j y a;unfold World.cell? at*;rw[d];exact this
def sr.xn(h:sr W b o n)(d:X.heap[b]?=W.heap[b]?):sr X b o n:=λj y a=>by have:=h j y a;unfold World.cell? at*;rw[d];exact this
def oC.xn(h:oC W b o i)(d:X.heap[b]?=W.heap[b]?):oC X b o i:=λj y a=>by have:=h j y a;unfold World.cell? at*;rw[d];exact this
structure Bl(W X:ay):Prop where
 a_:∀(k:Nat) (cs:hZ) (fz:Nat×Nat),W.heap[k]?=some (Obj.cells cs 9 fz)->X.heap[k]?=W.heap[k]?
 aI:∀(k:Nat) (cs:hZ) (fz:Nat×Nat),W.heap[k]?=some (Obj.cells cs 202 fz)->X.heap[k]?=W.heap[k]?
 zy:∀(k:Nat) (cs:hZ) (fz:Nat×Nat),W.heap[k]?=some (Obj.cells cs 265 fz)->X.heap[k]?=W.heap[k]?
 zC:∀(k:Nat) (cs:hZ) (fz:Nat×Nat),W.heap[k]?=some (Obj.cells cs 273 fz)->X.heap[k]?=W.heap[k]?
 bW:∀(k:Nat) (cs:hZ) (fz:Nat×Nat),W.heap[k]?=some (Obj.cells cs 142 fz)->X.heap[k]?=W.heap[k]?
def Bl.aP(a:μ W X):Bl W X:=⟨λk _ _ h=>a.block k (X8.1 h).1,λk _ _ h=>a.block k (X8.1 h).1,λk _ _ h=>a.block k (X8.1 h).1,λk _ _ h=>a.block k (X8.1 h).1,λk _ _ h=>a.block k (X8.1 h).1⟩
def gn.bl(h:gn W v nd)(a:Bl W X):gn X v nd:=by
 obtain h|⟨b,o,c,i,g,j,f,d,e⟩:=h
 ·exact .inl h
 have q:=a.a_ b f d e;exact .inr ⟨b,o,c,i,g,j.xn q,f,d,q.trans e⟩
def pn.bl(h:pn W v n)(a:Bl W X):pn X v n:=by
 obtain h|⟨b,o,c,g,i,f,d,e⟩:=h
 ·exact .inl h
 have q:=a.aI b f d e;exact .inr ⟨b,o,c,g,i.xn q,f,d,q.trans e⟩
def nP.bl(h:nP W v i)(a:Bl W X):nP X v i:=by
 obtain h|⟨b,o,c,g,j,f,d,e⟩:=h
 ·exact .inl h
 have q:=a.zy b f d e;exact .inr ⟨b,o,c,g,j.xn q,f,d,q.trans e⟩
def gn.sh(h:gn W v nd):∃a c,v=.slice a nd.length c:=by
 obtain⟨d,e⟩|⟨b,o,c,d,-⟩:=h
 ·subst e;exact⟨none,0,d⟩
 exact⟨_,c,d⟩
def pn.sh(h:pn W v n):∃a c,v=.slice a n.length c:=by
 obtain⟨d,e⟩|⟨b,o,c,d,-⟩:=h
 ·subst e;exact⟨none,0,d⟩
 exact⟨_,c,d⟩
def nP.sh(h:nP W v i):∃a c,v=.slice a i.length c:=by
 obtain⟨d,e⟩|⟨b,o,c,d,-⟩:=h
 ·subst e;exact⟨none,0,d⟩
 exact⟨_,c,d⟩
def gn.tQ(h:gn W v nd):sy W v nd:=by
 obtain h|⟨b,o,c,d,g,e,i,f,a⟩:=h
 ·exact .inl h
 exact .inr ⟨b,o,c,d,(X8.1 a).1,e⟩
def gn.rd(h:gn W (.slice y g bf) nd):∃b o,0<nd.length->y=some ⟨b,o,none⟩/\b<W.heap.size/\eE W b o nd:=by
 obtain⟨f,d⟩|⟨b,o,m,f,d,a,q,p,i⟩:=h
 ·subst d;exact⟨0,0,λe=>by simp at e⟩
 cases f;exact⟨b,o,λ_=>⟨rfl,(X8.1 i).1,a⟩⟩
def nP.rd(h:nP W (.slice y g bf) i):∃b o,0<i.length->y=some ⟨b,o,none⟩/\b<W.heap.size/\oC W b o i:=by
 obtain⟨d,f⟩|⟨b,o,m,d,a,q,p,c⟩:=h
 ·subst f;exact⟨0,0,λe=>by simp at e⟩
 cases d;exact⟨b,o,λ_=>⟨rfl,(X8.1 c).1,a⟩⟩
def gn.bG{B:Nat}(h:W.ownsRow B 9 1 v nd.length (nd.map aK)):gn W v nd:=by
 obtain⟨a,d⟩|⟨g,c,e,a,d,m,f,-⟩:=h.2
 ·exact .inl ⟨a,ZZ d⟩
 refine .inr ⟨g,0,c,a,f,λj y b=>?_,e,_,m⟩;rw[a]at h;have:=lI h j (by rw[Yk];exact ((Yl.1 b).1));rw[YO,this,YT,(Yl.1 b).2]
end
def bT(s:St)(a:Nat):Rl:=s.aG.getD a ⟨[],[],[]⟩
structure BM(W:ay)(c:Ad)(rb:Nat->Nat)(s:St)(vp:az)(l:dr):Prop where
 bW:jS W c.bb c.nm c.bt c.pb vp s.first
 aX:bF W c.nm (ja s.aX)
 iL:bF W c.bt l
 j8:bF W c.pb (dJ s.ph)
 bJ:nP W vp (s.bJ.map rb)
 of:∀name,nP W ((cG l name).getD (ς)) ((s.of name).map rb)
 aG:∀i,i<s.aG.length->∃vt vn vc,aF W (rb i) 273 [vt,vn,vc]/\gn W vt (bT s i).tg/\gn W vn (bT s i).nd/\pn W vc (bT s i).cs
 pl:∀i∈s.bJ,i<s.aG.length
 ol:∀name,∀i∈s.of name,i<s.aG.length
section
def dU.Lx(h:dU W F v nd):gn W v nd:=by
 obtain h|⟨b,o,c,e,g,i,d,f,a⟩:=h
 ·exact .inl h
 exact .inr ⟨b,o,c,e,a,d,f⟩
def iz.LD(h:iz W F f v rb i):nP W v (i.map rb):=by
 obtain⟨b,g⟩|⟨m,c,n,b,g,q,-⟩:=h.1.2
 ·exact .inl ⟨b,by rw[ZZ g];rfl⟩
 refine .inr ⟨m,0,c,by rw[Yk];exact b,λj y a=>?_,n,_,q⟩;have e:=h.1;rw[b]at e;rw[Za]at a;cases d:i[j]? with
 |none=>rw[d]at a;cases a
 |some z=>rw[d]at a;cases a;have:=lI e j (by rw[Yk];exact ((Yl.1 d).1));rw[YO,this,YT,(Yl.1 d).2];rfl
theorem Jy:∀(b:List (aj×Nat)) (j:Nat) (x:aj×Nat),b[j]?=some x->(oJ b)[j*2]?=some (aK x.1)/\(oJ b)[j*2+1]?=some (ι (x.2:Int))
 |[],_,_,h=>by cases h
 |y::a,0,x,h=>by cases h;exact⟨rfl,rfl⟩
 |y::a,j+1,x,h=>by have e:oJ (y::a)=aK y.1::ι (y.2:Int)::oJ a:=rfl;rw[e,show (j+1)*2=j*2+2 by omega];exact (Jy a j x h)
def gY{B e n g cap c:Nat}{d:f'}(h:W.ownsRow B e c (ξ g n cap) n d)(f:Nat)(u:az)(a:d[f]?=some u):W.cell? ⟨g,f,none⟩=some u:=by
 obtain⟨b,-⟩|⟨x,q,y,b,p,m,r,t,z,i⟩:=h.2
 ·cases b
 cases b;rw[<-i,acN]at a;split at a
 ·simp only[World.cell?,m];simpa using a
 cases a
def oi.Xx(h:oi W F f v n):pn W v n:=by
 obtain⟨a,e⟩|⟨i,c,g,a,e,p,-⟩:=h.1.2
 ·exact .inl ⟨a,ZZ e⟩
 refine .inr ⟨i,0,c,a,λj y m=>?_,g,_,p⟩;have b:=h.1;rw[a]at b;have⟨d,q⟩:=Jy n j y m;rw[YO];exact⟨gY b _ _ d,gY b _ _ q⟩
def bE.bm(h:bE W F c rb s):∃vp l,BM W c rb s vp l:=by
 have⟨vp,n,m⟩:=h.bW;obtain⟨l,r,-,q⟩:=h.iL;refine⟨vp,l,n,h.aX,r,h.j8,m.LD,λj=>(q j).LD,λa b=>?_,h.pl,h.ol⟩;have⟨g,d,f,p,x,t,i⟩:=h.aG a s.aG[a] (X9 b);have e:bT s a=s.aG[a]:=by unfold bT;simp[b]
 rw[e];exact⟨g,d,f,p,x.Lx,t.Lx,i.Xx⟩
def BM.bl(h:BM W c rb s vp l)(a:Bl W X)(q:X.heap[c.nm]?=W.heap[c.nm]?)(e:X.heap[c.bt]?=W.heap[c.bt]?)(f:X.heap[c.pb]?=W.heap[c.pb]?):BM X c rb s vp l:=by refine⟨(a.bW _ _ _ h.bW).trans h.bW,h.aX.lV q,h.iL.lV e,h.j8.lV f,h.bJ.bl a,λj=>(h.of j).bl a,λp g=>?_,h.pl,h.ol⟩;have⟨n,i,m,b,t,r,d⟩:=h.aG p g;exact⟨n,i,m,(a.zC _ _ _ b).trans b,t.bl a,r.bl a,d.bl a⟩
def BM.aD(h:BM W c rb s vp l)(a:μ W X):BM X c rb s vp l:=h.bl (Bl.aP a) (a.block _ h.aX.lt) (a.block _ h.iL.lt) (a.block _ h.j8.lt)
def g_(s:St):gb->List (aj×Nat)
 |[]=>[]
 |a::b=>if 0<(bT s a).cs.length then(bT s a).cs else g_ s b
def Mb(d:gb)(v:az)(h:BM W c rb s vp l)(p:nP W v (d.map rb))(y:∀m∈d,m<s.aG.length)(V:d.length<=1073741824):
 Calls prog 239 #[v] W λe z=>∃u,e=.returned u/\pn z u (g_ s d)/\z =W:=by
 obtain⟨a,k,rfl⟩:=p.sh;have⟨b,o,t⟩:=p.rd;rw[Yk]at t⊢;go_in;go_wp2
 go_loopw [7] (λr wr=>∃j:Nat,r=ι j/\j<=d.length/\wr=W/\Hid (g_ s d=g_ s (d.drop j))) (λr _=>d.length-aV r)
 case atStart=>exact⟨0,rfl,by omega,rfl,by show _=_;rw[n']⟩
 obtain⟨j,rfl,w,rfl,g⟩:=hrel;by_cases q:j<d.length
 ·have:(j:Int)<d.length:=by omega
  obtain⟨rfl,S,B⟩:=(aC t).u (by omega);have:=B j (rb d[j]) (by rw[Za,X9 q];rfl);have⟨D,R,C,A,J,G,x⟩:=h.aG d[j] ((aC y).u _ (Ym q));have f:=g;rw[Yu q,g_]at f;obtain⟨U,T,rfl⟩:=x.sh;have:=A.cell? (i:=2) rfl;generalize d[j]=m at*;generalize bT s m=n at*;by_cases i:0<n.cs.length
  ·have:(0:Int)<n.cs.length:=by omega
   rw[Yd i]at f;have g:=aC f;go_wp2
   go_ret;exact⟨_,rfl,by rw[g.u];exact x,rfl⟩
  have:¬(0:Int)<n.cs.length:=by omega
  rw[Yb i]at f;have g:=aC f;go_wp2
  go_roundw
  case rel=>exact⟨j+1,by go_num,by omega,(by first|rfl|trivial),g⟩
  simp only[aV];omega
 have I:j=d.length:=by omega
 subst I;have:¬(d.length:Int)<d.length:=by omega
 have f:=g;rw[ub,g_]at f;go_wp2
 go_ret;exact⟨_,rfl,by rw[(aC f).u];exact .inl ⟨rfl,rfl⟩,rfl⟩
end
def Tryz.Vi:(Tryz.prog.info? 30).map (λa=>(a.zero,a.size,a.bytes))=some (some (ς),1,24):=by kernel_rfl
def fX(s:St)(a:gb):fv:=if a.length=1 then(bT s (a.headD 0)).nd else bR (a.map λb=>(bT s b).nd).flatten []
structure DJ(W:ay)(xs:gb)(f:Nat->az)(j:Nat)(u:az)(X:ay):Prop where
 aP:μ W X
 bG:X.ownsRow W.heap.size 30 1 u j ((xs.take j).map f)
section
def Og(d:gb)(v:az)(h:BM W c rb s vp l)(O:nP W v (d.map rb))(t:∀g∈d,g<s.aG.length)(hn:d.length<=1073741824)(hl:(d.map λg=>(bT s g).nd).flatten.length<=1073741824):
 Calls prog 238 #[v] W λe E=>∃u,e=.returned u/\gn E u (fX s d)/\μ W E:=by
 have⟨i0,av,aw,aE,ao⟩:=Y1 Tryz.Vi;obtain⟨a,cap,rfl⟩:=O.sh;have⟨b,o,R⟩:=O.rd;rw[Yk]at R⊢;have⟨f,w⟩:=Classical.axiomOfChoice (r:=λ(g:Nat) (u:az)=>g<s.aG.length->∃B A,aF W (rb g) 273 [B,u,A]/\gn W u (bT s g).nd) (λg=>by
  by_cases hi:g<s.aG.length
  ·have⟨B,vn,A,z,q2,n,q4⟩:=h.aG g hi;exact⟨vn,λ_=>⟨B,A,z,n⟩⟩
  exact⟨ς,λe=>absurd e hi⟩)
 have HB:=aC R;have F:=aC t;by_cases L:d.length=1
 ·have:((d.length:Int)==1)=true:=by rw[Zj];omega
  have D:fX s d=(bT s (d.headD 0)).nd:=by unfold fX;rw[Yd L]
  have K:0<d.length:=by omega
  have ae:d.headD 0=d[0]:=by
   cases d with
   |nil=>simp at K
   |cons x y=>rfl
  rw[D,ae];obtain⟨rfl,ag,J⟩:=HB K;have Y:=J 0 (rb d[0]) (by rw[Za,X9 K];rfl);rw[ZH]at Y;have⟨B,A,z,n⟩:=w d[0] (F _ (Ym K));have U:=z.cell? (i:=1) rfl
  have⟨C,I,H⟩:=n.sh;rw[H]at U;go_in;go_wp2
  go_ret;exact⟨_,rfl,by rw[<-H];exact n,X5 _ _⟩
 have:((d.length:Int)==1)=false:=by rw[Yi];omega
 have D:fX s d=bR (d.map λg=>(bT s g).nd).flatten []:=by unfold fX;rw[Yb L]
 rw[D];have ab:DJ W d f 0 (ς) W:=⟨X5 _ _,YG _ _ _ _⟩;go_in;go_wp2
 go_loopw [3,17] (λu P wr=>∃j:Nat,P=ι j/\j<=d.length/\DJ W d f j u wr) (λ_ P _=>d.length-aV P)
 case atStart=>exact⟨0,rfl,by omega,ab⟩
 obtain⟨j,rfl,aO,q⟩:=hrel;by_cases i:j<d.length
 ·have:(j:Int)<d.length:=by omega
  obtain⟨rfl,ag,J⟩:=HB (by omega);have Y:=(J.aP q.aP ag) j (rb d[j]) (by rw[Za,X9 i];rfl);have⟨B,A,z,n⟩:=w d[j] (F _ (Ym i));have U:=(z.aD q.aP).cell? (i:=1) rfl;have V:(d.take (j+1)).map f=(d.take j).map f++[f d[j]]:=by rw[Yn i,Yy];rfl
  have ap:=q.aP.size;have⟨C,I,H⟩:=n.sh;rw[H]at U V;have HN:=aC V;generalize (bT s d[j]).nd.length=m at*;generalize d[j]=g at*;have T:=(X5 wr.heap.size wr).alloc ax (.cells #[.slice C m I] 30);have am:=aF.bq wr 30 [.slice C m I];have S:Hid ((wr.alloc (.cells #[.slice C m I] 30)).ownsRow W.heap.size 30 1 u3 j ((d.take j).map f)):=bI q.bG (λk hk=>T.block k (q.bG.lt k hk).2);have aa:=q.aP.trans (T.mono ap);go_wp2_with (at_builtin;refine YS _ rfl (.tmp 21) (.tmp 26) 370 rfl W.heap.size 30 i0 (ς) 1 24 underlying370 av aw aE ao rfl (by decide) u3 j _ rfl S (η wr.heap.size 0) 1 1 [.slice C m I] rfl (by simp) (λj u i=>by rw[jx];exact am.cell? i) (by intro u Z;rw[Yc]at Z;subst Z;rfl) (by unfold maxLen;omega) (by omega) (by rw[X_];omega) ?_;intro v6 w6 ad ac _ _;have aI:DJ W d f (j+1) v6 w6:=⟨aa.trans ((Tn.grown (p:=λk=>W.heap.size<=k) ac (λk e=>(S.lt k e).1)).aP aa.size (λk e=>e)),by rw[HN.u];exact ad⟩)
  go_roundw
  case rel=>exact⟨j+1,by go_num,by omega,aI⟩
  simp only[aV];omega
 have ar:j=d.length:=by omega
 subst ar;have:¬(d.length:Int)<d.length:=by omega
 have G:=q.bG;rw[YR]at G;obtain⟨au,M,rfl⟩:=fp G;have N:=q.aP;have CO:Calls prog 230 #[.slice au d.length M] wr λe E=>∃u,e=.returned u/\E.ownsRow wr.heap.size 9 1 u (bR (d.map λg=>(bT s g).nd).flatten []).length ((bR (d.map λg=>(bT s g).nd).flatten []).map aK)/\μ wr E:=by
  have ah:(d.map λg=>(bT s g).nd).length=d.length:=Yk _;have Q:=λbb oo ha=>BY (d.map λg=>(bT s g).nd) au M bb oo wr ha (by rw[ah];exact hn) hl;rw[ah]at Q;obtain⟨X,e2⟩|⟨aA,aN,aM,X,e2,e3,-⟩:=G.2
  ·exact Q 0 0 (λe=>by omega)
  cases X;refine Q aA 0 (λ_=>⟨rfl,(X8.1 e3).1,λj x i=>?_⟩);rw[Za]at i;cases t:d[j]? with
  |none=>rw[t]at i;cases i
  |some y=>rw[t]at i;cases i;have an:=(Yl.1 t).1;have ak:=lI G j (by rw[Yk];exact an);rw[YT,(Yl.1 t).2]at ak;obtain⟨B,A,-,n⟩:=w y (F _ (Z5 t));exact⟨f y,by rw[YO];exact ak,(n.bl (Bl.aP N)).tQ⟩
 go_wp2_with (go_at_call 230;refine CO.mono ?_;rintro e w2⟨u2,rfl,al,ai⟩;have aB:=gn.bG al;have aL:=N.tr ai)
 go_ret;exact⟨_,rfl,aB,aL⟩
end
def jO(s:St)(n:aj):Bool:=decide (0<(s.of n).length)
structure oF(W:ay)(wk:Nat)(c:Ad)(rb:Nat->Nat)(s:St)(vp:az)(l:dr)(bf bi:Nat)(ve:az)(ef:ga)(fs:fy)(aQ:Int)(v2 v3 v4 v5:az):Prop where
 row:aF W wk 193 [π c.bb,π c.bx,v2,v3,v4,v5]
 bm:BM W c rb s vp l
 pw:PW W c.bx bf bi ve ef fs aQ
 fQ:dq W
def lO(W:ay)(f:Nat->Nat)(v:az)(c:List (Nat×fv)):Prop:=(v=.slice none 0 0/\c=[])\/∃b o e,v=.slice (some ⟨b,o,none⟩) c.length e/\(∃d a,W.heap[b]?=some (Obj.cells d 275 a))/\
 ∀(j:Nat) (x:Nat×fv),c[j]?=some x->W.cell? ⟨b,o+j*2,none⟩=some (dE f x.1)/\∃u,W.cell? ⟨b,o+j*2+1,none⟩=some u/\gn W u x.2
def kl(s:St)(c:fy)(b:aj):List (Nat×fv)->Option (Nat×aj)
 |[]=>none
 |x::a=>if(iS b ((bT s x.1).tg.headD [])).2=true/\x.2.all (gI c (jO s) (iS b ((bT s x.1).tg.headD [])).1)=true then some (x.1,(iS b ((bT s x.1).tg.headD [])).1) else kl s c b a
def zA(c:Nat->Nat):Option (Nat×aj)->az
 |none=> .tuple #[.pointer none,.string ⟨#[]⟩,.bool false]
 |some (b,a)=> .tuple #[dE c b,.string ⟨a.toArray⟩,.bool true]
section
variable {aQ:Int}
def oF.aD(h:oF W wk c rb s vp l bf bi ve ef fs aQ v2 v3 v4 v5)(a:μ W X):oF X wk c rb s vp l bf bi ve ef fs aQ v2 v3 v4 v5:=⟨h.row.aD a,h.bm.aD a,h.pw.aD a,h.fQ.aD a⟩
def oF.at(h:oF W wk c rb s vp l bf bi ve ef fs aQ v2 v3 v4 v5):xG W wk c.bb c.nm c.bt c.pb c.bx bf bi vp ve v2 v3 v4 v5 s.first l (jO s) ef fs aQ:=by refine⟨h.row,h.bm.bW,h.bm.iL,λd=>?_,h.pw,h.fQ⟩;have⟨a,b,e⟩:=(h.bm.of d).sh;rw[Yk]at e;exact⟨a,_,b,e,rfl⟩
def lO.aD(h:lO W rb v us)(a:μ W X):lO X rb v us:=by
 obtain h|⟨b,o,n,m,⟨l,k,c⟩,q⟩:=h
 ·exact .inl h
 have d:=(X8.1 c).1;refine .inr ⟨b,o,n,m,⟨l,k,(a.block b d).trans c⟩,λj x e=>?_⟩;have⟨f,u,i,g⟩:=q j x e;exact⟨(a.cell (p:=η b (o+j*2)) d).trans f,u,(a.cell (p:=η b (o+j*2+1)) d).trans i,g.bl (Bl.aP a)⟩
def lO.sh(h:lO W rb v us):∃a e,v=.slice a us.length e:=by
 obtain⟨d,f⟩|⟨b,o,e,d,-⟩:=h
 ·subst f;exact⟨none,0,d⟩
 exact⟨_,e,d⟩
def Hl(c b:aj):(iS c b).1.length<=c.length:=by
 unfold iS;split
 ·simp
 have a:=El c (Mk.bo 37 b);simp only[Lib.trimSuffix];split
 ·rw[YL];omega
 exact a
def KG(n:aj):Lib.countB ⟨n.toArray⟩ ⟨#[37]⟩<=n.length:=by have:=Lib.countB_mul_le (⟨#[37]⟩:aA) (by decide) n.length ⟨n.toArray⟩ (by show n.length<=_;omega);have e:(⟨#[37]⟩:aA).size=1:=rfl;rw[e,afJ]at this;exact this
structure vT(W:ay)(s:St)(fs:fy)(name:aj)(us:List (Nat×fv))(j:Nat)(X:ay):Prop where
 aP:μ W X
 eq:kl s fs name us=kl s fs name (us.drop j)
def Nj(us:List (Nat×fv))(name:aj)(h:oF W wk c rb s vp l bf bi ve ef fs aQ v2 v3 v4 v5)(hu:lO W rb v2 us)(Z:∀x∈us,x.1<s.aG.length/\(bT s x.1).tg≠[]/\(∀y∈(bT s x.1).tg,y.length<=2000)/\x.2.length<=2000/\∀n∈x.2,n.length<=2000)(T:us.length<=1073741824)(ai:name.length<=1073741824):
 γ 240 #[π wk,σ name] W (zA rb (kl s fs name us)):=by
 unfold γ π σ;obtain⟨a,cp,rfl⟩:=hu.sh;have c2:=h.row.cell? (i:=2) rfl;have HX:=aC Z;have ae:vT W s fs name us 0 W:=⟨X5 _ _,by rw[n']⟩;clear Z;go_in;go_wp2
 go_loopw [16] (λv wr=>∃j:Nat,v=ι j/\j<=us.length/\vT W s fs name us j wr) (λv _=>us.length-aV v)
 case atStart=>exact⟨0,rfl,by omega,ae⟩
 clear ae c2;obtain⟨j,rfl,aI,B⟩:=hrel;by_cases I:j<us.length
 ·have:(j:Int)<us.length:=by omega
  have E:=B.aP;have V:=E.size;have Q:=h.aD E;obtain⟨-,q⟩|⟨b,o,aB,q,⟨cs,fz,q1⟩,q2⟩:=hu.aD E
  ·rw[q]at I;simp at I
  cases q;have⟨p1,u,p2,N⟩:=q2 j us[j] (X9 I);have⟨x1,O,C,x4,P⟩:=HX us[j] (Ym I);have Y:=Yu I;have d:=B.eq;rw[Y,kl]at d;obtain⟨vt,vn,vc,R,r2,-,-⟩:=Q.bm.aG us[j].1 x1;have ah:=R.lt;generalize us[j]=xx at*;have⟨f,p⟩:=xx;simp only at p1 N x1 O C x4 P d R r2 ah;have U:=Y5.2 O;have ad:=Bg _ U;rw[ad]at d;obtain⟨-,z⟩|⟨tb,tO,tc,rfl,z1,z2,aE,aL,z3⟩:=r2
  ·exact absurd z O
  have:=(X8.1 z3).1;have:=R.cell? (i:=0) rfl;have e1:=z2 0 (bT s f).tg[0] (X9 U);have:=C _ (Ym U)
  rw[ZH]at e1;unfold aK at e1;generalize (bT s f).tg[0]=m at*;generalize (bT s f).tg.length=aq at*;have⟨G,L,an⟩:=N.sh;subst an;have⟨ag,ap,H⟩:=N.rd;have:=yr 37 m;have:=A7 37 m;have ak:=Hl name m;have k:=(X5 wr.heap.size wr).alloc ax (.cells #[dE rb f,.slice G p.length L] 275);have F:=aF.bq wr 275 [dE rb f,.slice G p.length L];have g:=OQ name m (wr.alloc (.cells #[dE rb f,.slice G p.length L] 275)) (Q.fQ.aD k) ai (by omega) (by omega) (by omega);have D:∀w,μ wr w->γ 141 #[π wk,.slice G p.length L,.string ⟨(iS name m).1.toArray⟩] w (.bool (p.all (gI fs (jO s) (iS name m).1))):=λw M=>EF p (iS name m).1 G L ag ap (Q.aD M).at (λe=>⟨(H e).1,Yo (H e).2.1 M.size,(H e).2.2.aP M (H e).2.1⟩) (by omega) (λn T=>⟨by have:=P n T;omega,by have:=P n T;have:=KG n;have:Lib.countB ⟨n.toArray⟩ ⟨#[37]⟩*(iS name m).1.length<=2000*1073741824:=Nat.mul_le_mul (by omega) (by omega);omega⟩);have t:=E;clear Q q2 N R z2 z3 H Y q1 O C P ad B E;unfold dE at p1 F;generalize iS name m=SB at*;have⟨S,ok⟩:=SB;simp only at d ak g D;generalize p.all (gI fs (jO s) S)=al at*;cases ok with
  |false=>
   have r:Hid (vT W s fs name us (j+1) wr):=⟨t,by rw[d,Yb (by simp)]⟩;clear d D;unfold dE at g k;go_wp2_with (go_at_call 273;refine g.mono ?_;clear g;rintro e K⟨rfl,i⟩;have X:vT W s fs name us (j+1) K:=⟨t.trans ((k.tr i).mono V),r.eq⟩;clear i)
   go_roundw
   case rel=>exact⟨j+1,by go_num,by omega,X⟩
   simp only[aV];omega
  |true=>
   cases al with
   |false=>
    have r:Hid (vT W s fs name us (j+1) wr):=⟨t,by rw[d,Yb (by simp)]⟩;clear d;unfold dE at g k;go_wp2_with (first|(go_at_call 273;refine g.mono ?_;clear g;rintro e K⟨rfl,i⟩;have:=(F.aD i).cell? (i:=1) rfl;have J:=k.tr i;clear i)|(go_at_call 141;refine(D K J).mono ?_;clear D;rintro e w2⟨rfl,A⟩;have X:vT W s fs name us (j+1) w2:=⟨t.trans ((J.tr A).mono V),r.eq⟩;clear A))
    go_roundw
    case rel=>exact⟨j+1,by go_num,by omega,X⟩
    simp only[aV];omega
   |true=>
    have r:Hid (kl s fs name us=some (f,S)):=by show _=_;rw[d,Yd ⟨rfl,rfl⟩]
    clear d;unfold dE at g k;go_wp2_with (first|(go_at_call 273;refine g.mono ?_;clear g;rintro e K⟨rfl,i⟩;have ac:=F.aD i;have:=ac.cell? (i:=1) rfl;have J:=k.tr i;clear i)|(go_at_call 141;refine(D K J).mono ?_;clear D;rintro e w2⟨rfl,A⟩;have:=(ac.aD A).cell? (i:=0) rfl;have am:=t.trans ((J.tr A).mono V);clear A))
    go_ret3
    rw[r.u];exact⟨rfl,am⟩
 have ao:j=us.length:=by omega
 subst ao;have:¬(us.length:Int)<us.length:=by omega
 have d:=B.eq;rw[ub,kl]at d;have r:=aC d;have t:=B.aP;clear d B;go_wp2
 go_ret3
 rw[r.u];exact⟨rfl,t⟩
end
def Tryz.U1:(Tryz.prog.info? 275).map (λa=>(a.zero,a.size,a.bytes))=some (some (.agg #[.pointer none,ς]),2,32):=by kernel_rfl
def tW(s:St)(a:Nat):fv:=(bT s a).nd.filter dc
def zw(s:St)(a:Nat):fv:=(bT s a).nd.filter (λn=> !dc n)
def tH(s:St)(b:fy)(a:Nat):Bool:=decide (0<(bT s a).cs.length)&&(zw s a).all (gI b (jO s) [])
def cJ(s:St)(c:fy)(b:gb):List (Nat×fv):=(b.filter (tH s c)).map λa=>(a,tW s a)
def qc(c:Nat->Nat)(b:List (Nat×az)):f':=b.flatMap λa=>[dE c a.1,a.2]
def RO(c:Nat->Nat){b:List (Nat×az)}(a:Nat×az):qc c (b++[a])=qc c b++[dE c a.1,a.2]:=by unfold qc;rw[Zq];simp
theorem JC(c:Nat->Nat):∀(b:List (Nat×az)) (j:Nat) (d:Nat×az),b[j]?=some d->(qc c b)[j*2]?=some (dE c d.1)/\(qc c b)[j*2+1]?=some d.2
 |[],_,_,h=>by cases h
 |y::a,0,x,h=>by cases h;exact⟨rfl,rfl⟩
 |y::a,j+1,x,h=>by have e:qc c (y::a)=dE c y.1::y.2::qc c a:=rfl;rw[e,show (j+1)*2=j*2+2 by omega];exact (JC c a j x h)
structure p_(W:ay)(rb:Nat->Nat)(us:List (Nat×fv))(u:az)(X:ay):Prop where
 aP:μ W X
 row:∃ps:List (Nat×az),ps.length=us.length/\X.ownsRow W.heap.size 275 2 u us.length (qc rb ps)/\∀(k:Nat) (p:Nat×az) (x:Nat×fv),ps[k]?=some p->us[k]?=some x->p.1=x.1/\gn X p.2 x.2
structure sB(w0:ay)(nd:fv)(j:Nat)(u8 u9:az)(X:ay):Prop where
 aP:μ w0 X
 gW:X.ownsRow w0.heap.size 9 1 u8 ((nd.take j).filter dc).length (((nd.take j).filter dc).map aK)
 ot:X.ownsRow w0.heap.size 9 1 u9 ((nd.take j).filter (λn=> !dc n)).length (((nd.take j).filter (λn=> !dc n)).map aK)
 ne:∀k,u8.ownBlock=some k->u9.ownBlock=some k->False
section
variable {u:az}
def p_.cD(h:p_ W rb us u X):lO X rb u us:=by
 have⟨b,A,a,r⟩:=h.row;obtain⟨d,f⟩|⟨i,c,p,d,f,t,-⟩:=a.2
 ·exact .inl ⟨d,ZZ f⟩
 refine .inr ⟨i,0,c,d,⟨p,_,t⟩,λk x e=>?_⟩;have:=(Yl.1 e).1;have g:b[k]?=some b[k]:=X9 (by omega);have⟨m,y⟩:=r k b[k] x g e;have⟨n,q⟩:=JC rb b k _ g;rw[d]at a;rw[YO,<-m];exact⟨gY a _ _ n,_,gY a _ _ q,y⟩
def p_.aD(h:p_ W rb us u X)(a:μ X Y):p_ W rb us u Y:=by have⟨i,m,d,e⟩:=h.row;exact⟨h.aP.tr a,i,m,bI d (λk g=>a.block k (d.lt k g).2),λk p x b f=>⟨(e k p x b f).1,(e k p x b f).2.bl (Bl.aP a)⟩⟩
def p_.push(h:p_ W rb us u X){f:List (Nat×az)}(B:f.length=us.length)(t:X.ownsRow W.heap.size 275 2 u us.length (qc rb f))(y:∀(k:Nat) (g:Nat×az) (x:Nat×fv),f[k]?=some g->us[k]?=some x->g.1=x.1/\gn X g.2 x.2){i:Nat}(D:gn X ve nd)(C:Y.ownsRow W.heap.size 275 2 v6 (us.length+1) (qc rb f++[dE rb i,ve]))(A:X.grownBy Y u.ownBlock):p_ W rb (us++[(i,nd)]) v6 Y:=by
 have r:Bl X Y:=by have c:∀(k:Nat) (d:hZ) (e:TypeId) (b:Nat×Nat),X.heap[k]?=some (Obj.cells d e b)->e≠275->Y.heap[k]?=X.heap[k]?:=λk d e b a E=>A.block k (X8.1 a).1 (λq=>by have⟨I,J,G⟩:=dZ t k q.symm;rw[G]at a;cases a;exact E rfl);exact⟨λk d b a=>c k d _ b a (by decide),λk d b a=>c k d _ b a (by decide),λk d b a=>c k d _ b a (by decide),λk d b a=>c k d _ b a (by decide),λk d b a=>c k d _ b a (by decide)⟩
 refine⟨h.aP.trans ((Tn.grown (p:=λk=>W.heap.size<=k) A (λk e=>(t.lt k e).1)).aP h.aP.size (λk e=>e)),f++[(i,ve)],by simp[B],?_,λk g x m n=>?_⟩
 ·rw[RO,X4];exact C
 by_cases a:k<f.length
 ·rw[Zh a]at m;rw[Zh (by omega)]at n;exact⟨(y k g x m n).1,(y k g x m n).2.bl r⟩
 have H:k=f.length:=by
  have:=(Yl.1 m).1;simp at this;omega
 subst H;rw[YH ax,ta]at m;rw[YH (by omega),B,ta]at n;cases m;cases n;exact⟨rfl,D.bl r⟩
def sB.qU(h:sB w0 nd j u8 u9 X)(r:j<nd.length)(f:dc nd[j]=true)(d:μ X Y)(x:Z.ownsRow w0.heap.size 9 1 v6 (((nd.take j).filter dc).length+1) (((nd.take j).filter dc).map aK++[aK nd[j]]))(i:Y.grownBy Z u8.ownBlock)(a:v6.ownBlock=u8.ownBlock\/v6.ownBlock=some Y.heap.size):sB w0 nd (j+1) v6 u9 Z:=by
 have z:(nd.take (j+1)).filter dc=(nd.take j).filter dc++[nd[j]]:=by rw[Yn r,r7];simp[f]
 have B:(nd.take (j+1)).filter (λn=> !dc n)=(nd.take j).filter (λn=> !dc n):=by rw[Yn r,r7];simp[f]
 have g:=h.aP.size;have A:u9.ownBlock=none\/u9.ownBlock≠u8.ownBlock:=by
  cases e:u9.ownBlock with
  |none=>exact .inl rfl
  |some k=>exact .inr (λq=>h.ne k q.symm e)
 have m:=bI (W:=Y) h.ot (λk y=>d.block k (h.ot.lt k y).2);refine⟨(h.aP.trans (d.mono g)).trans ((Tn.grown (p:=λk=>w0.heap.size<=k) i (λk e=>(h.gW.lt k e).1)).aP (Ye g d.size) (λk e=>e)),by rw[z,X4,Yy];exact x,by rw[B];exact Y' m i A,λk b t=>?_⟩
 obtain a|a:=a
 ·exact h.ne k (a▸b) t
 rw[a]at b;cases b;have:=(m.lt _ t).2;omega
def sB.no(h:sB w0 nd j u8 u9 X)(r:j<nd.length)(f:dc nd[j]=false)(b:μ X Y)(x:Z.ownsRow w0.heap.size 9 1 v6 (((nd.take j).filter (λn=> !dc n)).length+1) (((nd.take j).filter (λn=> !dc n)).map aK++[aK nd[j]]))(i:Y.grownBy Z u9.ownBlock)(a:v6.ownBlock=u9.ownBlock\/v6.ownBlock=some Y.heap.size):sB w0 nd (j+1) u8 v6 Z:=by
 have z:(nd.take (j+1)).filter dc=(nd.take j).filter dc:=by rw[Yn r,r7];simp[f]
 have B:(nd.take (j+1)).filter (λn=> !dc n)=(nd.take j).filter (λn=> !dc n)++[nd[j]]:=by rw[Yn r,r7];simp[f]
 have g:=h.aP.size;have A:u8.ownBlock=none\/u8.ownBlock≠u9.ownBlock:=by
  cases e:u8.ownBlock with
  |none=>exact .inl rfl
  |some k=>exact .inr (λq=>h.ne k e q.symm)
 have m:=bI (W:=Y) h.gW (λk y=>b.block k (h.gW.lt k y).2);refine⟨(h.aP.trans (b.mono g)).trans ((Tn.grown (p:=λk=>w0.heap.size<=k) i (λk e=>(h.ot.lt k e).1)).aP (Ye g b.size) (λk e=>e)),by rw[z];exact Y' m i A,by rw[B,X4,Yy];exact x,λk t d=>?_⟩
 obtain a|a:=a
 ·exact h.ne k t (a▸d)
 rw[a]at d;cases d;have:=(m.lt _ t).2;omega
end
def RV(s:St)(c:fy)(a:gb)(j:Nat)(b:j<a.length):cJ s c (a.take (j+1))=if tH s c a[j]=true then cJ s c (a.take j)++[(a[j],tW s a[j])] else cJ s c (a.take j):=by
 unfold cJ;rw[Yn b,r7];split
 ·next h=>simp[h]
 next h=>simp[h]
def Jr(s:St)(b:fy)(a:gb):(cJ s b a).length<=a.length:=by unfold cJ;rw[Yk];exact abw _ _
def JN(a:aj->Bool)(l:fv)(j:Nat):((l.take j).filter a).length<=l.length:=Ye (abw _ _) (by rw[YL];omega)
def MO(a:aj)(w:ay)(f:dq w)(g:a.length<=4294967200):δ 140 #[σ a,.string ⟨#[37]⟩] w (.bool (dc a)):=by have⟨m,b⟩:=f;exact Any.strings_Contains Tryz.Kt ⟨a.toArray⟩ ⟨#[37]⟩ m w (by show a.length<_;omega) b
section
variable {aQ:Int}
def PC(d:gb)(v:az)(h:oF W wk c rb s vp l bf bi ve ef fs aQ v2 v3 v4 v5)(hv:nP W v (d.map rb))(hx:∀f∈d,f<s.aG.length/\(bT s f).nd.length<=2000/\∀n∈(bT s f).nd,n.length<=2000)(hn:d.length<=1000000):
 Calls prog 91 #[π wk,v] W λe W'=>∃u,e=.returned u/\lO W' rb u (cJ s fs d)/\μ W W':=by
 unfold π;have⟨i0,aB,ao,aE,av⟩:=Y1 Tryz.kZ;have⟨j0,aU,a6,aN,a0⟩:=Y1 Tryz.U1;obtain⟨a,cap,rfl⟩:=hv.sh;have⟨b,o,aa⟩:=hv.rd;rw[Yk]at aa⊢;have aH:p_ W rb (cJ s fs (d.take 0)) (ς) W:=⟨X5 _ _,[],rfl,YG _ _ _ _,λk bc x O=>by cases O⟩;go_in;go_wp2
 go_loopw [5,14] (λu z wr=>∃j:Nat,z=ι j/\j<=d.length/\p_ W rb (cJ s fs (d.take j)) u wr) (λ_ z _=>d.length-aV z)
 case atStart=>exact⟨0,rfl,by omega,aH⟩
 obtain⟨j,rfl,bp,C⟩:=hrel;by_cases m:j<d.length
 ·have:(j:Int)<d.length:=by omega
  have hb:=C.aP;have F:=h.aD hb;obtain⟨rfl,aX,hr⟩:=(aC aa).u (by omega);have:=(hr.aP hb aX) j (rb d[j]) (by rw[Za,X9 m];rfl);have⟨x1,x2,x3⟩:=(aC hx).u d[j] (Ym m);have X:=aC (RV s fs d j m);have:=Ye (Jr s fs (d.take j)) (by rw[YL];omega:(d.take j).length<=d.length);obtain⟨vt,vn,vc,r1,-,r3,r4⟩:=F.bm.aG d[j] x1;have aM:Hid (tW s d[j]=(bT s d[j]).nd.filter dc):=rfl;have aY:Hid (zw s d[j]=(bT s d[j]).nd.filter (λn=> !dc n)):=rfl;have au:Hid (tH s fs d[j]=(decide (0<(bT s d[j]).cs.length)&&(zw s d[j]).all (gI fs (jO s) []))):=rfl;generalize d[j]=f at*;obtain⟨an,bj,rfl⟩:=r3.sh;obtain⟨ac,bn,rfl⟩:=r4.sh;have⟨nb,no,ar⟩:=r3.rd;have:=r1.cell? (i:=1) rfl;have ah:=aC ar;have S:sB wr (bT s f).nd 0 (ς) (ς) wr:=⟨X5 _ _,YG _ _ _ _,YG _ _ _ _,λk e=>by cases e⟩;generalize cJ s fs (d.take j)=us at*;generalize (bT s f).nd=nd at*;generalize (bT s f).cs=I at*;go_wp2
  obtain⟨w,aw⟩:∃w,w=wr:=⟨_,rfl⟩;rw[<-aw]at S C F r1 ah r4;go_loopw [8,9,23] (λu8 u9 z wi=>∃q:Nat,z=ι q/\q<=nd.length/\sB w nd q u8 u9 wi) (λ_ _ z _=>nd.length-aV z)
  case atStart=>exact⟨0,rfl,by omega,by rw[aw]at S⊢;exact S⟩
  obtain⟨q,rfl,bh,g⟩:=hrel;by_cases M:q<nd.length
  ·have:(q:Int)<nd.length:=by omega
   obtain⟨rfl,ba,aA⟩:=ah (by omega);have cq:=(aA.aP g.aP ba) q nd[q] (X9 M);unfold aK at cq;have:=x3 nd[q] (Ym M);have D:=MO nd[q] wr (F.fQ.aD g.aP) (by omega);have:=JN dc nd q;have:=JN (λn=> !dc n) nd q;have:=g.aP.size;have p:=(X5 wr.heap.size wr).alloc ax (.cells #[σ nd[q]] 9);have R:=aF.bq wr 9 [σ nd[q]];have aO:=aC (bI (W:=wr.alloc (.cells #[σ nd[q]] 9)) g.gW (λk hk=>p.block k (g.gW.lt k hk).2));have aS:=aC (bI (W:=wr.alloc (.cells #[σ nd[q]] 9)) g.ot (λk hk=>p.block k (g.ot.lt k hk).2));have ak:=λO v6 Z Y hg hf=>g.qU (v6:=v6) (Z:=Z) M O p Y hg hf;have ab:=λO v6 Z Y hg hf=>g.no (v6:=v6) (Z:=Z) M O p Y hg hf;generalize nd[q]=nq at*;cases A:dc nq with
   |true=>
    rw[A]at D;go_wp2_with (first|(go_at_call 140;refine κ D λw1 G=>?_;rw[G])|(at_builtin;refine YS _ rfl (.tmp 29) (.tmp 31) 30 rfl w.heap.size 9 i0 (ε) 1 16 YU aB ao aE av rfl (by decide) _ _ _ rfl aO (η wr.heap.size 0) 1 1 [σ nq] rfl (by simp) (λj u m=>by rw[jx];exact R.cell? m) (by intro u y;rw[Yc]at y;subst y;rfl) (by unfold maxLen;omega) (by omega) (by rw[X_];omega) ?_;intro v6 T r t _ K;have ae:=(ak A) v6 T r t K))
    go_roundw
    case rel=>exact⟨q+1,by go_num,by omega,ae⟩
    simp only[aV];omega
   |false=>
    rw[A]at D;go_wp2_with (first|(go_at_call 140;refine κ D λw1 G=>?_;rw[G])|(at_builtin;refine YS _ rfl (.tmp 33) (.tmp 35) 30 rfl w.heap.size 9 i0 (ε) 1 16 YU aB ao aE av rfl (by decide) _ _ _ rfl aS (η wr.heap.size 0) 1 1 [σ nq] rfl (by simp) (λj u m=>by rw[jx];exact R.cell? m) (by intro u y;rw[Yc]at y;subst y;rfl) (by unfold maxLen;omega) (by omega) (by rw[X_];omega) ?_;intro v6 T r t _ K;have ae:=(ab A) v6 T r t K))
    go_roundw
    case rel=>exact⟨q+1,by go_num,by omega,ae⟩
    simp only[aV];omega
  have aW:q=nd.length:=by omega
  subst aW;have:¬(nd.length:Int)<nd.length:=by omega
  obtain⟨L,o8,U,-⟩:=g;rw[YR]at o8 U;obtain⟨Q,c8,rfl⟩:=fp o8;obtain⟨a9,c9,rfl⟩:=fp U;have⟨b9,aL,ap⟩:=(gn.bG U).rd;have:=(r1.aD L).cell? (i:=2) rfl;have ag:=C.aD L;have:=abw (λn=> !dc n) nd;have N:=EF (nd.filter λn=> !dc n) [] a9 c9 b9 aL (F.aD L).at ap (by omega) (λn hn=>by have:=x3 n (Z2.1 hn).1;exact⟨by omega,by simp only[Yr,Nat.mul_zero];omega⟩);have J:Hid (tH s fs f=(decide (0<I.length)&&(nd.filter λn=> !dc n).all (gI fs (jO s) []))):=by show _=_;rw[<-aY.u];exact au
  generalize (nd.filter λn=> !dc n).all (gI fs (jO s) [])=al at*;generalize (nd.filter λn=> !dc n).length=n9 at*;by_cases E:0<I.length
  ·have:(0:Int)<I.length:=by omega
   rw[Y6 E,Z7]at J;cases al with
   |true=>
    have i:=X;rw[Yd J.u]at i;have H:=aC i;go_wp2_with (first|(go_at_call 141;refine κ N λP B=>?_;have p:=(X5 P.heap.size P).alloc ax (.cells #[π (rb f),.slice Q (nd.filter dc).length c8] 275);have V:=(ag.aD B).aD p;have⟨ps,p1,p2,p3⟩:=V.row;have am:=aC p2;have R:=aF.bq P 275 [π (rb f),.slice Q (nd.filter dc).length c8])|(at_builtin;refine YS _ rfl (.tmp 49) (.tmp 53) 190 rfl W.heap.size 275 j0 (.agg #[.pointer none,ς]) 2 32 underlying190 aU a6 aN a0 rfl (by decide) _ us.length _ rfl am (η P.heap.size 0) 1 1 [π (rb f),.slice Q (nd.filter dc).length c8] rfl (by simp) (λj u m=>by rw[jx];exact R.cell? m) (by intro u y;simp only[YD,ZC,k8]at y;rcases y with e|e<;>(subst e;rfl)) (by unfold maxLen;omega) (by omega) V.aP.size ?_;intro v6 T r t _ _;have aI:=V.push (i:=f) p1 am (aC p3).u (((gn.bG o8).bl (Bl.aP B)).bl (Bl.aP p)) r t))
    go_roundw
    case rel=>exact⟨j+1,by go_num,by omega,by rw[H.u,aM.u];exact aI⟩
    simp only[aV];omega
   |false=>
    have i:=X;rw[Yb (by rw[J.u];simp)]at i;have H:=aC i;go_wp2_with (go_at_call 141;refine κ N λP B=>?_)
    go_roundw
    case rel=>exact⟨j+1,by go_num,by omega,by rw[H.u];exact (ag.aD B)⟩
    simp only[aV];omega
  have:¬(0:Int)<I.length:=by omega
  rw[Y9 E,qs]at J;have i:=X;rw[Yb (by rw[J.u];simp)]at i;have H:=aC i;go_wp2
  go_roundw
  case rel=>exact⟨j+1,by go_num,by omega,by rw[H.u];exact ag⟩
  simp only[aV];omega
 have a4:j=d.length:=by omega
 subst a4;have:¬(d.length:Int)<d.length:=by omega
 have hI:=C;rw[YR]at hI;go_wp2
 go_ret;exact⟨_,rfl,hI.cD,hI.aP⟩
end


