/- . -/
import Derived.Test.YtjelacjggijmfaaGreatDoorYGD4
set_option maxHeartbeats 8000000
set_option maxRecDepth 20000
namespace Go.Proofs.YtjelacjggijmfaaGreatDoor
open Pl Mk Cp Proofs.Tryz
open RowKit Shelf MapKept ChangeMaps Maps
variable {b:Nat×Nat×St}{d f:Nat}{a:St}{e:Nat->Nat}{g:ay}
section
attribute [local go_sem] W9
def sM (rd:Nat)(a:ag)(n b:Nat)(x:Ln×Nat):Act:={tmps:= #[.pointer (some ⟨rd,0,none⟩),.string ⟨a.toArray⟩,.pointer (some ⟨n,0,none⟩),undef,.pointer (some ⟨n+1,0,none⟩),.pointer (some ⟨n+2,0,none⟩),.pointer (some ⟨n+3,0,none⟩),
 .pointer (some ⟨b,0,none⟩),.int .i64 x.2,undef,.string ⟨a.toArray⟩,.func (.func 119) #[] #[.pointer (some ⟨n+4,0,none⟩)],dx x.1,.int .i64 x.2,undef,undef,undef,undef,undef,undef,undef,undef,undef,undef,undef,undef,undef,undef,undef,undef,undef,undef,undef,undef,undef,undef,undef,undef,undef,undef,undef,undef,undef,undef,undef,undef,undef,undef,undef,undef,undef,undef],defers:=[]}
structure rJ (M:Nat)(rec:St->ag->Nat×Nat×St)(fs:List aI)(R:Nat×Nat×St)(s:St)(k:Nat)(L:List (Ln×Nat))(n:Nat)(sj:St)(kj:Nat)(op:Option Nat):Prop where
 ok:Ok sj kj
 le:kj+(100-sj.inc)*M<=k+(100-s.inc)*M+n
 opn:sj.opn=s.opn
 IY:∀i,op=some i->i<sj.aD.length
 eq:R=iq rec fs (L.drop n) sj op
section
variable {w:ax} {F:dy} {c:Ad} {rb:Nat->Nat} {s:St} {bf bi:Nat} {ve:ay} {ef:List bL} {fs:List aI} {aP:Int} {M o k:Nat} {rec:St->ag->Nat×Nat×St}
theorem rJ.cy {L:List (Ln×Nat)}{n:Nat}{op:Option Nat}(h:rJ M rec fs b s k L n a d op){x:Ln×Nat}{post:List (Ln×Nat)}(e:L.drop n=x::post)(f:x.2≠0):b=(x.2,x.1.d',a):=by have:=h.eq;rw[e,iq,TP f] at this;exact this
theorem rJ.bW {L:List (Ln×Nat)}{n:Nat}{op:Option Nat}(h:rJ M rec fs b s k L n a d op)(t:oB M rec)(v:∀l i,Pl.look fs l=some i->i.aT.length+1<=M/\i.aT.length<=1073741824){x:Ln×Nat}{post:List (Ln×Nat)}(j:L.drop n=x::post)(u:L.drop (n+1)=post)(q:x.2=0)(r:x.1.right.length<=1073741824):
 ((ew rec fs a op x.1).1≠0->b=((ew rec fs a op x.1).1,(ew rec fs a op x.1).2.1,(ew rec fs a op x.1).2.2.2))/\((ew rec fs a op x.1).1=0->∃g,rJ M rec fs b s k L (n+1) (ew rec fs a op x.1).2.2.2 g (ew rec fs a op x.1).2.2.1):=by
 have f:=h.eq;rw[j,iq,TJ (by rw[q];simp)] at f;refine⟨λe=> ?_,λe=> ?_⟩
 ·rw[TP e] at f;exact f
 ·rw[TJ (by rw[e];simp)] at f;obtain⟨⟨⟨g,m,A⟩,p,z⟩,y⟩:=F7 t v h.ok h.IY r;have:=h.le;exact⟨g,m,by omega,p.trans h.opn,y,by rw[u];exact f⟩
def Way (B l:Nat)(X Y:ax):Prop:=KeepsFrom B X Y/\jY l X Y
theorem Way.trans {B:Nat}{X Y Z:ax}(h:Way B d X Y)(k:Way B d Y Z):Way B d X Z:=⟨h.1.trans k.1,h.2.trans k.2⟩
theorem Way.fr {B l:Nat}{X Y:ax}{G b :dy}(h:bu X G c e a)(d:En X G c.bx bf bi ve ef fs aP)(f:Fr G b X Y)(j:c.nm<B)(g:c.bt<B)(i:c.pb<B)(m:B<=l):Way B l X Y:=⟨h.RY f j g i,h.S5 f (λ_=>(d.fr f).fh) (by omega) (by omega) (by omega)⟩
theorem Way.set {B b:Nat}{X:ax}{a:TypeId}{v:ay}(h:aG X b a [v])(f:a≠234)(e:0<b)(u:ay):Way B d X (X.setCell ⟨b,0,none⟩ u):=⟨O3 h u,jY.setCell h f e u⟩
theorem Way.aL {B:Nat}{X Y:ax}(a:Below X.heap.size X Y):Way B d X Y:=⟨vS _ a,jY.aL a⟩
theorem Way.kQ {B l:Nat}{X:ax}{G:dy}(h:gF w F c G e a g d f X)(j:0<w.heap.size)(b i:Nat):Way B l X ((X.setCell ⟨w.heap.size+1,0,none⟩ (.int .i64 (b:Int))).setCell ⟨w.heap.size+2,0,none⟩ (.int .i64 (i:Int))):=(Way.set h.r1 (by decide) (by omega) _).trans (Way.set (h.r2.eH (by omega) 0 (.int .i64 (b:Int))) (by decide) (by omega) _)
theorem Way.open {B l:Nat}{X:ax}{G:dy}(h:gF w F c G e a g d f X)(b:0<w.heap.size)(u:ay):Way B l X (X.setCell ⟨w.heap.size+3,0,none⟩ u):=Way.set h.r3 (by decide) (by omega) _
theorem GK (aR:o≠3->xF c bf bi ve ef fs aP M rec (o+1))(aw:oB M rec)(hf:∀aH ar,Pl.look fs aH=some ar->ar.aT.length+1<=M/\ar.aT.length<=1073741824)(A:ag)(h:bu w F c rb s)(hE:En w F c.bx bf bi ve ef fs aP)(hk:Ok s k)(ho:s.opn=o)(aY:o<=3)(a4:A.length+1<=M)(ht:A.length<=1073741824)(a2:k+(100-s.inc)*M+M<=4294967296)(E:Nat×Nat×St)(hR:E=iq rec fs (ed (di A)) s none):
 CallsIn Fence.wide 9 prog 89 #[.pointer (some ⟨c.rd,0,none⟩),.string ⟨A.toArray⟩] w λe w'=>∃G i,e= .returned (.tuple #[.int .i64 (E.1:Int),.int .i64 (E.2.1:Int)])/\bu w' G c i E.2.2/\Fr F G w w' :=by
 have a7:Tryz.prog.follows .mixedOrders=true:=by kernel_rfl
 obtain⟨q0,q1,q2,q3⟩:=M4 A h;have a1:=yV A;have aA:rJ M rec fs E s k (ed (di A)) 0 s k none:=⟨hk,by omega,rfl,λg e=>(by cases e),by rw[V4];exact hR⟩;have n1:=h.lt h.lQ;have n2:=h.lt h.lO;have n3:=h.lt h.lK;have ad:=uI hE.fh;refine callsIn_of_wp_marks func89 rfl trivial ?_;simp only[ntmps89,VH,TK,T1,Nat.reduceAdd,Nat.reduceSub,Zb,Zc,ZU,Zm,UI,UE];gi_wp2_with fail
 refine⟨trivial,(Wq.2 (Qj _ _)).mono ?_⟩;rintro e w2 ⟨rfl,rfl⟩;gi_wp2_with fail
 unfold pn at q0 q1 q2 q3;generalize ((((w.alloc (.cells #[.pointer (some ⟨c.rd,0,none⟩)] 264)).alloc (.cells #[.int .i64 0] 24)).alloc (.cells #[.int .i64 0] 3)).alloc (.cells #[.pointer none] 265)).alloc (.cells #[.string ⟨A.toArray⟩] 9)=V at*;have aK:V.cell? ⟨w.heap.size+4,0,none⟩=some (.string ⟨A.toArray⟩):=q1.cell? (i:=0) rfl;have aJ:=(hE.aE q3).fh;refine J_ (gf:=119) (lb:= #[.pointer (some ⟨w.heap.size+4,0,none⟩)]) rfl (Yi func119 (by kernel_rfl) rfl)
  (NW A (w.heap.size+4) V ht aJ aK) jY.trans (λn l1 o o' _ hl ho=>jY.putObj n l1 o o' hl ho) (TF _ _) (λ_=>rfl)
  (λbk n=>∃G i f T op,gF w F c G i f (jH i op) 0 0 n/\rJ M rec fs E s k (ed (di A)) bk.length f T op)
  (λcc _ n=>cc= .ret/\∃G i v3,gF w F c G i E.2.2 v3 E.1 E.2.1 n)
  (λbk X Y row hs ah U=>by obtain⟨G,i,f,T,op,W,h2⟩:=hs;exact⟨G,i,f,T,op,gF.bI (B:=V.heap.size) (by omega) (by omega) (by omega) (by omega) () X Y row W ah U,h2⟩)
  (λcc bk X Y row hs ah U=>by obtain⟨W,G,i,v3,h2⟩:=hs;exact⟨W,G,i,v3,gF.bI (B:=V.heap.size) (by omega) (by omega) (by omega) (by omega) () X Y row h2 ah U⟩)
  ⟨F,rb,s,k,none,q0,aA⟩
  (λx a' n=>∃Bx,w.heap.size+3<Bx/\aG n Bx 164 [.int .i64 x.1.d',.int .i64 x.1.cC,.string ⟨x.1.left.toArray⟩,.string ⟨x.1.right.toArray⟩]/\a' =sM c.rd A w.heap.size Bx x)
  (λx a' s X Y row hs ah U=>by obtain⟨Bx,W,h2,h3⟩:=hs;exact⟨Bx,W,aG.bI V.heap.size _ _ _ () X Y row h2 ah U,h3⟩) ?assign ?body ?done ?stop
 case assign=>
  rintro bk ⟨⟨a,b,L,j⟩,er⟩ post n K _ hi hK;have aS:w.heap.size+3<n.heap.size:=by obtain⟨_,_,_,_,_,W,_⟩:=hi;exact W.r3.lt
  unfold xC dx;gi_wp2
  have hb:=aj n (.cells #[.int .i64 a,.int .i64 b,.string ⟨L.toArray⟩,.string ⟨j.toArray⟩] 164);refine hK _ _ (vS _ hb) (jY.aL hb) ?_ ⟨n.heap.size,aS,aG.bA n 164 _,rfl⟩;obtain⟨G,i,f,T,op,W,h2⟩:=hi;exact⟨G,i,f,T,op,W.aE hb,h2⟩
 case body=>
  rintro bk ⟨⟨a,b,L,j⟩,er⟩ post a' n hL ⟨G,i,f,T,op,t,hS⟩ ⟨Bx,a_,ab,rfl⟩;simp only at ab;have aU:=zR (t:=A) (x:=(⟨a,b,L,j⟩,er)) (by rw[hL];simp);simp only at aU;obtain⟨az,aq⟩:=Ec hL;rw[TE,TK,T1] at aq;have a5:bk.length+1<=M:=by have:=TU List.length hL;rw[TE,TK] at this;omega
  have a9:T+(100-f.inc)*M<=4294967295:=by have:=hS.le;omega
  have aF:=hE.fr t.fr;have a3:G Bx=none:=t.db.It ab (by unfold nY;decide);have d0:=ab.cell? (i:=0) rfl;have d1:=ab.cell? (i:=1) rfl;have d2:=ab.cell? (i:=2) rfl;have d3:=ab.cell? (i:=3) rfl;have e0:=t.r0.cell? (i:=0) rfl;have e1:=t.r1.cell? (i:=0) rfl;have e2:=t.r2.cell? (i:=0) rfl;have e3:=t.r3.cell? (i:=0) rfl;have f1:=t.r1.frozen 0;have f2:=t.r2.frozen 0;have f3:=t.r3.frozen 0;have R:=aB t;have an:=aB aF;have HS:=aB hS;have aV:=aB ab;have av:=aB az;have aQ:=aB aq;clear hL t aF hS ab az aq aA q0 hR;by_cases ao:er=0
  ·have b1:((er:Int) !=0)=false:=by rw[Uv];omega
   have al:j.length<=1073741824:=by omega
   have aM:L.length<=1073741824:=by omega
   have v:=aB (HS.u.bW aw hf av.u aQ.u ao al);have S:=HS.u.ok;have o1:=S.tl;have o2:=S.iP;have o3:=S.nl;clear ao;simp only at v;by_cases k1:b=1
   ·have w1:((b:Int)==1)=true:=by rw[UR];omega
    have O:ew rec fs f op ⟨a,b,L,j⟩=((fT f op ⟨a,b,L,j⟩).1,a,op,(fT f op ⟨a,b,L,j⟩).2):=by unfold ew;simp only;rw[TP k1]
    rw[O] at v;have p:=aB (Kw op ⟨a,b,L,j⟩ R.u.db HS.u.IY (λname=>by have:=S.ol name;omega) (λai U=>by have:=(S.rs ai U).tl;omega) (λai U=>by have:=S.cl ai U;omega));clear O k1;generalize fT f op ⟨a,b,L,j⟩=rc at*;obtain⟨m,rs⟩:=rc;simp only at v p;obtain⟨pv,ac⟩:∃pv,jH i op= .pointer pv:=by cases op<;>exact⟨_,rfl⟩
    unfold dx at p;simp only at p;rw[ac] at e3 p;unfold sM dx;simp only;gi_wp2_with fail
    refine⟨trivial,(X5 _ (Wq.2 p.u)).mono ?_⟩;rintro e W2 ⟨rfl,H,Q,z⟩;have d:=aB (R.u.step Q z);have y:=aB (Way.fr (B:=V.heap.size) (l:=V.heap.size+1) R.u.db an.u z (by omega) (by omega) (by omega) (by omega));obtain⟨r,au⟩:∃r,r=i :=⟨_,rfl⟩;rw[<-au] at d;clear Q z p e0 e1 e2 e3 f1 f2 f3 d0 d1 d2 d3;by_cases q:m=0
    ·have u1:((m:Int) !=0)=false:=by rw[Uv];omega
     obtain⟨I,N⟩:=v.u.2 q;have ae:=aB N;clear q N;gi_wp2_with fail
     exact⟨y.u.1,y.u.2,H,r,rs,I,op,d.u,by rw[TE];exact ae.u⟩
    ·have u1:((m:Int) !=0)=true:=by rw[UY];omega
     have af:=aB (v.u.1 q);have y1:=d.u.r1.cell? (i:=0) rfl;have y2:=d.u.r2.cell? (i:=0) rfl;have z1:=d.u.r1.frozen 0;have z2:=d.u.r2.frozen 0;have J:=aB (d.u.kQ m a);have P:=aB (y.u.trans (Way.kQ (B:=V.heap.size) (l:=V.heap.size+1) d.u ad m a));clear q;gi_wp2_with fail
     exact⟨P.u.1,P.u.2,rfl,H,r,_,by rw[af.u];exact J.u⟩
   ·have w1:((b:Int)==1)=false:=by rw[TQ];omega
    by_cases k5:b=5
    ·have w5:((b:Int)==5)=true:=by rw[UR];omega
     have O:ew rec fs f op ⟨a,b,L,j⟩=((fW f ⟨a,b,L,j⟩).1,a,(fW f ⟨a,b,L,j⟩).2.1,(fW f ⟨a,b,L,j⟩).2.2):=by unfold ew;simp only;rw[TJ k1,TP k5]
     rw[O] at v;have p:=aB (OF ⟨a,b,L,j⟩ T R.u.db S an.u.fh an.u.n4 aM al);clear O k1 k5;generalize fW f ⟨a,b,L,j⟩=rc at*;obtain⟨m,ak,rs⟩:=rc;unfold dx at p;simp only at v p;unfold sM dx;simp only;gi_wp2_with fail
     refine⟨trivial,(X5 _ (Wq.2 p.u)).mono ?_⟩;rintro e W2 ⟨H,r,rfl,Q,z⟩;have C:=aB (R.u.step Q z);have d:=aB (C.u.open (jH r ak));have y:=aB ((Way.fr (B:=V.heap.size) (l:=V.heap.size+1) R.u.db an.u z (by omega) (by omega) (by omega) (by omega)).trans (Way.open C.u ad (jH r ak)));have x3:=C.u.r3.cell? (i:=0) rfl;have z3:=C.u.r3.frozen 0;obtain⟨pv,ac⟩:∃pv,jH r ak= .pointer pv:=by cases ak<;>exact⟨_,rfl⟩
     rw[ac] at d y;rw[ac];have a0:=aB ac;clear Q z p e0 e1 e2 e3 f1 f2 f3 d0 d1 d2 d3 ac;by_cases q:m=0
     ·have u1:((m:Int) !=0)=false:=by rw[Uv];omega
      obtain⟨I,N⟩:=v.u.2 q;have ae:=aB N;clear q N;gi_wp2_with fail
      exact⟨y.u.1,y.u.2,H,r,rs,I,ak,by rw[a0.u];exact d.u,by rw[TE];exact ae.u⟩
     ·have u1:((m:Int) !=0)=true:=by rw[UY];omega
      have af:=aB (v.u.1 q);have y1:=d.u.r1.cell? (i:=0) rfl;have y2:=d.u.r2.cell? (i:=0) rfl;have z1:=d.u.r1.frozen 0;have z2:=d.u.r2.frozen 0;have J:=aB (d.u.kQ m a);have P:=aB (y.u.trans (Way.kQ (B:=V.heap.size) (l:=V.heap.size+1) d.u ad m a));clear q;gi_wp2_with fail
      exact⟨P.u.1,P.u.2,rfl,H,r,_,by rw[af.u];exact J.u⟩
    ·have w5:((b:Int)==5)=false:=by rw[TQ];omega
     have C:=aB (R.u.open (.pointer none));have am:=aB (hE.fr C.u.fr);have ap:=aB (aV.u.eH (show Bx≠w.heap.size+3 by omega) 0 (.pointer none));have aC:=aB (Way.open (B:=V.heap.size) (l:=V.heap.size+1) R.u ad (.pointer none));have i0:=C.u.r0.cell? (i:=0) rfl;have j0:=ap.u.cell? (i:=0) rfl;have j1:=ap.u.cell? (i:=1) rfl;have j2:=ap.u.cell? (i:=2) rfl;have j3:=ap.u.cell? (i:=3) rfl;obtain⟨pv,ac⟩:∃pv,jH i op= .pointer pv:=by cases op<;>exact⟨_,rfl⟩
     rw[ac] at e3;by_cases I:b=2
     ·have w2:((b:Int)==2)=true:=by rw[UR];omega
      have O:ew rec fs f op ⟨a,b,L,j⟩=((kn rec fs f ⟨a,b,L,j⟩).1,(kn rec fs f ⟨a,b,L,j⟩).2.1,none,(kn rec fs f ⟨a,b,L,j⟩).2.2):=by unfold ew;simp only;rw[TJ k1,TJ k5,TP I]
      rw[O] at v;have p:=aB (KB aR aw hf ⟨a,b,L,j⟩ C.u.db am.u S (HS.u.opn.trans ho) aY (by omega) al);clear O k1 k5 I;generalize kn rec fs f ⟨a,b,L,j⟩=rc at*;obtain⟨m,rn,rs⟩:=rc;unfold dx at p;simp only at v p;unfold sM dx;simp only;gi_wp2_with fail
      refine⟨trivial,(X5 _ (Wq.2 p.u)).mono ?_⟩;rintro e W2 ⟨H,r,rfl,Q,z⟩;have d:=aB (C.u.step Q z);have y:=aB (aC.u.trans (Way.fr (B:=V.heap.size) (l:=V.heap.size+1) C.u.db am.u z (by omega) (by omega) (by omega) (by omega)));clear Q z p e0 e1 e2 e3 f1 f2 f3 d0 d1 d2 d3 i0 j0 j1 j2 j3;by_cases q:m=0
      ·have u1:((m:Int) !=0)=false:=by rw[Uv];omega
       obtain⟨I,N⟩:=v.u.2 q;have ae:=aB N;clear q N;gi_wp2_with fail
       exact⟨y.u.1,y.u.2,H,r,rs,I,none,d.u,by rw[TE];exact ae.u⟩
      ·have u1:((m:Int) !=0)=true:=by rw[UY];omega
       have af:=aB (v.u.1 q);have y1:=d.u.r1.cell? (i:=0) rfl;have y2:=d.u.r2.cell? (i:=0) rfl;have z1:=d.u.r1.frozen 0;have z2:=d.u.r2.frozen 0;have J:=aB (d.u.kQ m rn);have P:=aB (y.u.trans (Way.kQ (B:=V.heap.size) (l:=V.heap.size+1) d.u ad m rn));clear q;gi_wp2_with fail
       exact⟨P.u.1,P.u.2,rfl,H,r,_,by rw[af.u];exact J.u⟩
     ·have w2:((b:Int)==2)=false:=by rw[TQ];omega
      have O:ew rec fs f op ⟨a,b,L,j⟩=((gW f ⟨a,b,L,j⟩).1,a,none,(gW f ⟨a,b,L,j⟩).2):=by unfold ew;simp only;rw[TJ k1,TJ k5,TJ I]
      rw[O] at v;have p:=aB (KT ⟨a,b,L,j⟩ C.u.db S.lB (by omega) am.u.fh al);clear O k1 k5 I;generalize gW f ⟨a,b,L,j⟩=rc at*;obtain⟨m,rs⟩:=rc;unfold dx at p;simp only at v p;unfold sM dx;simp only;gi_wp2_with fail
      refine⟨trivial,(X5 _ (Wq.2 p.u)).mono ?_⟩;rintro e W2 ⟨rfl,Q,z⟩;have d:=aB (C.u.step Q z);have y:=aB (aC.u.trans (Way.fr (B:=V.heap.size) (l:=V.heap.size+1) C.u.db am.u z (by omega) (by omega) (by omega) (by omega)));obtain⟨r,au⟩:∃r,r=i :=⟨_,rfl⟩;obtain⟨H,aN⟩:∃H,H=G:=⟨_,rfl⟩;rw[<-au,<-aN] at d;clear Q z p e0 e1 e2 e3 f1 f2 f3 d0 d1 d2 d3 i0 j0 j1 j2 j3;by_cases q:m=0
      ·have u1:((m:Int) !=0)=false:=by rw[Uv];omega
       obtain⟨I,N⟩:=v.u.2 q;have ae:=aB N;clear q N;gi_wp2_with fail
       exact⟨y.u.1,y.u.2,H,r,rs,I,none,d.u,by rw[TE];exact ae.u⟩
      ·have u1:((m:Int) !=0)=true:=by rw[UY];omega
       have af:=aB (v.u.1 q);have y1:=d.u.r1.cell? (i:=0) rfl;have y2:=d.u.r2.cell? (i:=0) rfl;have z1:=d.u.r1.frozen 0;have z2:=d.u.r2.frozen 0;have J:=aB (d.u.kQ m a);have P:=aB (y.u.trans (Way.kQ (B:=V.heap.size) (l:=V.heap.size+1) d.u ad m a));clear q;gi_wp2_with fail
       exact⟨P.u.1,P.u.2,rfl,H,r,_,by rw[af.u];exact J.u⟩
  ·have b1:((er:Int) !=0)=true:=by rw[UY];omega
   have aW:=aB (HS.u.cy av.u ao);have J:=aB ((R.u.kQ er a).aE (TF _ _).drew);have HW:=aB ((Way.kQ (B:=V.heap.size) (l:=V.heap.size+1) R.u ad er a).trans (Way.aL (TF _ _).drew));clear ao;unfold sM dx;simp only;gi_wp2_with fail
   gi_region_o
   all_goals gi_wp2_with fail
   all_goals exact⟨HW.u.1,HW.u.2,rfl,G,i,jH i op,by rw[aW.u];exact J.u⟩
 case done=>
  rintro D n hD ⟨G,i,f,T,op,t,hS⟩ hK;have aX:E=(0,0,f):=by have:=hS.eq;rw[Wm,iq] at this;exact this
  have r1:=t.r1;have r2:=t.r2;have c1:=r1.cell? (i:=0) rfl;have c2:=r2.cell? (i:=0) rfl;have f1:=r1.frozen 0;have f2:=r2.frozen 0;have J:=aB (t.kQ 0 0);have a8:D≠w.heap.size+1:=by omega
  have a6:D≠w.heap.size+2:=by omega
  have HK:=aB hK;clear hS t r1 r2;gi_wp2_with fail
  have aO:gF w F c G i f (jH i op) 0 0 ((n.setCell ⟨w.heap.size+1,0,none⟩ (.int .i64 0)).setCell ⟨w.heap.size+1+1,0,none⟩ (.int .i64 0)):=J.u;have aD:((n.setCell ⟨w.heap.size+1,0,none⟩ (.int .i64 0)).setCell ⟨w.heap.size+1+1,0,none⟩ (.int .i64 0)).heap[D]?=some (.deferred (some [])):=by rw[T5 _ _ _ _ (by simp only;omega),T5 _ _ _ _ (by simp only;omega)];exact HK.u
  generalize ((n.setCell ⟨w.heap.size+1,0,none⟩ (.int .i64 0)).setCell ⟨w.heap.size+1+1,0,none⟩ (.int .i64 0))=Z at*;have aa:gF w F c G i f (jH i op) 0 0 (Z.putObj D (.deferred none)):=gF.bI (β:=Unit) (B:=V.heap.size) (by omega) (by omega) (by omega) (by omega) () Z _ _ aO (aaN Z D (.deferred none)) (λai e=>by cases e;exact⟨by omega,_,aD,rfl⟩);refine⟨by simp,.inl ⟨_,_,rfl,Y0 aD,?_⟩⟩;rw[aX];refine⟨_,?_,G,i,rfl,aa.db,aa.fr⟩;have c1:=aa.r1.cell? (i:=0) rfl;have c2:=aa.r2.cell? (i:=0) rfl;simp[results,results89,go_sem,c1,c2]
 case stop=>
  rintro D cc bk post n hD hL ⟨rfl,G,i,v3,t⟩ hK;have aa:gF w F c G i E.2.2 v3 E.1 E.2.1 (n.putObj D (.deferred none)):=gF.bI (β:=Unit) (B:=V.heap.size) (by omega) (by omega) (by omega) (by omega) () n _ _ t (aaN n D (.deferred none)) (λai e=>by cases e;exact⟨by omega,_,hK,rfl⟩);gi_wp2_with fail
  refine⟨by simp,.inl ⟨_,_,rfl,Y0 hK,?_⟩⟩;refine⟨_,?_,G,i,rfl,aa.db,aa.fr⟩;have c1:=aa.r1.cell? (i:=0) rfl;have c2:=aa.r2.cell? (i:=0) rfl;simp[results,results89,go_sem,c1,c2]
end
end
