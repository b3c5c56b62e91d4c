/- . -/
import Derived.Test.YtjelacjggijmfaaGreatDoorYSR2
import Derived.Test.YtjelacjggijmfaaGreatDoorYSP4
namespace Go.Proofs.YtjelacjggijmfaaGreatDoor
open Pl Mk Cp Proofs.Tryz
open RowKit
theorem map_set (n a:Nat)(F:Nat->ay)(v:ay):((List.range n).map F).set a v=(List.range n).map (λq=>if q=a then v else F q):=by
 apply XV
 ·simp
 ·intro q d c;simp only[aah,Ut,X6];by_cases e:a=q
  ·rw[TP e,TP e.symm]
  ·rw[TJ e,TJ (λb=>e b.symm)]
def kW (w:ax)(N L:Nat)(f:Nat->Bool):Prop:=aG w N 4 ((List.range (L+1)).map λq=> .bool (f q))
def nE (w:ax)(N L:Nat)(a:Nat->Int):Prop:=aG w N 3 ((List.range (L+1)).map λq=> .int .i64 (a q))
def nJ (f:Nat->Bool)(a:Nat):Nat->Bool:=λq=>if q=a then true else f q
theorem kW.jV (w:ax)(L:Nat):kW (w.alloc (.cells (madeCells #[.bool false] (L+1)) 4)) w.heap.size L (λ_=>false):=by unfold kW;have:=aG.jV w 4 (.bool false) (L+1);rwa [show List.replicate (L+1) (Value.bool false)=(List.range (L+1)).map (λ_=>Value.bool false) from by simp[List.map_const']] at this
theorem nE.jV (w:ax)(L:Nat):nE (w.alloc (.cells (madeCells #[.int .i64 0] (L+1)) 3)) w.heap.size L (λ_=>0):=by unfold nE;have:=aG.jV w 3 (.int .i64 0) (L+1);rwa [show List.replicate (L+1) (Value.int .i64 0)=(List.range (L+1)).map (λ_=>Value.int .i64 0) from by simp[List.map_const']] at this
theorem kW.cell {w:ax}{N L:Nat}{f:Nat->Bool}(h:kW w N L f)(a:Nat)(b:a<=L):w.cell? ⟨N,a,none⟩=some (.bool (f a)):=by have:=aG.cell h a (by simp;omega);simpa using this
variable {c:Nat->Int}
theorem nE.cell {w:ax}{N L:Nat}(h:nE w N L c)(a:Nat)(b:a<=L):w.cell? ⟨N,a,none⟩=some (.int .i64 (c a)):=by have:=aG.cell h a (by simp;omega);simpa using this
theorem kW.set {w:ax}{N L:Nat}{f:Nat->Bool}(h:kW w N L f)(a:Nat):kW (w.setCell ⟨N,a,none⟩ (.bool true)) N L (nJ f a):=by have:=aG.set h a (.bool true);rw[map_set] at this;unfold kW nJ;rwa [show (λq=>if q=a then Value.bool true else Value.bool (f q))=(λq=>Value.bool (if q=a then true else f q)) from funext λq=>by split<;>rfl] at this
theorem nE.set {w:ax}{N L:Nat}(h:nE w N L c)(a:Nat)(v:Int):nE (w.setCell ⟨N,a,none⟩ (.int .i64 v)) N L (iO c a v):=by have:=aG.set h a (.int .i64 v);rw[map_set] at this;unfold nE iO;rwa [show (λq=>if q=a then Value.int .i64 v else Value.int .i64 (c q))=(λq=>Value.int .i64 (if q=a then v else c q)) from funext λq=>by split<;>rfl] at this
structure py (w:ax)(b N L:Nat)(v:ay)(s:az)(f:Nat->Bool)(W:ax):Prop where
 dS:aG W b 97 [v,.string s]
 nF:kW W N L f
 aL:Below w.heap.size w W
 hb:b<w.heap.size
 hN:w.heap.size<=N
theorem py.aE {w:ax}{b N L:Nat}{v:ay}{s:az}{f:Nat->Bool}{X Y:ax}(h:py w b N L v s f X)(k:Below X.heap.size X Y):py w b N L v s f Y:=⟨h.dS.aE k,aG.aE h.nF k,h.aL.tr k,h.hb,h.hN⟩
theorem py.mark {w:ax}{b N L:Nat}{v:ay}{s:az}{f:Nat->Bool}{X:ax}(h:py w b N L v s f X)(a:Nat):py w b N L v s (nJ f a) (X.setCell ⟨N,a,none⟩ (.bool true)):=by have d:=h.hb;have c:=h.hN;exact⟨h.dS.eH (by omega) _ _,h.nF.set a,h.aL.setCell (p:=⟨N,a,none⟩) c _,d,c⟩
structure mc (w:ax)(b N M L:Nat)(v:ay)(s:az)(f:Nat->Bool)(g:Nat->Int)(W:ax):Prop where
 db:py w b N L v s f W
 mZ:nE W M L g
 hM:w.heap.size<=M
 aU:M≠N
theorem mc.aE {w:ax}{b N M L:Nat}{v:ay}{s:az}{f:Nat->Bool}{X Y:ax}(h:mc w b N M L v s f c X)(k:Below X.heap.size X Y):mc w b N M L v s f c Y:=⟨h.db.aE k,aG.aE h.mZ k,h.hM,h.aU⟩
theorem mc.put {w:ax}{b N M L:Nat}{v:ay}{s:az}{f:Nat->Bool}{X:ax}(h:mc w b N M L v s f c X)(a:Nat)(y:Int):mc w b N M L v s f (iO c a y) (X.setCell ⟨M,a,none⟩ (.int .i64 y)):=by have i:=h.db.hb;have d:=h.hM;have g:=h.aU;exact⟨⟨h.db.dS.eH (by omega) _ _,aG.eH h.db.nF (λe=>g e.symm) _ _,h.db.aL.setCell (p:=⟨M,a,none⟩) d _,i,h.db.hN⟩,h.mZ.set a y,d,g⟩
structure ny (c:ag)(m p:Nat)(f:Nat->Bool):Prop where
 le:p<=c.length
 lN:fa c 0 p
 is:∀q,f q=true↔fa c 0 q/\q<p
 ok:∀q,fa c 0 q->q<p->Pl.cd c q/\iD m (a_ c q)
theorem ny.start (c:ag)(m:Nat):ny c m 0 (λ_=>false):=⟨TS _,zG c 0,λq=>by simp,λq _ h=>by omega⟩
variable {a:Nat}
theorem ny.next {c:ag}{m:Nat}{f:Nat->Bool}(h:ny c m a f)(d:a<c.length)(b:Pl.cd c a)(l:iD m (a_ c a)):ny c m (a+ee (Pl.opAt c a)) (nJ f a):=by
 have i:=sO b;have j:a+ee (Pl.opAt c a)=(a_ c a).next:=rfl;rw[j];refine⟨xe b,h.lN.next d b,λq=> ?_,λq g n=> ?_⟩
 ·unfold nJ;by_cases e:q=a
  ·subst e;rw[TP rfl];exact⟨λ_=>⟨h.lN,i⟩,λ_=>rfl⟩
  ·rw[TJ e,h.is q];refine⟨λk=>⟨k.1,by omega⟩,λk=>⟨k.1,?_⟩⟩;rcases h.lN.rQ k.1 d b with k' |k' <;>omega
 ·rcases h.lN.rQ g d b with k' |k'
  ·by_cases e:q=a
   ·subst e;exact⟨b,l⟩
   ·exact h.ok q g (by omega)
  ·omega
theorem ny.done {c:ag}{m:Nat}{f:Nat->Bool}(h:ny c m a f)(b:¬a<c.length):(∀q,nJ f c.length q=true↔fa c 0 q)/\∀q,fa c 0 q->q<c.length->Pl.cd c q/\iD m (a_ c q):=by
 have d:=h.le;obtain rfl:a=c.length:=by omega
 refine⟨λq=> ?_,h.ok⟩;unfold nJ;by_cases e:q=c.length
 ·subst e;rw[TP rfl];exact⟨λ_=>h.lN,λ_=>rfl⟩
 ·rw[TJ e,h.is q];exact⟨λk=>k.1,λk=>⟨k,by have:=k.le;omega⟩⟩
theorem ny.gS {c:ag}{m:Nat}{f:Nat->Bool}(h:ny c m a f)(b:a<c.length)(d:¬(Pl.cd c a/\iD m (a_ c a))):¬Pl.Spec c m 0 0 (λ_=>none):=λe=>d (Px e h.lN b)
