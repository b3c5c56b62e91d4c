/- . -/
import Derived.Test.YtjelacjggijmfaaGreatDoorYSP1
import Derived.Test.YtjelacjggijmfaaGreatDoorYSP2
import Derived.Shelf.RegionOpen
import Derived.OwnWalkIn
import Derived.LoopNIn
import Derived.LoopIn
namespace Go.Proofs.YtjelacjggijmfaaGreatDoor
open Pl Mk Cp Proofs.Tryz
open RowKit
open Shelf
variable {a:ax}
section
attribute [local go_sem] W9
theorem Kr {w:ax}(b:Below w.heap.size w a):w.grownBy a none:=⟨b.os,b.tape,b.output,b.size,λk c _=>b.block k c⟩
theorem Qy {β:Type}{B:Nat}{a:β->ax->Prop}(h:OwnFrom B a){s:β}{W:ax}(b:a s W):a s W.drew:=h s W _ none b ⟨rfl,rfl,rfl,TD _,λ_ _ _=>rfl⟩ (λc e=>by cases e)
theorem wN {β:Type}{B:Nat}{b:β->ax->Prop}(h:OwnFrom B b){s:β}{W:ax}(c:b s W)(d:Below W.heap.size W a):b s a :=h s W a none c (Kr d) (λf e=>by cases e)
theorem vS (B:Nat){W:ax}(b:Below W.heap.size W a):KeepsFrom B W a :=⟨b.size,λd _ _ c _=>(b.block d (TN.1 c).1).trans c⟩
def aS:ay->Nat
 | .int _ n=>n.toNat
 |_=>0
end
