/- . -/
import Derived.Test.YtjelacjggijmfaaGreatDoorYSZ
namespace Go.Proofs.YtjelacjggijmfaaGreatDoor
open Pl Mk Cp Proofs.Tryz
open RowKit MapKept ChangeMaps Maps
section
attribute [local go_sem↓] Xg Xh
theorem gL {w:ax}{B e size n:Nat}{v:ay}{b:List ay}(h:w.ownsRow B e size v n b):∃a cap,v= .slice a n cap:=dX h
section
variable {w Z:ax} {B bm bx bf bi:Nat} {ap:Option Addr} {cp:Nat} {ss:List ag} {ve:ay} {ef:List bL} {vs vg:ay} {st:List Bool} {fl:Nat->Bool} {go:Nat} {X:Wd}
end
theorem LV (ef:List bL)(X:Wd)(c:ag):(ia ef X c).aH=X.aH++[c]:=by unfold ia;split<;>rfl
end
