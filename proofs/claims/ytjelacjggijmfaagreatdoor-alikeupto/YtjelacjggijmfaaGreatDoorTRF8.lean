/-
  The document's own answer: what is told of a world: the walk.
-/
import Derived.Test.YtjelacjggijmfaaGreatDoorTWP3
namespace Go.Proofs.YtjelacjggijmfaaGreatDoor
open Go.RowKit
theorem file_one (f:Pl.File):∀u∈fileC f,u.oneCell' =true:=by
 intro u hu;simp[fileC,strV] at hu
 rcases hu with rfl|rfl|rfl<;>rfl
end Go.Proofs.YtjelacjggijmfaaGreatDoor
