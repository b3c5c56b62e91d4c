/-
  The document's own answer: is a plan sound?
-/
import Derived.Test.YtjelacjggijmfaaGreatDoorTWP3
namespace Go.Proofs.YtjelacjggijmfaaGreatDoor
open Go.RowKit
theorem Tryz.infoBool:(Tryz.prog.info? 4).map (fun i=>(i.zero,i.size,i.bytes))=some (some (.bool false),1,1):=by kernel_rfl
end Go.Proofs.YtjelacjggijmfaaGreatDoor
