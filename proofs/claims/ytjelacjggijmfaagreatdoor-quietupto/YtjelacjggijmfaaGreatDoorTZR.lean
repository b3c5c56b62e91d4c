/-
  What the laws on webs share.
-/
import Derived.Test.YtjelacjggijmfaaGreatDoorTKX7
import Derived.Test.YtjelacjggijmfaaGreatDoorTKW6
import Derived.Test.YtjelacjggijmfaaGreatDoorTGH3
namespace Go.Proofs.YtjelacjggijmfaaGreatDoor
end Go.Proofs.YtjelacjggijmfaaGreatDoor
