/-
  What the laws on webs share.
-/
import Derived.Test.YtjelacjggijmfaaGreatDoorVKX7
import Derived.Test.YtjelacjggijmfaaGreatDoorVKW6
import Derived.Test.YtjelacjggijmfaaGreatDoorVGH3
namespace Go.Proofs.YtjelacjggijmfaaGreatDoor
end Go.Proofs.YtjelacjggijmfaaGreatDoor
