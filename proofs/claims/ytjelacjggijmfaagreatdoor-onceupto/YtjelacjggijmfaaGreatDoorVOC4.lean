/-
  Once of package makerkeep: each node is made at most once, behind all that it needs, and just if it is stale. Proved of all arguments whose values and letters together come to at most 1048576: the row and its card.
-/
import Derived.Test.YtjelacjggijmfaaGreatDoorVOC3
namespace Go.Proofs.YtjelacjggijmfaaGreatDoor
open Go.ChangeShapes Go.WideShapes Go.ChangeAt Go.RowKit

set_option maxRecDepth 100000
end Go.Proofs.YtjelacjggijmfaaGreatDoor
