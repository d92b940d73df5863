/- What the walks of a range over a function lean on (for seats that do not reach the tree's own). -/
import Derived.Test.YtnobamncenokdaaGreatDoorTAdd
import Derived.Test.YtnobamncenokdaaGreatDoorTKept
import Derived.Test.YtnobamncenokdaaGreatDoorTInRound
import Derived.Deep.OwnRows
import Derived.Sort.CutIn
import Derived.Shelf.Abstract
import Derived.Shelf.RegionOpen
import Derived.OwnWalkIn
import Derived.TacticsInMore
import Derived.LoopNIn
import Derived.LoopIn
namespace Go.Proofs.YtnobamncenokdaaGreatDoor
open Go.RowKit Tn
def enc2 (x : Nat × Value) : Array Value := #[.int .i64 (x.1 : Int), x.2]
end Go.Proofs.YtnobamncenokdaaGreatDoor
