/- seat.bids, seat.Of; the document's Ahead, bid, Seat; the law's other; over the seat's program. -/
import Derived.Test.YtdljpokhcfhhfaaGreatDoorBb
import Derived.Test.YtdljpokhcfhhfaaGreatDoorBp
import Derived.Test.YtdljpokhcfhhfaaGreatDoorQo
import Derived.Test.YtdljpokhcfhhfaaGreatDoorLt
import Derived.Deep.Cut
import Derived.StillTailTactics
namespace Go.Proofs.YtdljpokhcfhhfaaGreatDoor
open Go.ChangeShapes Go.WideShapes Go.ChangeAt Go.RowKit Lx Sm Go.Maps
/-- a port's bid -/
def bidP (x : Cfg) (q : Int) : Bd := ((x.rs.getD (x.ps.getD q.toNat (0, 0, 0)).1.toNat ([], 0)).2, (x.ps.getD q.toNat (0, 0, 0)).2.2)
end Go.Proofs.YtdljpokhcfhhfaaGreatDoor

