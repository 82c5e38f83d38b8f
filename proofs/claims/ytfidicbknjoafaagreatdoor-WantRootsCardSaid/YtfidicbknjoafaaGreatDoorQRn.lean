/- rpf. -/
import Derived.Test.YtfidicbknjoafaaGreatDoorQPa
import Derived.Test.YtfidicbknjoafaaGreatDoorQKa
import Derived.Test.YtfidicbknjoafaaGreatDoorQOn
import Derived.Test.YtfidicbknjoafaaGreatDoorQRb
import Derived.Test.YtfidicbknjoafaaGreatDoorQCf
import Derived.Test.YtfidicbknjoafaaGreatDoorQGr
import Derived.Test.YtfidicbknjoafaaGreatDoorQRc
import Derived.Laws.AppendOwnNone
namespace Go.Proofs.YtfidicbknjoafaaGreatDoor
open Go.RowKit Lx Sm Go.Maps
def Apart (xs:List Int):Prop:=∀k,k+1<xs.length→xs.getD (k+1) 0 ≠ xs.getD k 0
end Go.Proofs.YtfidicbknjoafaaGreatDoor
namespace Go.Proofs.YtfidicbknjoafaaGreatDoor
open Go.RowKit Lx Sm Go.Maps
theorem bel {g:Nat} {W1 wr W:World} (hg:W1.heap.size=g) (h:Below g W1 wr) (hW:Below wr.heap.size wr W):Below g W1 W:=by subst hg;exact below_next h hW
section
variable {b:Nat} {T:TP} {x:Cfg} {gs:List Int}
end
end Go.Proofs.YtfidicbknjoafaaGreatDoor
namespace Go.Proofs.YtfidicbknjoafaaGreatDoor
open Go.RowKit Lx Sm Go.Maps
section
variable {b:Nat} {T:TP} {x:Cfg} {gs:List Int}
end
end Go.Proofs.YtfidicbknjoafaaGreatDoor
