/- Contracts of package sum's readers: word, fold, Of, Check, over the seat's program. -/
import Derived.Test.YtnnppoamdllebaaBy
import Derived.Test.YtnnppoamdllebaaProg
import Derived.WalkKit
import Derived.BigQuiet
import Derived.Deep.QuietTactic
import Derived.Deep.RegionHeld3
namespace Go.Proofs.Ytnnppoamdllebaa
open Go.RowKit Sm
theorem ival {k : IntKind} {a b : Int} (h : a = b) : Value.int k a = Value.int k b := by rw [h]
end Go.Proofs.Ytnnppoamdllebaa

