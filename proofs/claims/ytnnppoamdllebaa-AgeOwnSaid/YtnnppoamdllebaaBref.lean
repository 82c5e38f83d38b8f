/- Contracts of addr's bytes and of the document's own helpers for bytes (two, four, At), over the seat's program. -/
import Derived.Test.YtnnppoamdllebaaSlip
import Derived.Test.YtnnppoamdllebaaRefS
import Derived.Test.YtnnppoamdllebaaAd
namespace Go.Proofs.Ytnnppoamdllebaa
open Go.RowKit Sm
theorem K12 : (12 : Int) = ((12 : Nat) : Int) := rfl
theorem K16 : (16 : Int) = ((16 : Nat) : Int) := rfl
end Go.Proofs.Ytnnppoamdllebaa

