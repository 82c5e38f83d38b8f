/- Contract of the document's own sum, over the seat's program. -/
import Derived.Test.YtnnppoamdllebaaBytes
import Derived.Test.YtnnppoamdllebaaSum
namespace Go.Proofs.Ytnnppoamdllebaa
open Go.RowKit Sm
namespace Sm
/-- one byte more, the carry added again -/
theorem ref_step {x n T : Int} (h0 : 0 ≤ n) (h1 : n ≤ 65536) (hx0 : 0 ≤ x) (hx1 : x ≤ 65280) (hT : 0 ≤ T) (ho : oc n = oc T) :
    IntKind.u32.wrap (n + x) = n + x ∧ IntKind.u32.wrap (bits .and .u32 (n + x) 65535 + (n + x) / 65536) = (n + x) % 65536 + (n + x) / 65536 ∧
    0 ≤ (n + x) % 65536 + (n + x) / 65536 ∧ (n + x) % 65536 + (n + x) / 65536 ≤ 65536 ∧ oc ((n + x) % 65536 + (n + x) / 65536) = oc (T + x) := by
  rw [and_u32 (n + x) (by omega) (by omega)]
  refine ⟨?_, ?_, by omega, by omega, ?_⟩
  · simp [IntKind.wrap, IntKind.bits, IntKind.signed]; omega
  · simp [IntKind.wrap, IntKind.bits, IntKind.signed]; omega
  · rw [Int.add_comm, oc_fold (by omega)]
    exact oc_add h0 hT hx0 ho
theorem ref_end {n : Int} (h0 : 0 ≤ n) (h1 : n ≤ 65536) :
    IntKind.u32.wrap (bits .and .u32 n 65535 + n / 65536) = oc n ∧ IntKind.u16.wrap (oc n) = oc n := by
  rw [and_u32 n (by omega) (by omega)]
  have e : n % 65536 + n / 65536 = oc n := by
    rw [Int.add_comm, ← oc_fold h0, oc_small (by omega) (by omega)]
  have hb := oc_bd h0
  rw [e]
  constructor
  · simp [IntKind.wrap, IntKind.bits, IntKind.signed]; omega
  · simp [IntKind.wrap, IntKind.bits, IntKind.signed]; omega
end Sm
end Go.Proofs.Ytnnppoamdllebaa

