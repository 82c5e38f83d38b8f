/- Contracts of the document's helpers for bytes: a copy in new memory, whether two lists are the same, a number below a bound; and of bytes.Clone, over the seat's program. -/
import Derived.Test.YtdljpokhcfhhfaaGreatDoorAsb
import Derived.Test.YtdljpokhcfhhfaaGreatDoorAs
import Derived.Test.YtdljpokhcfhhfaaGreatDoorProg
import Derived.WalkKit
import Derived.BigQuiet
import Derived.Deep.QuietTactic
import Derived.Deep.RegionHeld3
import Derived.Deep.DeepAppendRoom
import Derived.Lib.SliceRun
namespace Go.Proofs.YtdljpokhcfhhfaaGreatDoor
open Go.RowKit Sm
theorem info_u8 : (Tryz.prog.info? 5).map (fun i => (i.zero, i.size, i.bytes)) = some (some (.int .u8 0), 1, 1) := by kernel_rfl
theorem bnum_any (x b : Int) (w : World) (hb : 0 < b) (hb1 : b ≤ 1000000000) :
    Calls Tryz.prog 29 #[.int .i64 x, .int .i64 b] w fun e w' => e = .returned (.int .i64 (x % b)) ∧ w = w' := by
  have hb0 : 0 ≤ x % b := Int.emod_nonneg _ (by omega)
  have hb2 : x % b < b := Int.emod_lt_of_pos _ hb
  have ht : x.tmod b = x % b ∨ (x.tmod b = x % b - b ∧ x.tmod b < 0) := by
    have e := Int.tmod_eq_emod (a := x) (b := b)
    split at e
    · exact .inl (by omega)
    · exact .inr (by omega)
  go_enter Tryz.func29, Tryz.ntmps29
  go_wp2
  all_goals
    go_ret
    refine ⟨ret_int ?_, rfl⟩
  · omega
  · omega
end Go.Proofs.YtdljpokhcfhhfaaGreatDoor

