/- Contracts of package addr (bytes, masks, prefixes), over the seat's program. -/
import Derived.Test.YtnnppoamdllebaaAd
import Derived.Test.YtnnppoamdllebaaKit
import Derived.Test.YtnnppoamdllebaaProg
import Derived.WalkKit
import Derived.Below
import Derived.BigQuiet
import Derived.Deep.QuietTactic
import Derived.Deep.RegionHeld3
import Derived.Lib.Hide
namespace Go.Proofs.Ytnnppoamdllebaa
open Go.RowKit
/-- n % b as Go's own steps reckon it -/
theorem number_any (n b : Int) (w : World) (hb : 0 < b) (hb1 : b ≤ 4294967296) :
    Calls Try.prog 21 #[.int .i64 n, .int .i64 b] w fun e w' => e = .returned (.int .i64 (n % b)) ∧ w = w' := by
  have hm := Int.tmod_lt_of_pos n hb
  have hm2 : -b < n.tmod b := by have := Int.lt_tmod_of_pos n hb; exact this
  have he : n.tmod b = if 0 ≤ n.tmod b then n % b else n % b - b := by
    rw [Int.tmod_eq_emod]
    have h1 := Int.emod_nonneg n (show b ≠ 0 by omega)
    have h2 := Int.emod_lt_of_pos n hb
    by_cases hn : 0 ≤ n ∨ b ∣ n
    · rw [if_pos hn]; simp [h1]
    · rw [if_neg hn]; rw [if_neg (by omega)]; omega
  have H := Lib.hid he
  clear he
  by_cases h : n.tmod b < 0
  · go_enter Try.func21, Try.ntmps21
    go_wp2
    go_ret
    exact ⟨ret_int (by have := H.out; rw [if_neg (by omega)] at this; omega), rfl⟩
  · go_enter Try.func21, Try.ntmps21
    go_wp2
    go_ret
    exact ⟨ret_int (by have := H.out; rw [if_pos (by omega)] at this; exact this), rfl⟩
end Go.Proofs.Ytnnppoamdllebaa

