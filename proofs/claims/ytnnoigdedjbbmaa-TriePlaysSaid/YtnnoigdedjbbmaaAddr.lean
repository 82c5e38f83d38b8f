/- Contracts of package addr (bytes, masks, prefixes), over the seat's program. -/
import Derived.Test.YtnnoigdedjbbmaaAd
import Derived.Test.YtnnoigdedjbbmaaKit
import Derived.Test.YtnnoigdedjbbmaaProg
import Derived.WalkKit
import Derived.Below
import Derived.BigQuiet
import Derived.Deep.QuietTactic
import Derived.Deep.RegionHeld3
import Derived.Lib.Hide
namespace Go.Proofs.Ytnnoigdedjbbmaa
open Go.RowKit
theorem mask_any (b : Int) (w : World) :
    Calls Try.prog 26 #[.int .i64 b] w fun e w' => e = .returned (.int .u32 (Ad.mask b)) ∧ w = w' := by
  rcases Int.lt_or_le b 0 with h | h
  · go_enter Try.func26, Try.ntmps26
    go_wp2
    go_ret
    exact ⟨ret_int (by rw [Ad.mask_low b h]; rfl), rfl⟩
  · rcases Int.lt_or_le 32 b with h2 | h2
    · go_enter Try.func26, Try.ntmps26
      go_wp2
      go_ret
      exact ⟨ret_int (by rw [Ad.mask_high b h2]), rfl⟩
    · go_enter Try.func26, Try.ntmps26
      go_wp2
      go_ret
      exact ⟨ret_int (Ad.shl_mask' b h h2), rfl⟩
theorem valid_any (a b : Int) (w : World) (h0 : 0 ≤ a) (h1 : a ≤ 4294967295) :
    Calls Try.prog 20 #[.agg #[.int .u32 a, .int .i64 b]] w fun e w' => e = .returned (.bool (Ad.valid a b)) ∧ Below w.heap.size w w' := by
  rcases Int.lt_or_le b 0 with h | h
  · have e : Ad.valid a b = false := by unfold Ad.valid; simp; omega
    rw [e]
    have hd : decide (0 ≤ b) = false := by simpa using h
    go_enter Try.func20, Try.ntmps20
    go_wp2_with fail
    go_quiet (fail)
    go_wp2
    go_ret
    exact ⟨rfl, below_drewN ((Below.refl _ _).alloc (Nat.le_refl _) _) _⟩
  · rcases Int.lt_or_le 32 b with h2 | h2
    · have e : Ad.valid a b = false := by unfold Ad.valid; simp; omega
      rw [e]
      have hd : decide (b ≤ 32) = false := by simpa using h2
      go_enter Try.func20, Try.ntmps20
      go_wp2_with fail
      go_quiet (fail)
      go_wp2
      go_ret
      exact ⟨rfl, below_drewN ((Below.refl _ _).alloc (Nat.le_refl _) _) _⟩
    · have H := Lib.hid (Ad.andNot_mask a b h h2 h0 h1)
      go_enter Try.func20, Try.ntmps20
      go_wp2_with fail
      go_quiet ((go_at_call 26; exact (Calls.quiet_of_same ((mask_any _ _).mono fun _ _ hh => ⟨hh.1, hh.2.symm⟩))))
      go_wp2
      go_ret
      refine ⟨ret_bool ?_, below_drewN ((Below.refl _ _).alloc (Nat.le_refl _) _) _⟩
      rw [H.out]
      unfold Ad.valid
      rw [Bool.eq_iff_iff]; simp [h, h2]
/-- n % b as Go's own steps reckon it -/
theorem number_any (n b : Int) (w : World) (hb : 0 < b) (hb1 : b ≤ 4294967296) :
    Calls Try.prog 17 #[.int .i64 n, .int .i64 b] w fun e w' => e = .returned (.int .i64 (n % b)) ∧ w = w' := by
  have hm := Int.tmod_lt_of_pos n hb
  have hm2 : -b < n.tmod b := by have := Int.lt_tmod_of_pos n hb; exact this
  have he : n.tmod b = if 0 ≤ n.tmod b then n % b else n % b - b := by
    rw [Int.tmod_eq_emod]
    have h1 := Int.emod_nonneg n (show b ≠ 0 by omega)
    have h2 := Int.emod_lt_of_pos n hb
    by_cases hn : 0 ≤ n ∨ b ∣ n
    · rw [if_pos hn]; simp [h1]
    · rw [if_neg hn]; rw [if_neg (by omega)]; omega
  have H := Lib.hid he
  clear he
  by_cases h : n.tmod b < 0
  · go_enter Try.func17, Try.ntmps17
    go_wp2
    go_ret
    exact ⟨ret_int (by have := H.out; rw [if_neg (by omega)] at this; omega), rfl⟩
  · go_enter Try.func17, Try.ntmps17
    go_wp2
    go_ret
    exact ⟨ret_int (by have := H.out; rw [if_pos (by omega)] at this; exact this), rfl⟩
end Go.Proofs.Ytnnoigdedjbbmaa

