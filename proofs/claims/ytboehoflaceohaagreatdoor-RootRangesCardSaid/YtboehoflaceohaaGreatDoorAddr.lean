/- Contracts of package addr (bytes, masks, prefixes), over the seat's program. -/
import Derived.Test.YtboehoflaceohaaGreatDoorAd
import Derived.Test.YtboehoflaceohaaGreatDoorKit
import Derived.Test.YtboehoflaceohaaGreatDoorProg
import Derived.WalkKit
import Derived.Below
import Derived.BigQuiet
import Derived.Deep.QuietTactic
import Derived.Deep.RegionHeld3
import Derived.Lib.Hide
namespace Go.Proofs.YtboehoflaceohaaGreatDoor
open Go.RowKit
theorem group_any (a : Int) (w : World) (_h0 : 0 ≤ a) (_h1 : a ≤ 4294967295) :
    Calls Tryz.prog 83 #[.int .u32 a] w fun e w' => e = .returned (.bool (Ad.group a)) ∧ w = w' := by
  go_enter Tryz.func83, Tryz.ntmps83
  go_wp2
  go_ret
  exact ⟨ret_bool (by unfold Ad.group; rw [Bool.eq_iff_iff]; simp), rfl⟩
theorem mask_any (b : Int) (w : World) :
    Calls Tryz.prog 103 #[.int .i64 b] w fun e w' => e = .returned (.int .u32 (Ad.mask b)) ∧ w = w' := by
  rcases Int.lt_or_le b 0 with h | h
  · go_enter Tryz.func103, Tryz.ntmps103
    go_wp2
    go_ret
    exact ⟨ret_int (by rw [Ad.mask_low b h]; rfl), rfl⟩
  · rcases Int.lt_or_le 32 b with h2 | h2
    · go_enter Tryz.func103, Tryz.ntmps103
      go_wp2
      go_ret
      exact ⟨ret_int (by rw [Ad.mask_high b h2]), rfl⟩
    · go_enter Tryz.func103, Tryz.ntmps103
      go_wp2
      go_ret
      exact ⟨ret_int (Ad.shl_mask' b h h2), rfl⟩
theorem valid_any (a b : Int) (w : World) (h0 : 0 ≤ a) (h1 : a ≤ 4294967295) :
    Calls Tryz.prog 52 #[.agg #[.int .u32 a, .int .i64 b]] w fun e w' => e = .returned (.bool (Ad.valid a b)) ∧ Below w.heap.size w w' := by
  rcases Int.lt_or_le b 0 with h | h
  · have e : Ad.valid a b = false := by unfold Ad.valid; simp; omega
    rw [e]
    have hd : decide (0 ≤ b) = false := by simpa using h
    go_enter Tryz.func52, Tryz.ntmps52
    go_wp2_with fail
    go_quiet (fail)
    go_wp2
    go_ret
    exact ⟨rfl, below_drewN ((Below.refl _ _).alloc (Nat.le_refl _) _) _⟩
  · rcases Int.lt_or_le 32 b with h2 | h2
    · have e : Ad.valid a b = false := by unfold Ad.valid; simp; omega
      rw [e]
      have hd : decide (b ≤ 32) = false := by simpa using h2
      go_enter Tryz.func52, Tryz.ntmps52
      go_wp2_with fail
      go_quiet (fail)
      go_wp2
      go_ret
      exact ⟨rfl, below_drewN ((Below.refl _ _).alloc (Nat.le_refl _) _) _⟩
    · have H := Lib.hid (Ad.andNot_mask a b h h2 h0 h1)
      go_enter Tryz.func52, Tryz.ntmps52
      go_wp2_with fail
      go_quiet ((go_at_call 103; exact (Calls.quiet_of_same ((mask_any _ _).mono fun _ _ hh => ⟨hh.1, hh.2.symm⟩))))
      go_wp2
      go_ret
      refine ⟨ret_bool ?_, below_drewN ((Below.refl _ _).alloc (Nat.le_refl _) _) _⟩
      rw [H.out]
      unfold Ad.valid
      rw [Bool.eq_iff_iff]; simp [h, h2]
set_option maxHeartbeats 800000 in
theorem in_any (a b x : Int) (w : World) (h0 : 0 ≤ a) (h1 : a ≤ 4294967295) (x0 : 0 ≤ x) (x1 : x ≤ 4294967295) :
    Calls Tryz.prog 109 #[.agg #[.int .u32 a, .int .i64 b], .int .u32 x] w fun e w' => e = .returned (.bool (Ad.isIn a b x)) ∧ Below w.heap.size w w' := by
  by_cases hv : Ad.valid a b = true
  · have hb : 0 ≤ b ∧ b ≤ 32 := by unfold Ad.valid at hv; simp at hv; omega
    have H := Lib.hid (Ad.and_mask x b hb.1 hb.2 x0 x1)
    have HV := Lib.hid hv
    clear hb hv
    go_enter Tryz.func109, Tryz.ntmps109
    go_wp2_with fail
    go_region_held3 (fun w' => w'.cell? ⟨w.heap.size, 0, none⟩ = some (.int .u32 a) ∧ w'.cell? ⟨w.heap.size, 1, none⟩ = some (.int .i64 b) ∧ w.heap.size < w'.heap.size ∧ Below w.heap.size w w')
      (first | exact two_new _ _ _ _ rfl | exact two_next (by assumption) (by assumption) | assumption)
      (first
      | (go_at_call 52; refine (valid_any a b _ h0 h1).mono ?_; rintro e w1 ⟨rfl, hb1⟩; rw [HV.out])
      | (go_at_call 103; refine (mask_any b _).mono ?_; rintro e w1 ⟨rfl, rfl⟩))
    go_wp2
    go_ret
    rename_i hS
    refine ⟨ret_bool ?_, hS.2.2.2⟩
    rw [H.out]
    unfold Ad.isIn
    rw [HV.out, Bool.true_and, Bool.eq_iff_iff]
    simp
  · have hv' : Ad.valid a b = false := by simpa using hv
    have e : Ad.isIn a b x = false := by unfold Ad.isIn; rw [hv', Bool.false_and]
    rw [e]
    have HV := Lib.hid hv'
    clear hv hv' e
    go_enter Tryz.func109, Tryz.ntmps109
    go_wp2_with fail
    refine wp_region_any (by kernel_rfl) ?_
    change wpAny _ _ _ _ _ _ _ (World.drew _)
    refine wpAny_ready (rs := [0]) (by kernel_rfl) (by simp) ?_
    refine AllReady.cons rfl (fun K hK => ?_) AllReady.nil
    go_simp
    refine hK _ _ ?_; clear hK K
    refine wpAny_ready (rs := [1]) (by kernel_rfl) (by simp) ?_
    refine AllReady.cons rfl (fun K hK => ?_) AllReady.nil
    go_simp
    go_wp2_with (go_at_call 52; refine (valid_any a b _ h0 h1).mono ?_; rintro e w1 ⟨rfl, hb1⟩; rw [HV.out])
    refine wpAny_take (i := 2) (v := .bool false) rfl (by kernel_rfl) (by kernel_rfl) (by kernel_rfl) (fun _ _ _ h => h) (Or.inl ⟨by rfl, fun w => by go_simp⟩) ?_
    go_simp
    refine wpAny_take (i := 3) (v := undef) rfl (by kernel_rfl) (by kernel_rfl) (by kernel_rfl) (fun _ _ _ h => h) (Or.inr ⟨by rfl, rfl⟩) ?_
    go_simp
    refine wpAny_take (i := 4) (v := undef) rfl (by kernel_rfl) (by kernel_rfl) (by kernel_rfl) (fun _ _ _ h => h) (Or.inr ⟨by rfl, rfl⟩) ?_
    go_simp
    refine wpAny_take (i := 5) (v := undef) rfl (by kernel_rfl) (by kernel_rfl) (by kernel_rfl) (fun _ _ _ h => h) (Or.inr ⟨by rfl, rfl⟩) ?_
    go_simp
    refine wpAny_take (i := 6) (v := undef) rfl (by kernel_rfl) (by kernel_rfl) (by kernel_rfl) (fun _ _ _ h => h) (Or.inr ⟨by rfl, rfl⟩) ?_
    go_simp
    refine wpAny_take (i := 7) (v := undef) rfl (by kernel_rfl) (by kernel_rfl) (by kernel_rfl) (fun _ _ _ h => h) (Or.inr ⟨by rfl, rfl⟩) ?_
    go_simp
    refine wpAny_take (i := 8) (v := undef) rfl (by kernel_rfl) (by kernel_rfl) (by kernel_rfl) (fun _ _ _ h => h) (Or.inr ⟨by rfl, rfl⟩) ?_
    go_simp
    refine wpAny_take (i := 9) (v := undef) rfl (by kernel_rfl) (by kernel_rfl) (by kernel_rfl) (fun _ _ _ h => h) (Or.inr ⟨by rfl, rfl⟩) ?_
    go_simp
    refine wpAny_take (i := 10) (v := undef) rfl (by kernel_rfl) (by kernel_rfl) (by kernel_rfl) (fun _ _ _ h => h) (Or.inr ⟨by rfl, rfl⟩) ?_
    go_simp
    refine wpAny_take (i := 11) (v := .bool false) rfl (by kernel_rfl) (by kernel_rfl) (by kernel_rfl) (fun _ _ _ h => h) (Or.inl ⟨by rfl, fun w => by go_simp⟩) ?_
    go_simp
    refine wpAny_take (i := 12) (v := .bool false) rfl (by kernel_rfl) (by kernel_rfl) (by kernel_rfl) (fun _ _ _ h => h) (Or.inl ⟨by rfl, fun w => by go_simp⟩) ?_
    go_simp
    refine wpAny_done (by kernel_rfl) ?_ _
    go_wp2
    go_ret
    exact ⟨rfl, ((Below.refl _ _).alloc (Nat.le_refl _) _).drew.trans (hb1.mono (by simp))⟩
theorem within_any (a b c d : Int) (w : World) (h0 : 0 ≤ a) (h1 : a ≤ 4294967295) (c0 : 0 ≤ c) (c1 : c ≤ 4294967295) :
    Calls Tryz.prog 65 #[.agg #[.int .u32 a, .int .i64 b], .agg #[.int .u32 c, .int .i64 d]] w fun e w' => e = .returned (.bool (Ad.within a b c d)) ∧ Below w.heap.size w w' := by
  by_cases hv : Ad.valid a b = true
  · have HV := Lib.hid hv
    clear hv
    by_cases hd : d ≤ b
    · have e : Ad.within a b c d = Ad.isIn c d a := by unfold Ad.within; rw [HV.out]; simp [hd]
      rw [e]; clear e
      have hd' : decide (d ≤ b) = true := by simpa using hd
      go_enter Tryz.func65, Tryz.ntmps65
      go_wp2_with (first
        | (go_at_call 52; refine (valid_any a b _ h0 h1).mono ?_; rintro e w1 ⟨rfl, hb1⟩; rw [HV.out]; obtain ⟨hc1, hc2, hc3, hc4, hc5, hc6, hc7⟩ := four_next (four_new (w := w) _ _ (.int .u32 a) (.int .i64 b) (.int .u32 c) (.int .i64 d) 37 rfl rfl) hb1; have HB := Lib.hid hc7; clear hc7 hb1)
        | (go_at_call 109; refine (in_any c d a _ c0 c1 h0 h1).mono ?_; rintro e w1 ⟨rfl, hb1⟩))
      go_ret
      exact ⟨rfl, HB.out.trans (hb1.mono (by omega))⟩
    · have e : Ad.within a b c d = false := by unfold Ad.within; simp [hd]
      rw [e]; clear e
      have hd' : decide (d ≤ b) = false := by simpa using hd
      go_enter Tryz.func65, Tryz.ntmps65
      go_wp2_with (first
        | (go_at_call 52; refine (valid_any a b _ h0 h1).mono ?_; rintro e w1 ⟨rfl, hb1⟩; rw [HV.out]; obtain ⟨hc1, hc2, hc3, hc4, hc5, hc6, hc7⟩ := four_next (four_new (w := w) _ _ (.int .u32 a) (.int .i64 b) (.int .u32 c) (.int .i64 d) 37 rfl rfl) hb1; have HB := Lib.hid hc7; clear hc7 hb1))
      go_ret
      exact ⟨rfl, HB.out⟩
  · have hv' : Ad.valid a b = false := by simpa using hv
    have e : Ad.within a b c d = false := by unfold Ad.within; rw [hv', Bool.false_and]
    rw [e]
    have HV := Lib.hid hv'
    clear hv hv' e
    go_enter Tryz.func65, Tryz.ntmps65
    go_wp2_with (first
        | (go_at_call 52; refine (valid_any a b _ h0 h1).mono ?_; rintro e w1 ⟨rfl, hb1⟩; rw [HV.out]; obtain ⟨hc1, hc2, hc3, hc4, hc5, hc6, hc7⟩ := four_next (four_new (w := w) _ _ (.int .u32 a) (.int .i64 b) (.int .u32 c) (.int .i64 d) 37 rfl rfl) hb1; have HB := Lib.hid hc7; clear hc7 hb1))
    go_ret
    exact ⟨rfl, HB.out⟩
/-- n % b as Go's own steps reckon it -/
theorem number_any (n b : Int) (w : World) (hb : 0 < b) (hb1 : b ≤ 4294967296) :
    Calls Tryz.prog 5 #[.int .i64 n, .int .i64 b] w fun e w' => e = .returned (.int .i64 (n % b)) ∧ w = w' := by
  have hm := Int.tmod_lt_of_pos n hb
  have hm2 : -b < n.tmod b := by have := Int.lt_tmod_of_pos n hb; exact this
  have he : n.tmod b = if 0 ≤ n.tmod b then n % b else n % b - b := by
    rw [Int.tmod_eq_emod]
    have h1 := Int.emod_nonneg n (show b ≠ 0 by omega)
    have h2 := Int.emod_lt_of_pos n hb
    by_cases hn : 0 ≤ n ∨ b ∣ n
    · rw [if_pos hn]; simp [h1]
    · rw [if_neg hn]; rw [if_neg (by omega)]; omega
  have H := Lib.hid he
  clear he
  by_cases h : n.tmod b < 0
  · go_enter Tryz.func5, Tryz.ntmps5
    go_wp2
    go_ret
    exact ⟨ret_int (by have := H.out; rw [if_neg (by omega)] at this; omega), rfl⟩
  · go_enter Tryz.func5, Tryz.ntmps5
    go_wp2
    go_ret
    exact ⟨ret_int (by have := H.out; rw [if_pos (by omega)] at this; exact this), rfl⟩
end Go.Proofs.YtboehoflaceohaaGreatDoor

