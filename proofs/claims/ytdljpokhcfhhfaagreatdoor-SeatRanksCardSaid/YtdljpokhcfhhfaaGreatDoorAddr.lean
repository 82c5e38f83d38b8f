/- Contracts of package addr (bytes, masks, prefixes), over the seat's program. Contracts of the document's own answers on masks and prefixes: the same functions of addresses as package addr's. -/
import Derived.Test.YtdljpokhcfhhfaaGreatDoorAd
import Derived.Test.YtdljpokhcfhhfaaGreatDoorKit
import Derived.Test.YtdljpokhcfhhfaaGreatDoorProg
import Derived.WalkKit
import Derived.Below
import Derived.BigQuiet
import Derived.Deep.QuietTactic
import Derived.Deep.RegionHeld3
import Derived.Lib.Hide
namespace Go.Proofs.YtdljpokhcfhhfaaGreatDoor
open Go.RowKit
theorem group_any (a : Int) (w : World) (_h0 : 0 ≤ a) (_h1 : a ≤ 4294967295) :
    Calls Tryz.prog 177 #[.int .u32 a] w fun e w' => e = .returned (.bool (Ad.group a)) ∧ w = w' := by
  go_enter Tryz.func177, Tryz.ntmps177
  go_wp2
  go_ret
  exact ⟨ret_bool (by unfold Ad.group; rw [Bool.eq_iff_iff]; simp), rfl⟩
theorem mask_any (b : Int) (w : World) :
    Calls Tryz.prog 216 #[.int .i64 b] w fun e w' => e = .returned (.int .u32 (Ad.mask b)) ∧ w = w' := by
  rcases Int.lt_or_le b 0 with h | h
  · go_enter Tryz.func216, Tryz.ntmps216
    go_wp2
    go_ret
    exact ⟨ret_int (by rw [Ad.mask_low b h]; rfl), rfl⟩
  · rcases Int.lt_or_le 32 b with h2 | h2
    · go_enter Tryz.func216, Tryz.ntmps216
      go_wp2
      go_ret
      exact ⟨ret_int (by rw [Ad.mask_high b h2]), rfl⟩
    · go_enter Tryz.func216, Tryz.ntmps216
      go_wp2
      go_ret
      exact ⟨ret_int (Ad.shl_mask' b h h2), rfl⟩
theorem valid_any (a b : Int) (w : World) (h0 : 0 ≤ a) (h1 : a ≤ 4294967295) :
    Calls Tryz.prog 158 #[.agg #[.int .u32 a, .int .i64 b]] w fun e w' => e = .returned (.bool (Ad.valid a b)) ∧ Below w.heap.size w w' := by
  rcases Int.lt_or_le b 0 with h | h
  · have e : Ad.valid a b = false := by unfold Ad.valid; simp; omega
    rw [e]
    have hd : decide (0 ≤ b) = false := by simpa using h
    go_enter Tryz.func158, Tryz.ntmps158
    go_wp2_with fail
    go_quiet (fail)
    go_wp2
    go_ret
    exact ⟨rfl, below_drewN ((Below.refl _ _).alloc (Nat.le_refl _) _) _⟩
  · rcases Int.lt_or_le 32 b with h2 | h2
    · have e : Ad.valid a b = false := by unfold Ad.valid; simp; omega
      rw [e]
      have hd : decide (b ≤ 32) = false := by simpa using h2
      go_enter Tryz.func158, Tryz.ntmps158
      go_wp2_with fail
      go_quiet (fail)
      go_wp2
      go_ret
      exact ⟨rfl, below_drewN ((Below.refl _ _).alloc (Nat.le_refl _) _) _⟩
    · have H := Lib.hid (Ad.andNot_mask a b h h2 h0 h1)
      go_enter Tryz.func158, Tryz.ntmps158
      go_wp2_with fail
      go_quiet ((go_at_call 216; exact (Calls.quiet_of_same ((mask_any _ _).mono fun _ _ hh => ⟨hh.1, hh.2.symm⟩))))
      go_wp2
      go_ret
      refine ⟨ret_bool ?_, below_drewN ((Below.refl _ _).alloc (Nat.le_refl _) _) _⟩
      rw [H.out]
      unfold Ad.valid
      rw [Bool.eq_iff_iff]; simp [h, h2]
set_option maxHeartbeats 800000 in
theorem in_any (a b x : Int) (w : World) (h0 : 0 ≤ a) (h1 : a ≤ 4294967295) (x0 : 0 ≤ x) (x1 : x ≤ 4294967295) :
    Calls Tryz.prog 217 #[.agg #[.int .u32 a, .int .i64 b], .int .u32 x] w fun e w' => e = .returned (.bool (Ad.isIn a b x)) ∧ Below w.heap.size w w' := by
  by_cases hv : Ad.valid a b = true
  · have hb : 0 ≤ b ∧ b ≤ 32 := by unfold Ad.valid at hv; simp at hv; omega
    have H := Lib.hid (Ad.and_mask x b hb.1 hb.2 x0 x1)
    have HV := Lib.hid hv
    clear hb hv
    go_enter Tryz.func217, Tryz.ntmps217
    go_wp2_with fail
    go_region_held3 (fun w' => w'.cell? ⟨w.heap.size, 0, none⟩ = some (.int .u32 a) ∧ w'.cell? ⟨w.heap.size, 1, none⟩ = some (.int .i64 b) ∧ w.heap.size < w'.heap.size ∧ Below w.heap.size w w')
      (first | exact two_new _ _ _ _ rfl | exact two_next (by assumption) (by assumption) | assumption)
      (first
      | (go_at_call 158; refine (valid_any a b _ h0 h1).mono ?_; rintro e w1 ⟨rfl, hb1⟩; rw [HV.out])
      | (go_at_call 216; refine (mask_any b _).mono ?_; rintro e w1 ⟨rfl, rfl⟩))
    go_wp2
    go_ret
    rename_i hS
    refine ⟨ret_bool ?_, hS.2.2.2⟩
    rw [H.out]
    unfold Ad.isIn
    rw [HV.out, Bool.true_and, Bool.eq_iff_iff]
    simp
  · have hv' : Ad.valid a b = false := by simpa using hv
    have e : Ad.isIn a b x = false := by unfold Ad.isIn; rw [hv', Bool.false_and]
    rw [e]
    have HV := Lib.hid hv'
    clear hv hv' e
    go_enter Tryz.func217, Tryz.ntmps217
    go_wp2_with fail
    refine wp_region_any (by kernel_rfl) ?_
    change wpAny _ _ _ _ _ _ _ (World.drew _)
    refine wpAny_ready (rs := [0]) (by kernel_rfl) (by simp) ?_
    refine AllReady.cons rfl (fun K hK => ?_) AllReady.nil
    go_simp
    refine hK _ _ ?_; clear hK K
    refine wpAny_ready (rs := [1]) (by kernel_rfl) (by simp) ?_
    refine AllReady.cons rfl (fun K hK => ?_) AllReady.nil
    go_simp
    go_wp2_with (go_at_call 158; refine (valid_any a b _ h0 h1).mono ?_; rintro e w1 ⟨rfl, hb1⟩; rw [HV.out])
    refine wpAny_take (i := 2) (v := .bool false) rfl (by kernel_rfl) (by kernel_rfl) (by kernel_rfl) (fun _ _ _ h => h) (Or.inl ⟨by rfl, fun w => by go_simp⟩) ?_
    go_simp
    refine wpAny_take (i := 3) (v := undef) rfl (by kernel_rfl) (by kernel_rfl) (by kernel_rfl) (fun _ _ _ h => h) (Or.inr ⟨by rfl, rfl⟩) ?_
    go_simp
    refine wpAny_take (i := 4) (v := undef) rfl (by kernel_rfl) (by kernel_rfl) (by kernel_rfl) (fun _ _ _ h => h) (Or.inr ⟨by rfl, rfl⟩) ?_
    go_simp
    refine wpAny_take (i := 5) (v := undef) rfl (by kernel_rfl) (by kernel_rfl) (by kernel_rfl) (fun _ _ _ h => h) (Or.inr ⟨by rfl, rfl⟩) ?_
    go_simp
    refine wpAny_take (i := 6) (v := undef) rfl (by kernel_rfl) (by kernel_rfl) (by kernel_rfl) (fun _ _ _ h => h) (Or.inr ⟨by rfl, rfl⟩) ?_
    go_simp
    refine wpAny_take (i := 7) (v := undef) rfl (by kernel_rfl) (by kernel_rfl) (by kernel_rfl) (fun _ _ _ h => h) (Or.inr ⟨by rfl, rfl⟩) ?_
    go_simp
    refine wpAny_take (i := 8) (v := undef) rfl (by kernel_rfl) (by kernel_rfl) (by kernel_rfl) (fun _ _ _ h => h) (Or.inr ⟨by rfl, rfl⟩) ?_
    go_simp
    refine wpAny_take (i := 9) (v := undef) rfl (by kernel_rfl) (by kernel_rfl) (by kernel_rfl) (fun _ _ _ h => h) (Or.inr ⟨by rfl, rfl⟩) ?_
    go_simp
    refine wpAny_take (i := 10) (v := undef) rfl (by kernel_rfl) (by kernel_rfl) (by kernel_rfl) (fun _ _ _ h => h) (Or.inr ⟨by rfl, rfl⟩) ?_
    go_simp
    refine wpAny_take (i := 11) (v := .bool false) rfl (by kernel_rfl) (by kernel_rfl) (by kernel_rfl) (fun _ _ _ h => h) (Or.inl ⟨by rfl, fun w => by go_simp⟩) ?_
    go_simp
    refine wpAny_take (i := 12) (v := .bool false) rfl (by kernel_rfl) (by kernel_rfl) (by kernel_rfl) (fun _ _ _ h => h) (Or.inl ⟨by rfl, fun w => by go_simp⟩) ?_
    go_simp
    refine wpAny_done (by kernel_rfl) ?_ _
    go_wp2
    go_ret
    exact ⟨rfl, ((Below.refl _ _).alloc (Nat.le_refl _) _).drew.trans (hb1.mono (by simp))⟩
theorem within_any (a b c d : Int) (w : World) (h0 : 0 ≤ a) (h1 : a ≤ 4294967295) (c0 : 0 ≤ c) (c1 : c ≤ 4294967295) :
    Calls Tryz.prog 159 #[.agg #[.int .u32 a, .int .i64 b], .agg #[.int .u32 c, .int .i64 d]] w fun e w' => e = .returned (.bool (Ad.within a b c d)) ∧ Below w.heap.size w w' := by
  by_cases hv : Ad.valid a b = true
  · have HV := Lib.hid hv
    clear hv
    by_cases hd : d ≤ b
    · have e : Ad.within a b c d = Ad.isIn c d a := by unfold Ad.within; rw [HV.out]; simp [hd]
      rw [e]; clear e
      have hd' : decide (d ≤ b) = true := by simpa using hd
      go_enter Tryz.func159, Tryz.ntmps159
      go_wp2_with (first
        | (go_at_call 158; refine (valid_any a b _ h0 h1).mono ?_; rintro e w1 ⟨rfl, hb1⟩; rw [HV.out]; obtain ⟨hc1, hc2, hc3, hc4, hc5, hc6, hc7⟩ := four_next (four_new (w := w) _ _ (.int .u32 a) (.int .i64 b) (.int .u32 c) (.int .i64 d) 123 rfl rfl) hb1; have HB := Lib.hid hc7; clear hc7 hb1)
        | (go_at_call 217; refine (in_any c d a _ c0 c1 h0 h1).mono ?_; rintro e w1 ⟨rfl, hb1⟩))
      go_ret
      exact ⟨rfl, HB.out.trans (hb1.mono (by omega))⟩
    · have e : Ad.within a b c d = false := by unfold Ad.within; simp [hd]
      rw [e]; clear e
      have hd' : decide (d ≤ b) = false := by simpa using hd
      go_enter Tryz.func159, Tryz.ntmps159
      go_wp2_with (first
        | (go_at_call 158; refine (valid_any a b _ h0 h1).mono ?_; rintro e w1 ⟨rfl, hb1⟩; rw [HV.out]; obtain ⟨hc1, hc2, hc3, hc4, hc5, hc6, hc7⟩ := four_next (four_new (w := w) _ _ (.int .u32 a) (.int .i64 b) (.int .u32 c) (.int .i64 d) 123 rfl rfl) hb1; have HB := Lib.hid hc7; clear hc7 hb1))
      go_ret
      exact ⟨rfl, HB.out⟩
  · have hv' : Ad.valid a b = false := by simpa using hv
    have e : Ad.within a b c d = false := by unfold Ad.within; rw [hv', Bool.false_and]
    rw [e]
    have HV := Lib.hid hv'
    clear hv hv' e
    go_enter Tryz.func159, Tryz.ntmps159
    go_wp2_with (first
        | (go_at_call 158; refine (valid_any a b _ h0 h1).mono ?_; rintro e w1 ⟨rfl, hb1⟩; rw [HV.out]; obtain ⟨hc1, hc2, hc3, hc4, hc5, hc6, hc7⟩ := four_next (four_new (w := w) _ _ (.int .u32 a) (.int .i64 b) (.int .u32 c) (.int .i64 d) 123 rfl rfl) hb1; have HB := Lib.hid hc7; clear hc7 hb1))
    go_ret
    exact ⟨rfl, HB.out⟩
/-- n % b as Go's own steps reckon it -/
theorem number_any (n b : Int) (w : World) (hb : 0 < b) (hb1 : b ≤ 4294967296) :
    Calls Tryz.prog 29 #[.int .i64 n, .int .i64 b] w fun e w' => e = .returned (.int .i64 (n % b)) ∧ w = w' := by
  have hm := Int.tmod_lt_of_pos n hb
  have hm2 : -b < n.tmod b := by have := Int.lt_tmod_of_pos n hb; exact this
  have he : n.tmod b = if 0 ≤ n.tmod b then n % b else n % b - b := by
    rw [Int.tmod_eq_emod]
    have h1 := Int.emod_nonneg n (show b ≠ 0 by omega)
    have h2 := Int.emod_lt_of_pos n hb
    by_cases hn : 0 ≤ n ∨ b ∣ n
    · rw [if_pos hn]; simp [h1]
    · rw [if_neg hn]; rw [if_neg (by omega)]; omega
  have H := Lib.hid he
  clear he
  by_cases h : n.tmod b < 0
  · go_enter Tryz.func29, Tryz.ntmps29
    go_wp2
    go_ret
    exact ⟨ret_int (by have := H.out; rw [if_neg (by omega)] at this; omega), rfl⟩
  · go_enter Tryz.func29, Tryz.ntmps29
    go_wp2
    go_ret
    exact ⟨ret_int (by have := H.out; rw [if_pos (by omega)] at this; exact this), rfl⟩
end Go.Proofs.YtdljpokhcfhhfaaGreatDoor
namespace Go.Proofs.YtdljpokhcfhhfaaGreatDoor
open Go.RowKit
namespace Ad
/-- k leading ones -/
def lead (k : Nat) : Int := 4294967296 - 2 ^ (32 - k)
theorem lead_or (k : Nat) (h : k < 32) : bits .or .u32 (lead k) (2 ^ (31 - k) % 4294967296) = lead (k + 1) := by
  have hh : ∀ j : Fin 32, bits .or .u32 (lead j.val) (2 ^ (31 - j.val) % 4294967296) = lead (j.val + 1) := by decide +kernel
  exact hh ⟨k, h⟩
theorem lead_bd (k : Nat) (h : k ≤ 32) : 0 ≤ lead k ∧ lead k ≤ 4294967295 := by
  have hh : ∀ j : Fin 33, 0 ≤ lead j.val ∧ lead j.val ≤ 4294967295 := by decide +kernel
  exact hh ⟨k, by omega⟩
theorem lead_mask (k : Nat) (h : k ≤ 32) : lead k = mask (k : Int) := by
  have hh : ∀ j : Fin 33, lead j.val = mask (j.val : Int) := by decide +kernel
  exact hh ⟨k, by omega⟩
end Ad
set_option maxHeartbeats 1000000 in
theorem rmask_any (b : Int) (w : World) :
    Calls Tryz.prog 111 #[.int .i64 b] w fun e w' => e = .returned (.int .u32 (Ad.mask b)) ∧ w = w' := by
  go_enter Tryz.func111, Tryz.ntmps111
  go_wp2_with fail
  go_loop [3, 4] (fun m i => ∃ k : Nat, k ≤ 32 ∧ (k = 0 ∨ (k : Int) ≤ b) ∧ i = .int .i64 k ∧ m = .int .u32 (Ad.lead k)) (fun _ i => 32 - (intOf i).toNat)
  case atStart => exact ⟨0, by omega, .inl rfl, rfl, rfl⟩
  case round =>
    obtain ⟨k, hk, hkb, rfl, rfl⟩ := hrel
    have Hkb := Lib.hid hkb
    have Hk := Lib.hid hk
    clear hkb hk
    rcases Int.lt_or_le (k : Int) b with h1 | h1
    · rcases Nat.lt_or_ge k 32 with h2 | h2
      · have hor := Ad.lead_or k h2
        go_wp2
        go_round
        case rel => exact ⟨k + 1, by omega, .inr (by omega), by go_num, rfl⟩
        case measure => simp [intOf]; omega
      · have hd : decide ((k : Int) < 32) = false := by simp; omega
        have HE : Hid (Ad.lead k = Ad.mask b) := by
          have := Hk.out
          obtain rfl : k = 32 := by omega
          show Ad.lead 32 = Ad.mask b
          rw [Ad.lead_mask 32 (by omega)]
          rcases Int.lt_or_le 32 b with h | h
          · rw [Ad.mask_high b h]; rfl
          · obtain rfl : b = 32 := by omega
            rfl
        go_wp2
        go_ret
        exact ⟨ret_int HE.out, rfl⟩
    · have HE : Hid (Ad.lead k = Ad.mask b) := by
        have := Hk.out
        rcases Hkb.out with rfl | h
        · rcases Int.lt_or_le b 0 with h | h
          · rw [Ad.mask_low b h]; rfl
          · obtain rfl : b = 0 := by omega
            rfl
        · obtain rfl : b = (k : Int) := by omega
          exact Ad.lead_mask k this
      go_wp2
      go_ret
      exact ⟨ret_int HE.out, rfl⟩
theorem rgroup_any (a : Int) (w : World) (_h0 : 0 ≤ a) (_h1 : a ≤ 4294967295) :
    Calls Tryz.prog 209 #[.int .u32 a] w fun e w' => e = .returned (.bool (Ad.group a)) ∧ w = w' := by
  go_enter Tryz.func209, Tryz.ntmps209
  go_wp2
  go_ret
  exact ⟨ret_bool (by unfold Ad.group; rw [Bool.eq_iff_iff]; simp), rfl⟩
theorem same_any (a b c d : Int) (w : World) :
    Calls Tryz.prog 210 #[.agg #[.int .u32 a, .int .i64 b], .agg #[.int .u32 c, .int .i64 d]] w fun e w' => e = .returned (.bool (decide (a = c) && decide (b = d))) ∧ Below w.heap.size w w' := by
  by_cases h1 : a = c
  · have he : (a == c) = true := by simpa using h1
    by_cases h2 : b = d
    · have hf : (b == d) = true := by simpa using h2
      have e : (decide (a = c) && decide (b = d)) = true := by simp [h1, h2]
      rw [e]; clear h1 h2 e
      go_enter Tryz.func210, Tryz.ntmps210
      go_wp2
      go_ret
      exact ⟨rfl, ((Below.refl _ _).alloc (Nat.le_refl _) _).alloc (by simp) _⟩
    · have hf : (b == d) = false := by simpa using h2
      have e : (decide (a = c) && decide (b = d)) = false := by simp [h2]
      rw [e]; clear h1 h2 e
      go_enter Tryz.func210, Tryz.ntmps210
      go_wp2
      go_ret
      exact ⟨rfl, ((Below.refl _ _).alloc (Nat.le_refl _) _).alloc (by simp) _⟩
  · have he : (a == c) = false := by simpa using h1
    have e : (decide (a = c) && decide (b = d)) = false := by simp [h1]
    rw [e]; clear h1 e
    go_enter Tryz.func210, Tryz.ntmps210
    go_wp2
    go_ret
    exact ⟨rfl, ((Below.refl _ _).alloc (Nat.le_refl _) _).alloc (by simp) _⟩
theorem rvalid_any (a b : Int) (w : World) (h0 : 0 ≤ a) (h1 : a ≤ 4294967295) :
    Calls Tryz.prog 110 #[.agg #[.int .u32 a, .int .i64 b]] w fun e w' => e = .returned (.bool (Ad.valid a b)) ∧ Below w.heap.size w w' := by
  rcases Int.lt_or_le b 0 with h | h
  · have e : Ad.valid a b = false := by unfold Ad.valid; simp; omega
    rw [e]
    have hd : decide (0 ≤ b) = false := by simpa using h
    go_enter Tryz.func110, Tryz.ntmps110
    go_wp2_with fail
    go_quiet (fail)
    go_wp2
    go_ret
    exact ⟨rfl, below_drewN ((Below.refl _ _).alloc (Nat.le_refl _) _) _⟩
  · rcases Int.lt_or_le 32 b with h2 | h2
    · have e : Ad.valid a b = false := by unfold Ad.valid; simp; omega
      rw [e]
      have hd : decide (b ≤ 32) = false := by simpa using h2
      go_enter Tryz.func110, Tryz.ntmps110
      go_wp2_with fail
      go_quiet (fail)
      go_wp2
      go_ret
      exact ⟨rfl, below_drewN ((Below.refl _ _).alloc (Nat.le_refl _) _) _⟩
    · have H := Lib.hid (Ad.andNot_mask a b h h2 h0 h1)
      go_enter Tryz.func110, Tryz.ntmps110
      go_wp2_with fail
      go_quiet ((go_at_call 111; exact (Calls.quiet_of_same ((rmask_any _ _).mono fun _ _ hh => ⟨hh.1, hh.2.symm⟩))))
      go_wp2
      go_ret
      refine ⟨ret_bool ?_, below_drewN ((Below.refl _ _).alloc (Nat.le_refl _) _) _⟩
      rw [H.out]
      unfold Ad.valid
      rw [Bool.eq_iff_iff]; simp [h, h2]
set_option maxHeartbeats 800000 in
theorem rin_any (a b x : Int) (w : World) (h0 : 0 ≤ a) (h1 : a ≤ 4294967295) (x0 : 0 ≤ x) (x1 : x ≤ 4294967295) :
    Calls Tryz.prog 51 #[.agg #[.int .u32 a, .int .i64 b], .int .u32 x] w fun e w' => e = .returned (.bool (Ad.isIn a b x)) ∧ Below w.heap.size w w' := by
  by_cases hv : Ad.valid a b = true
  · have hb : 0 ≤ b ∧ b ≤ 32 := by unfold Ad.valid at hv; simp at hv; omega
    have H := Lib.hid (Ad.and_mask x b hb.1 hb.2 x0 x1)
    have HV := Lib.hid hv
    clear hb hv
    go_enter Tryz.func51, Tryz.ntmps51
    go_wp2_with fail
    go_region_held3 (fun w' => w'.cell? ⟨w.heap.size, 0, none⟩ = some (.int .u32 a) ∧ w'.cell? ⟨w.heap.size, 1, none⟩ = some (.int .i64 b) ∧ w.heap.size < w'.heap.size ∧ Below w.heap.size w w')
      (first | exact two_new _ _ _ _ rfl | exact two_next (by assumption) (by assumption) | assumption)
      (first
      | (go_at_call 110; refine (rvalid_any a b _ h0 h1).mono ?_; rintro e w1 ⟨rfl, hb1⟩; rw [HV.out])
      | (go_at_call 111; refine (rmask_any b _).mono ?_; rintro e w1 ⟨rfl, rfl⟩))
    go_wp2
    go_ret
    rename_i hS
    refine ⟨ret_bool ?_, hS.2.2.2⟩
    rw [H.out]
    unfold Ad.isIn
    rw [HV.out, Bool.true_and, Bool.eq_iff_iff]
    simp
  · have hv' : Ad.valid a b = false := by simpa using hv
    have e : Ad.isIn a b x = false := by unfold Ad.isIn; rw [hv', Bool.false_and]
    rw [e]
    have HV := Lib.hid hv'
    clear hv hv' e
    go_enter Tryz.func51, Tryz.ntmps51
    go_wp2_with fail
    refine wp_region_any (by kernel_rfl) ?_
    change wpAny _ _ _ _ _ _ _ (World.drew _)
    refine wpAny_ready (rs := [0]) (by kernel_rfl) (by simp) ?_
    refine AllReady.cons rfl (fun K hK => ?_) AllReady.nil
    go_simp
    refine hK _ _ ?_; clear hK K
    refine wpAny_ready (rs := [1]) (by kernel_rfl) (by simp) ?_
    refine AllReady.cons rfl (fun K hK => ?_) AllReady.nil
    go_simp
    go_wp2_with (go_at_call 110; refine (rvalid_any a b _ h0 h1).mono ?_; rintro e w1 ⟨rfl, hb1⟩; rw [HV.out])
    refine wpAny_take (i := 2) (v := .bool false) rfl (by kernel_rfl) (by kernel_rfl) (by kernel_rfl) (fun _ _ _ h => h) (Or.inl ⟨by rfl, fun w => by go_simp⟩) ?_
    go_simp
    refine wpAny_take (i := 3) (v := undef) rfl (by kernel_rfl) (by kernel_rfl) (by kernel_rfl) (fun _ _ _ h => h) (Or.inr ⟨by rfl, rfl⟩) ?_
    go_simp
    refine wpAny_take (i := 4) (v := undef) rfl (by kernel_rfl) (by kernel_rfl) (by kernel_rfl) (fun _ _ _ h => h) (Or.inr ⟨by rfl, rfl⟩) ?_
    go_simp
    refine wpAny_take (i := 5) (v := undef) rfl (by kernel_rfl) (by kernel_rfl) (by kernel_rfl) (fun _ _ _ h => h) (Or.inr ⟨by rfl, rfl⟩) ?_
    go_simp
    refine wpAny_take (i := 6) (v := undef) rfl (by kernel_rfl) (by kernel_rfl) (by kernel_rfl) (fun _ _ _ h => h) (Or.inr ⟨by rfl, rfl⟩) ?_
    go_simp
    refine wpAny_take (i := 7) (v := undef) rfl (by kernel_rfl) (by kernel_rfl) (by kernel_rfl) (fun _ _ _ h => h) (Or.inr ⟨by rfl, rfl⟩) ?_
    go_simp
    refine wpAny_take (i := 8) (v := undef) rfl (by kernel_rfl) (by kernel_rfl) (by kernel_rfl) (fun _ _ _ h => h) (Or.inr ⟨by rfl, rfl⟩) ?_
    go_simp
    refine wpAny_take (i := 9) (v := undef) rfl (by kernel_rfl) (by kernel_rfl) (by kernel_rfl) (fun _ _ _ h => h) (Or.inr ⟨by rfl, rfl⟩) ?_
    go_simp
    refine wpAny_take (i := 10) (v := undef) rfl (by kernel_rfl) (by kernel_rfl) (by kernel_rfl) (fun _ _ _ h => h) (Or.inr ⟨by rfl, rfl⟩) ?_
    go_simp
    refine wpAny_take (i := 11) (v := .bool false) rfl (by kernel_rfl) (by kernel_rfl) (by kernel_rfl) (fun _ _ _ h => h) (Or.inl ⟨by rfl, fun w => by go_simp⟩) ?_
    go_simp
    refine wpAny_take (i := 12) (v := .bool false) rfl (by kernel_rfl) (by kernel_rfl) (by kernel_rfl) (fun _ _ _ h => h) (Or.inl ⟨by rfl, fun w => by go_simp⟩) ?_
    go_simp
    refine wpAny_done (by kernel_rfl) ?_ _
    go_wp2
    go_ret
    exact ⟨rfl, ((Below.refl _ _).alloc (Nat.le_refl _) _).drew.trans (hb1.mono (by simp))⟩
theorem rwithin_any (a b c d : Int) (w : World) (h0 : 0 ≤ a) (h1 : a ≤ 4294967295) (c0 : 0 ≤ c) (c1 : c ≤ 4294967295) :
    Calls Tryz.prog 207 #[.agg #[.int .u32 a, .int .i64 b], .agg #[.int .u32 c, .int .i64 d]] w fun e w' => e = .returned (.bool (Ad.within a b c d)) ∧ Below w.heap.size w w' := by
  by_cases hv : Ad.valid a b = true
  · have HV := Lib.hid hv
    clear hv
    by_cases hd : d ≤ b
    · have e : Ad.within a b c d = Ad.isIn c d a := by unfold Ad.within; rw [HV.out]; simp [hd]
      rw [e]; clear e
      have hd' : decide (d ≤ b) = true := by simpa using hd
      go_enter Tryz.func207, Tryz.ntmps207
      go_wp2_with (first
        | (go_at_call 110; refine (rvalid_any a b _ h0 h1).mono ?_; rintro e w1 ⟨rfl, hb1⟩; rw [HV.out]; obtain ⟨hc1, hc2, hc3, hc4, hc5, hc6, hc7⟩ := four_next (four_new (w := w) _ _ (.int .u32 a) (.int .i64 b) (.int .u32 c) (.int .i64 d) 123 rfl rfl) hb1; have HB := Lib.hid hc7; clear hc7 hb1)
        | (go_at_call 51; refine (rin_any c d a _ c0 c1 h0 h1).mono ?_; rintro e w1 ⟨rfl, hb1⟩))
      go_ret
      exact ⟨rfl, HB.out.trans (hb1.mono (by omega))⟩
    · have e : Ad.within a b c d = false := by unfold Ad.within; simp [hd]
      rw [e]; clear e
      have hd' : decide (d ≤ b) = false := by simpa using hd
      go_enter Tryz.func207, Tryz.ntmps207
      go_wp2_with (first
        | (go_at_call 110; refine (rvalid_any a b _ h0 h1).mono ?_; rintro e w1 ⟨rfl, hb1⟩; rw [HV.out]; obtain ⟨hc1, hc2, hc3, hc4, hc5, hc6, hc7⟩ := four_next (four_new (w := w) _ _ (.int .u32 a) (.int .i64 b) (.int .u32 c) (.int .i64 d) 123 rfl rfl) hb1; have HB := Lib.hid hc7; clear hc7 hb1))
      go_ret
      exact ⟨rfl, HB.out⟩
  · have hv' : Ad.valid a b = false := by simpa using hv
    have e : Ad.within a b c d = false := by unfold Ad.within; rw [hv', Bool.false_and]
    rw [e]
    have HV := Lib.hid hv'
    clear hv hv' e
    go_enter Tryz.func207, Tryz.ntmps207
    go_wp2_with (first
        | (go_at_call 110; refine (rvalid_any a b _ h0 h1).mono ?_; rintro e w1 ⟨rfl, hb1⟩; rw [HV.out]; obtain ⟨hc1, hc2, hc3, hc4, hc5, hc6, hc7⟩ := four_next (four_new (w := w) _ _ (.int .u32 a) (.int .i64 b) (.int .u32 c) (.int .i64 d) 123 rfl rfl) hb1; have HB := Lib.hid hc7; clear hc7 hb1))
    go_ret
    exact ⟨rfl, HB.out⟩
end Go.Proofs.YtdljpokhcfhhfaaGreatDoor

