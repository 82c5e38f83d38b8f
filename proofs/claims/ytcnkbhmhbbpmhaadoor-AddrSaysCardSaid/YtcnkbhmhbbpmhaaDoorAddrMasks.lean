/- AddrMasks: for every address, every other one and every two numbers the law returns true. -/
import Derived.Test.YtcnkbhmhbbpmhaaDoorText
namespace Go.Proofs.YtcnkbhmhbbpmhaaDoor
open Go.RowKit
namespace Ad
theorem pow_mod {i j : Nat} (h : i ≤ j) (x : Int) : x % 2 ^ j % 2 ^ i = x % 2 ^ i := by
  have : (2 : Int) ^ i ∣ 2 ^ j := ⟨2 ^ (j - i), by rw [← Int.pow_add, Nat.add_sub_cancel' h]⟩
  exact Int.emod_emod_of_dvd x this
theorem cut_mod (x : Int) (k : Nat) : (x - x % 2 ^ k) % 2 ^ k = 0 := by
  rw [Int.sub_emod, Int.emod_emod, Int.sub_self, Int.zero_emod]
theorem mod_le (x : Int) (k : Nat) (h0 : 0 ≤ x) : 0 ≤ x % 2 ^ k ∧ x % 2 ^ k ≤ x ∧ x % 2 ^ k < 2 ^ k := by
  have hp := two_pos k
  refine ⟨Int.emod_nonneg x (by omega), ?_, Int.emod_lt_of_pos x (by omega)⟩
  obtain ⟨n, rfl⟩ := Int.eq_ofNat_of_zero_le h0
  rw [← cast_two, ← Int.natCast_emod]
  exact Int.ofNat_le.2 (Nat.mod_le _ _)
theorem cut_bd (x : Int) (k : Nat) (h0 : 0 ≤ x) (h1 : x ≤ 4294967295) : 0 ≤ x - x % 2 ^ k ∧ x - x % 2 ^ k ≤ 4294967295 := by
  have := mod_le x k h0
  omega
theorem cut_cut (x : Int) {j i : Nat} (h : j ≤ i) (h0 : 0 ≤ x) : (x - x % 2 ^ j) - (x - x % 2 ^ j) % 2 ^ i = x - x % 2 ^ i := by
  have e : (x - x % 2 ^ j) % 2 ^ i = x % 2 ^ i - x % 2 ^ j := by
    have hi := mod_le x i h0
    have hj := mod_le (x % 2 ^ i) j hi.1
    rw [pow_mod h] at hj
    have e2 : x - x % 2 ^ j = (x % 2 ^ i - x % 2 ^ j) + x / 2 ^ i * 2 ^ i := by
      have := Int.emod_add_mul_ediv x (2 ^ i)
      rw [Int.mul_comm] at this
      omega
    rw [e2, Int.add_mul_emod_self_right, Int.emod_eq_of_lt (by omega) (by omega)]
  rw [e]; omega
theorem fr_mono {k m : Int} (h : k ≤ m) : fr m ≤ fr k := by unfold fr; omega
def cut (x b : Int) : Int := x - x % 2 ^ fr b
theorem valid_cut (x b : Int) (h0 : 0 ≤ b) (h1 : b ≤ 32) : valid (cut x b) b = true := by
  unfold valid cut; simp [h0, h1]
theorem isIn_cut (x b : Int) (h0 : 0 ≤ b) (h1 : b ≤ 32) : isIn (cut x b) b x = true := by
  unfold isIn; rw [valid_cut x b h0 h1]; simp [cut]
theorem isIn_cut_iff (x y b : Int) (h0 : 0 ≤ b) (h1 : b ≤ 32) : isIn (cut x b) b y = decide (cut y b = cut x b) := by
  unfold isIn; rw [valid_cut x b h0 h1]; rfl
theorem within_cut (x k m : Int) (hx : 0 ≤ x) (h0 : 0 ≤ k) (h1 : k ≤ m) (h2 : m ≤ 32) : within (cut x m) m (cut x k) k = true := by
  unfold within
  rw [valid_cut x m (by omega) h2, isIn_cut_iff x _ k h0 (by omega)]
  simp [h1]
  exact cut_cut x (fr_mono h1) hx
theorem within_back (x k m : Int) (hx : 0 ≤ x) (h0 : 0 ≤ k) (h1 : k ≤ m) (h2 : m ≤ 32) : within (cut x k) k (cut x m) m = (k == m) := by
  by_cases h : k = m
  · subst h
    rw [within_cut x k k hx h0 (by omega) h2]; simp
  · have : ¬ m ≤ k := by omega
    unfold within
    simp [this, h]
theorem isIn_up (x y k m : Int) (hx : 0 ≤ x) (hy : 0 ≤ y) (h0 : 0 ≤ k) (h1 : k ≤ m) (h2 : m ≤ 32) (h : isIn (cut x m) m y = true) : isIn (cut x k) k y = true := by
  rw [isIn_cut_iff x y m (by omega) h2] at h
  rw [isIn_cut_iff x y k h0 (by omega)]
  simp at h ⊢
  have e1 := cut_cut x (fr_mono h1) hx
  have e2 := cut_cut y (fr_mono h1) hy
  unfold cut at h ⊢
  rw [h] at e2
  rw [← e2, ← e1]
theorem pow_small (k : Int) (h0 : 0 ≤ k) (h1 : k ≤ 31) : (2 : Int) ^ (31 - k).toNat % 4294967296 = 2 ^ (31 - k).toNat := by
  have h : ∀ j : Fin 32, (2 : Int) ^ j.val % 4294967296 = 2 ^ j.val := by decide +kernel
  exact h ⟨(31 - k).toNat, by omega⟩
theorem mask_xor (k : Int) (h0 : 0 ≤ k) (h1 : k ≤ 31) : bits .xor .u32 (mask (k + 1)) (mask k) = 2 ^ (31 - k).toNat := by
  have h : ∀ j : Fin 32, bits .xor .u32 (mask ((j.val : Int) + 1)) (mask (j.val : Int)) = 2 ^ (31 - (j.val : Int)).toNat := by decide +kernel
  obtain ⟨n, rfl⟩ := Int.eq_ofNat_of_zero_le h0
  exact h ⟨n, by omega⟩
end Ad
set_option maxRecDepth 100000 in
set_option maxHeartbeats 16000000 in
theorem law_masks (a b n m : Int) (w : World) (hT : EnvT w) (a0 : 0 ≤ a) (a1 : a ≤ 4294967295) (b0 : 0 ≤ b) (b1 : b ≤ 4294967295) :
    Calls Tryd.prog 5 #[.int .u32 a, .int .u32 b, .int .i64 n, .int .i64 m] w fun e w' => e = .returned (.bool true) ∧ Below w.heap.size w w' := by
  have HF := Lib.hid (first_any w hT)
  have hk0 : 0 ≤ n % 33 := by omega
  have hk1 : n % 33 ≤ 32 := by omega
  have HN := Lib.hid (fun w => number_any n 33 w (by omega) (by omega))
  generalize n % 33 = k at hk0 hk1 HN
  have hj0 : 0 ≤ m % (33 - k) := Int.emod_nonneg _ (by omega)
  have hj1 : m % (33 - k) < 33 - k := Int.emod_lt_of_pos _ (by omega)
  have HM := Lib.hid (fun w => number_any m (33 - k) w (by omega) (by omega))
  generalize m % (33 - k) = j at hj0 hj1 HM
  have hA := Ad.and_mask a k hk0 hk1 a0 a1
  have hB := Ad.and_mask a (k + j) (by omega) (by omega) a0 a1
  have HW1 := Lib.hid (Ad.within_cut a k (k + j) a0 hk0 (by omega) (by omega))
  have HW2 := Lib.hid (Ad.within_back a k (k + j) a0 hk0 (by omega) (by omega))
  have HI1 := Lib.hid (Ad.isIn_cut a k hk0 hk1)
  have HI2 := Lib.hid (Ad.isIn_cut a (k + j) (by omega) (by omega))
  have HU := Lib.hid (Ad.isIn_up a b k (k + j) a0 b0 hk0 (by omega) (by omega))
  have hA2 := Ad.cut_bd a (Ad.fr k) a0 a1
  have hB2 := Ad.cut_bd a (Ad.fr (k + j)) a0 a1
  change _ = Ad.cut a k at hA
  change _ = Ad.cut a (k + j) at hB
  change 0 ≤ Ad.cut a k ∧ Ad.cut a k ≤ _ at hA2
  change 0 ≤ Ad.cut a (k + j) ∧ Ad.cut a (k + j) ≤ _ at hB2
  generalize Ad.cut a k = A at *
  generalize Ad.cut a (k + j) = B at *
  obtain ⟨hA0, hA1⟩ := hA2
  obtain ⟨hB0, hB1⟩ := hB2
  have hx : k ≤ 31 → bits .xor .u32 (Ad.mask (k + 1)) (Ad.mask k) = 2 ^ (31 - k).toNat := Ad.mask_xor k hk0
  have HX := Lib.hid hx
  clear hT hx
  have hm0 : Ad.mask 0 = 0 := rfl
  have hm3 : Ad.mask (-3) = 0 := rfl
  have hm40 : Ad.mask 40 = 4294967295 := rfl
  have HJ : (Hid (Ad.within A k B (k + j) = true) ∧ (k == k + j) = true) ∨ (Hid (Ad.within A k B (k + j) = false) ∧ (k == k + j) = false) := by
    by_cases h : j ≤ 0
    · have e : (k == k + j) = true := by simp; omega
      exact .inl ⟨HW2.out.trans e, e⟩
    · have e : (k == k + j) = false := by simp; omega
      exact .inr ⟨HW2.out.trans e, e⟩
  clear HW2
  have HI3 : Hid ((Ad.isIn B (k + j) b = true ∧ Ad.isIn A k b = true) ∨ Ad.isIn B (k + j) b = false) := by
    by_cases h : Ad.isIn B (k + j) b = true
    · exact .inl ⟨h, HU.out h⟩
    · exact .inr (by simpa using h)
  clear HU
  rcases HI3.out with ⟨hI3, hI4⟩ | hI3
  all_goals
    have HI3' := Lib.hid hI3
    clear hI3 HI3
  have HI4 := Lib.hid hI4
  clear hI4
  all_goals
    rcases HJ with ⟨HW2, hj⟩ | ⟨HW2, hj⟩
  all_goals
    obtain rfl | h32 : k = 32 ∨ ((k == 32) = false ∧ k ≤ 31) := by
      by_cases h : k = 32
      · exact .inl h
      · exact .inr ⟨by simp [h], by omega⟩
  any_goals
    obtain ⟨h32, h31⟩ := h32
    obtain ⟨X, hx, hx2⟩ : ∃ X, bits .xor .u32 (Ad.mask (k + 1)) (Ad.mask k) = X ∧ 2 ^ (31 - k).toNat % 4294967296 = X := ⟨_, rfl, (Ad.pow_small k hk0 h31).trans (HX.out h31).symm⟩
    clear HX
  all_goals
    go_enter Tryd.func5, Tryd.ntmps5
    go_wp2_with (first
      | (go_at_call 9; refine HF.out.mono ?_; rintro e w1 ⟨rfl, hb1⟩; have HB1 := Lib.hid hb1; clear hb1)
      | (go_at_call_of 30 (Value.int IntKind.i64 33); refine (HN.out _).mono ?_; rintro e w2 ⟨rfl, rfl⟩)
      | (go_at_call_of 30 (Value.int IntKind.i64 m); refine (HM.out _).mono ?_; rintro e w2 ⟨rfl, rfl⟩)
      | (go_at_call 19; refine (mask_any _ _).mono ?_; rintro e w2 ⟨rfl, rfl⟩)
      | (go_at_call 25; refine (within_any _ _ _ _ _ (by omega) (by omega) (by omega) (by omega)).mono ?_; rintro e w2 ⟨rfl, hb⟩
         first
         | (rw [HW1.out]; obtain ⟨hc1, hc2, hc3, hc4, hc5, hc6, hc7⟩ := four_next (four_new _ _ _ _ _ _ _ rfl rfl) hb; clear hb)
         | (rw [HW2.out]; obtain ⟨hc1, hc2, hc3, hc4, hc5, hc6, hc7⟩ := four_next ⟨hc1, hc2, hc3, hc4, hc5, hc6, hc7⟩ hb; clear hb))
      | (go_at_call 23; refine (in_any _ _ _ _ (by omega) (by omega) (by omega) (by omega)).mono ?_; rintro e w2 ⟨rfl, hb⟩
         first | rw [HI1.out] | rw [HI2.out] | rw [HI3'.out] | rw [HI4.out]
         obtain ⟨hc1, hc2, hc3, hc4, hc5, hc6, hc7⟩ := four_next ⟨hc1, hc2, hc3, hc4, hc5, hc6, hc7⟩ hb; clear hb))
  all_goals
    go_ret
    exact ⟨rfl, HB1.out.trans (hc7.mono HB1.out.size)⟩
end Go.Proofs.YtcnkbhmhbbpmhaaDoor
