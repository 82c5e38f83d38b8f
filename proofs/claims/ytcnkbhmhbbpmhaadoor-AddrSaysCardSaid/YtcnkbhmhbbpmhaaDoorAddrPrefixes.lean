/- AddrPrefixes: for every address and every two numbers the law returns true. -/
import Derived.Test.YtcnkbhmhbbpmhaaDoorAddrBack
import Derived.Test.YtcnkbhmhbbpmhaaDoorSee
namespace Go.Proofs.YtcnkbhmhbbpmhaaDoor
open Go.RowKit
namespace Ad
theorem one_bit (a k j : Int) (_h0 : 0 ≤ a) (_h1 : a ≤ 4294967295) (hk0 : 0 ≤ k) (hj0 : 0 ≤ j) (hj1 : k + j ≤ 31) :
    ∃ X Q : Int, 2 ^ (31 - (k + j)).toNat % 4294967296 = X ∧ bits .or .u32 (cut a k) X = Q ∧ 0 ≤ Q ∧ Q ≤ 4294967295 ∧ valid Q k = false ∧ isIn (cut a k) k Q = true := by
  refine ⟨_, _, rfl, rfl, ?_⟩
  rw [pow_small (k + j) (by omega) (by omega)]
  have hc := cut_bd a (fr k) _h0 _h1
  have hm := cut_mod a (fr k)
  have hv := valid_cut a k hk0 (by omega)
  change 0 ≤ cut a k ∧ cut a k ≤ _ at hc
  change cut a k % 2 ^ fr k = 0 at hm
  generalize cut a k = A at *
  have hlt : (31 - (k + j)).toNat < fr k := by unfold fr; omega
  have hp1 := two_pos (31 - (k + j)).toNat
  have hlt2 : (2 : Int) ^ (31 - (k + j)).toNat < 2 ^ fr k := by
    have : (2 : Nat) ^ (31 - (k + j)).toNat < 2 ^ fr k := Nat.pow_lt_pow_right (by decide) hlt
    rw [← cast_two, ← cast_two]; omega
  have hle : (2 : Int) ^ (31 - (k + j)).toNat ≤ 2147483648 := by
    have : (2 : Nat) ^ (31 - (k + j)).toNat ≤ 2 ^ 31 := Nat.pow_le_pow_right (by decide) (by omega)
    rw [← cast_two]; omega
  have hfr := fr_le k hk0
  have hup : A + 2 ^ fr k ≤ 4294967296 := by
    have hd := two_dvd hfr
    have e1 : A = A / 2 ^ fr k * 2 ^ fr k := by
      have := Int.emod_add_mul_ediv A (2 ^ fr k)
      rw [hm, Int.mul_comm] at this; omega
    have e2 : (4294967296 : Int) = 4294967296 / 2 ^ fr k * 2 ^ fr k := by
      have := Int.emod_add_mul_ediv 4294967296 (2 ^ fr k)
      rw [hd, Int.mul_comm] at this; omega
    have hp := two_pos (fr k)
    have h3 : A / 2 ^ fr k < 4294967296 / 2 ^ fr k := by
      rcases Int.lt_or_le (A / 2 ^ fr k) (4294967296 / 2 ^ fr k) with h | h
      · exact h
      · have := Int.mul_le_mul_of_nonneg_right h (show (0 : Int) ≤ 2 ^ fr k by omega)
        omega
    have h4 := Int.mul_le_mul_of_nonneg_right (show A / 2 ^ fr k + 1 ≤ 4294967296 / 2 ^ fr k by omega) (show (0 : Int) ≤ 2 ^ fr k by omega)
    rw [Int.add_mul, Int.one_mul] at h4
    omega
  rw [or_join A _ (fr k) hc.1 hc.2 hm (by omega) hlt2 (by omega)]
  have hmod : (A + 2 ^ (31 - (k + j)).toNat) % 2 ^ fr k = 2 ^ (31 - (k + j)).toNat := by
    rw [Int.add_emod, hm, Int.zero_add, Int.emod_emod, Int.emod_eq_of_lt (by omega) hlt2]
  refine ⟨by omega, by omega, ?_, ?_⟩
  · unfold valid
    rw [hmod]
    simp
    intro _ _
    omega
  · unfold isIn
    rw [hv, hmod, Bool.true_and]
    simp
end Ad
theorem numText_any (n : Int) (w : World) (h0 : 0 ≤ n) (h1 : n ≤ 32) (hT : EnvT w) :
    Calls Tryd.prog 32 #[.int .i64 n] w fun e w' => e = .returned (.string ⟨(Lib.itoa n).toArray⟩) ∧ Below w.heap.size w w' := by
  have H := Lib.hid (itoa_any n (by omega) (by omega) w hT)
  clear hT
  go_enter Tryd.func32, Tryd.ntmps32
  go_wp2_with (go_at_call 39; refine H.out.mono ?_; rintro e w1 ⟨rfl, hb1⟩)
  go_ret
  exact ⟨rfl, hb1⟩
set_option maxRecDepth 100000 in
set_option maxHeartbeats 4000000 in
theorem law_prefixes (a n m : Int) (ads : List Addr) (b : Addr) (w : World) (hT : EnvT w) (hE : EnvP (ev b) w) (hS : EnvS ads w) (hb : ads[7]? = some b) (a0 : 0 ≤ a) (a1 : a ≤ 4294967295) :
    Calls Tryd.prog 7 #[.int .u32 a, .int .i64 n, .int .i64 m] w fun e w' => e = .returned (.bool true) ∧ Below w.heap.size w w' := by
  have HF := Lib.hid (first_any w hT)
  have HT := Lib.hid hT
  have HE := Lib.hid hE
  have HS := Lib.hid hS
  have HIs0 := (fun W h => is_any ads 7 b 108 W h (by decide) hb)
  rw [show (((101 + 7 : Nat) : Int) == 108) = true from rfl] at HIs0
  unfold ev at HIs0
  have HIs := Lib.hid HIs0
  clear HIs0
  clear hT hE hS hb
  have hk0 : 0 ≤ n % 32 := by omega
  have hk1 : n % 32 ≤ 31 := by omega
  have HN := Lib.hid (fun w => number_any n 32 w (by omega) (by omega))
  generalize n % 32 = k at hk0 hk1 HN
  have hj0 : 0 ≤ m % (32 - k) := Int.emod_nonneg _ (by omega)
  have hj1 : m % (32 - k) < 32 - k := Int.emod_lt_of_pos _ (by omega)
  have HM := Lib.hid (fun w => number_any m (32 - k) w (by omega) (by omega))
  generalize m % (32 - k) = j at hj0 hj1 HM
  have hA := Ad.and_mask a k hk0 (by omega) a0 a1
  obtain ⟨X, Q, hX, hQ, hQ0, hQ1, hvQ, hiQ⟩ := Ad.one_bit a k j a0 a1 hk0 hj0 (by omega)
  have hv := Ad.valid_cut a k hk0 (by omega)
  have hA2 := Ad.cut_bd a (Ad.fr k) a0 a1
  change _ = Ad.cut a k at hA
  change 0 ≤ Ad.cut a k ∧ Ad.cut a k ≤ _ at hA2
  generalize Ad.cut a k = A at *
  obtain ⟨hA0, hA1⟩ := hA2
  have hcat1 := cat1 Q hQ0 hQ1
  have hcat2 := cat2 Q k hQ0 hQ1 hk0 (by omega)
  have HV1 := Lib.hid (fun W => valid_any A k W hA0 hA1)
  rw [hv] at HV1
  have HV2 := Lib.hid (fun W => valid_any Q k W hQ0 hQ1)
  rw [hvQ] at HV2
  have HI1 := Lib.hid (fun W => in_any Q k Q W hQ0 hQ1 hQ0 hQ1)
  rw [show Ad.isIn Q k Q = false by unfold Ad.isIn; rw [hvQ]; rfl] at HI1
  have HI2 := Lib.hid (fun W => in_any A k Q W hA0 hA1 hQ0 hQ1)
  rw [hiQ] at HI2
  have HP1 := Lib.hid (fun W h => pref_any (Ad.pfx Q k) 122 b W (pfx_short Q k hQ0 hQ1 hk0 (by omega)) h)
  rw [Ad.pref_pfx hQ0 hQ1 hk0 (by omega), if_neg (by rw [hvQ]; decide)] at HP1
  have HP2 := Lib.hid (fun W h => pref_any (Ad.text A) 122 b W (text_short A hA0 hA1) h)
  rw [Ad.pref_text hA0 hA1] at HP2
  clear hv hvQ hiQ
  go_enter Tryd.func7, Tryd.ntmps7
  go_wp2_with (first
    | (go_at_call 9; refine HF.out.mono ?_; rintro e w1 ⟨rfl, hb1⟩; have HB1 := Lib.hid hb1; clear hb1)
    | (go_at_call_of 30 (Value.int IntKind.i64 n); refine (HN.out _).mono ?_; rintro e w2 ⟨rfl, rfl⟩)
    | (go_at_call_of 30 (Value.int IntKind.i64 m); refine (HM.out _).mono ?_; rintro e w2 ⟨rfl, rfl⟩)
    | (go_at_call 19; refine (mask_any _ _).mono ?_; rintro e w2 ⟨rfl, rfl⟩))
  have hW := (HB1.out.alloc HB1.out.size (.cells #[.int .u32 A, .int .i64 k] 25)).alloc (Nat.le_trans HB1.out.size (by simp)) (.cells #[.int .u32 Q, .int .i64 k] 25)
  have HP0 := Lib.hid ((Blk.new w1 25 #[.int .u32 A, .int .i64 k]).alloc (.cells #[.int .u32 Q, .int .i64 k] 25))
  have hq := Blk.new (w1.alloc (.cells #[.int .u32 A, .int .i64 k] 25)) 25 #[.int .u32 Q, .int .i64 k]
  rw [show (w1.alloc (.cells #[.int .u32 A, .int .i64 k] 25)).heap.size = w1.heap.size + 1 by simp] at hq
  have HQ0 := Lib.hid hq
  have HW0 := Lib.hid hW
  clear hW hq
  refine (text_any Q _ hQ0 hQ1 (HT.out.below HW0.out)).mono ?_
  rintro e w2 ⟨rfl, hb⟩
  have HW1 := Lib.hid (HW0.out.trans (hb.mono HW0.out.size))
  have HP1 := Lib.hid (HP0.out.next hb)
  have HQ1 := Lib.hid (HQ0.out.next hb)
  clear hb HW0 HP0 HQ0
  go_wp2_with fail
  refine (numText_any k _ hk0 (by omega) (HT.out.below HW1.out)).mono ?_
  rintro e w3 ⟨rfl, hb⟩
  have HW2 := Lib.hid (HW1.out.trans (hb.mono HW1.out.size))
  have HP2 := Lib.hid (HP1.out.next hb)
  have HQ2 := Lib.hid (HQ1.out.next hb)
  clear hb HW1 HP1 HQ1
  go_wp2_with fail
  refine (HP1.out _ (HE.out.below HW2.out)).mono ?_
  rintro e w4 ⟨rfl, hb⟩
  have HW3 := Lib.hid (HW2.out.trans (hb.mono HW2.out.size))
  have HP3 := Lib.hid (HP2.out.next hb)
  have HQ3 := Lib.hid (HQ2.out.next hb)
  clear hb HW2 HP2 HQ2
  have hp0 : w4.cell? ⟨w1.heap.size, 0, none⟩ = some (.int .u32 A) := HP3.out.cell 0
  have hp1 : w4.cell? ⟨w1.heap.size, 1, none⟩ = some (.int .i64 k) := HP3.out.cell 1
  have hq0 : w4.cell? ⟨w1.heap.size + 1, 0, none⟩ = some (.int .u32 Q) := HQ3.out.cell 0
  have hq1 : w4.cell? ⟨w1.heap.size + 1, 1, none⟩ = some (.int .i64 k) := HQ3.out.cell 1
  have hpl : w1.heap.size < w4.heap.size := HP3.out.lt
  have hql : w1.heap.size + 1 < w4.heap.size := HQ3.out.lt
  simp only [prefV]
  go_wp2_with fail
  clear hp0 hp1 hq0 hq1 hpl hql
  refine (text_any A _ hA0 hA1 (HT.out.below (HW3.out.alloc HW3.out.size _))).mono ?_
  rintro e w5 ⟨rfl, hb⟩
  have HW4 := Lib.hid ((HW3.out.alloc HW3.out.size _).trans (hb.mono (Nat.le_trans HW3.out.size (by simp))))
  have HP4 := Lib.hid ((HP3.out.alloc _).next hb)
  have HQ4 := Lib.hid ((HQ3.out.alloc _).next hb)
  clear hb HW3 HP3 HQ3
  go_wp2_with fail
  refine (HP2.out _ (HE.out.below HW4.out)).mono ?_
  rintro e w6 ⟨rfl, hb⟩
  have HW5 := Lib.hid (HW4.out.trans (hb.mono HW4.out.size))
  have HP5 := Lib.hid (HP4.out.next hb)
  have HQ5 := Lib.hid (HQ4.out.next hb)
  clear hb HW4 HP4 HQ4
  have hp0 : w6.cell? ⟨w1.heap.size, 0, none⟩ = some (.int .u32 A) := HP5.out.cell 0
  have hp1 : w6.cell? ⟨w1.heap.size, 1, none⟩ = some (.int .i64 k) := HP5.out.cell 1
  have hq0 : w6.cell? ⟨w1.heap.size + 1, 0, none⟩ = some (.int .u32 Q) := HQ5.out.cell 0
  have hq1 : w6.cell? ⟨w1.heap.size + 1, 1, none⟩ = some (.int .i64 k) := HQ5.out.cell 1
  have hpl : w1.heap.size < w6.heap.size := HP5.out.lt
  have hql : w1.heap.size + 1 < w6.heap.size := HQ5.out.lt
  simp only [prefV]
  go_wp2_with fail
  clear hp0 hp1 hq0 hq1 hpl hql
  refine (HV1.out _).mono ?_
  rintro e w7 ⟨rfl, hb⟩
  have HW6 := Lib.hid ((HW5.out.alloc HW5.out.size _).trans (hb.mono (Nat.le_trans HW5.out.size (by simp))))
  have HP6 := Lib.hid ((HP5.out.alloc _).next hb)
  have HQ6 := Lib.hid ((HQ5.out.alloc _).next hb)
  clear hb HW5 HP5 HQ5
  have hp0 : w7.cell? ⟨w1.heap.size, 0, none⟩ = some (.int .u32 A) := HP6.out.cell 0
  have hp1 : w7.cell? ⟨w1.heap.size, 1, none⟩ = some (.int .i64 k) := HP6.out.cell 1
  have hq0 : w7.cell? ⟨w1.heap.size + 1, 0, none⟩ = some (.int .u32 Q) := HQ6.out.cell 0
  have hq1 : w7.cell? ⟨w1.heap.size + 1, 1, none⟩ = some (.int .i64 k) := HQ6.out.cell 1
  have hpl : w1.heap.size < w7.heap.size := HP6.out.lt
  have hql : w1.heap.size + 1 < w7.heap.size := HQ6.out.lt
  go_wp2_with fail
  refine (HV2.out _).mono ?_
  rintro e w8 ⟨rfl, hb⟩
  clear hp0 hp1 hq0 hq1 hpl hql
  have HW7 := Lib.hid (HW6.out.trans (hb.mono HW6.out.size))
  have HP7 := Lib.hid (HP6.out.next hb)
  have HQ7 := Lib.hid (HQ6.out.next hb)
  clear hb HW6 HP6 HQ6
  have hp0 : w8.cell? ⟨w1.heap.size, 0, none⟩ = some (.int .u32 A) := HP7.out.cell 0
  have hp1 : w8.cell? ⟨w1.heap.size, 1, none⟩ = some (.int .i64 k) := HP7.out.cell 1
  have hq0 : w8.cell? ⟨w1.heap.size + 1, 0, none⟩ = some (.int .u32 Q) := HQ7.out.cell 0
  have hq1 : w8.cell? ⟨w1.heap.size + 1, 1, none⟩ = some (.int .i64 k) := HQ7.out.cell 1
  have hpl : w1.heap.size < w8.heap.size := HP7.out.lt
  have hql : w1.heap.size + 1 < w8.heap.size := HQ7.out.lt
  go_wp2_with fail
  refine (HI1.out _).mono ?_
  rintro e w9 ⟨rfl, hb⟩
  clear hp0 hp1 hq0 hq1 hpl hql
  have HW8 := Lib.hid (HW7.out.trans (hb.mono HW7.out.size))
  have HP8 := Lib.hid (HP7.out.next hb)
  have HQ8 := Lib.hid (HQ7.out.next hb)
  clear hb HW7 HP7 HQ7
  have hp0 : w9.cell? ⟨w1.heap.size, 0, none⟩ = some (.int .u32 A) := HP8.out.cell 0
  have hp1 : w9.cell? ⟨w1.heap.size, 1, none⟩ = some (.int .i64 k) := HP8.out.cell 1
  have hq0 : w9.cell? ⟨w1.heap.size + 1, 0, none⟩ = some (.int .u32 Q) := HQ8.out.cell 0
  have hq1 : w9.cell? ⟨w1.heap.size + 1, 1, none⟩ = some (.int .i64 k) := HQ8.out.cell 1
  have hpl : w1.heap.size < w9.heap.size := HP8.out.lt
  have hql : w1.heap.size + 1 < w9.heap.size := HQ8.out.lt
  go_wp2_with fail
  refine (HI2.out _).mono ?_
  rintro e w10 ⟨rfl, hb⟩
  clear hp0 hp1 hq0 hq1 hpl hql
  have HW9 := Lib.hid (HW8.out.trans (hb.mono HW8.out.size))
  have HP9 := Lib.hid (HP8.out.next hb)
  have HQ9 := Lib.hid (HQ8.out.next hb)
  clear hb HW8 HP8 HQ8
  go_wp2_with fail
  refine (HIs.out _ (HS.out.below HW9.out)).mono ?_
  rintro e w11 ⟨rfl, hb⟩
  have HW10 := Lib.hid (HW9.out.trans (hb.mono HW9.out.size))
  have HP10 := Lib.hid (HP9.out.next hb)
  have HQ10 := Lib.hid (HQ9.out.next hb)
  clear hb HW9 HP9 HQ9
  go_wp2_with fail
  refine (HIs.out _ (HS.out.below HW10.out)).mono ?_
  rintro e w12 ⟨rfl, hb⟩
  have HW11 := Lib.hid (HW10.out.trans (hb.mono HW10.out.size))
  have HP11 := Lib.hid (HP10.out.next hb)
  have HQ11 := Lib.hid (HQ10.out.next hb)
  clear hb HW10 HP10 HQ10
  go_wp2
  go_ret
  exact ⟨rfl, HW11.out⟩
end Go.Proofs.YtcnkbhmhbbpmhaaDoor
