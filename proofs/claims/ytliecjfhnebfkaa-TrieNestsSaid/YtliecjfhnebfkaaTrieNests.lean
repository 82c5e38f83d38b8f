/- The statement on prefixes within one another, walked. -/
import Derived.Test.YtliecjfhnebfkaaTf
import Derived.Test.YtliecjfhnebfkaaTn
import Derived.Test.YtliecjfhnebfkaaRef
namespace Go.Proofs.Ytliecjfhnebfkaa
open Go.RowKit
theorem flip_int (n m : Nat) (hn : n ≤ 4294967295) (hm : m ≤ 31) : bits .xor .u32 (n : Int) (2 ^ m % 4294967296) = ((n ^^^ 2 ^ m : Nat) : Int) ∧ n ^^^ 2 ^ m ≤ 4294967295 := by
  have h1 : (2 : Nat) ^ m < 2 ^ 32 := Nat.pow_lt_pow_right (by omega) (by omega)
  have e : (2 : Int) ^ m % 4294967296 = ((2 ^ m : Nat) : Int) := by
    rw [← Ad.cast_two]
    generalize 2 ^ m = q at *
    omega
  rw [e, u32_xor_nat n (2 ^ m) (by omega) (by omega)]
  have := Nat.xor_lt_two_pow (show n < 2 ^ 32 by omega) h1
  exact ⟨rfl, by omega⟩
set_option maxRecDepth 100000 in
set_option maxHeartbeats 2000000 in
theorem law_nests (a n out : Int) (w : World) (a0 : 0 ≤ a) (a1 : a ≤ 4294967295) :
    Calls Try.prog 4 #[.int .u32 a, .int .i64 n, .int .i64 out] w fun e w' => e = .returned (.bool true) ∧ Below w.heap.size w w' := by
  obtain ⟨m, hm, hm32⟩ : ∃ m : Nat, n % 33 = m ∧ m ≤ 32 := ⟨(n % 33).toNat, by omega, by omega⟩
  have N1 := fun W => number_any n 33 W (by omega) (by omega)
  rw [hm] at N1
  clear hm
  generalize hB : w.heap.size = B at *
  go_enter Try.func4, Try.ntmps4
  go_wp2_with fail
  refine (first_any w).mono ?_
  rintro e w1 ⟨rfl, hb1⟩
  rw [hB] at hb1
  go_wp2_with fail
  refine (N1 w1).mono ?_
  rintro e w2 ⟨rfl, rfl⟩
  have hs : B ≤ w1.heap.size := by have := hb1.size; omega
  have h0 : OT B (w1.alloc (.cells #[.map none] 31)) w1.heap.size [] := OT.new w1 hs
  have hb0 := hb1.alloc hs (.cells #[.map none] 31)
  clear hb1 N1
  go_wp2_with fail
  generalize w1.alloc (.cells #[.map none] 31) = w2 at *
  generalize w1.heap.size = N at *
  go_loopw [9] (fun i wr => ∃ k : Nat, k ≤ m + 1 ∧ i = .int .i64 k ∧ OT B wr N (Tr.nest a k) ∧ Below B w wr) (fun i _ => m + 1 - (intOf i).toNat)
  case atStart => exact ⟨0, by omega, rfl, h0, hb0⟩
  case round =>
    obtain ⟨k, hk, rfl, hO, hb⟩ := hrel
    have hsz : B ≤ wr.heap.size := by have := hb.size; omega
    rcases Nat.lt_or_ge k (m + 1) with hlt | hge
    · have hlt' : (k : Int) ≤ (m : Int) := by omega
      have A1 := Lib.hid (ar_mask a k (by omega) a0 a1)
      have A2 := Lib.hid (ar_valid a k (by omega))
      have A3 : Hid (Tr.putv (Tr.nest a k) (Tr.ar a k, (k : Int)) (k : Int) = Tr.nest a (k + 1)) := Lib.hid (by unfold Tr.putv; rw [if_pos A2.out, Tr.put_nest])
      have A4 : Hid (wfP (Tr.ar a k, (k : Int))) := Lib.hid ⟨ar_bd a k a0 a1, by omega⟩
      have hlen := Lib.hid (Tr.nest_len a k)
      clear h0 hb0
      go_wp2_with fail
      refine (rmask_any _ _).mono ?_
      rintro e w3 ⟨rfl, rfl⟩
      go_wp2_with fail
      rw [A1.out]
      refine (ot_put _ _ _ _ hO hsz A4.out (by rw [hlen.out]; omega) (Nat.le_trans (Tr.nest_short a k _) (by omega))).mono ?_
      rintro e w4 ⟨rfl, hO4, hb4⟩
      rw [A2.out]
      rw [A3.out] at hO4
      have hB4 := hb.trans hb4
      clear hO hb hb4
      go_wp2
      go_roundw
      case rel => exact ⟨k + 1, by omega, by go_num, hO4, hB4⟩
      case measure => simp [intOf]; omega
    · obtain rfl : k = m + 1 := by omega
      have hd : decide (((m + 1 : Nat) : Int) ≤ (m : Int)) = false := by simp; omega
      have hd' : ¬ ((m + 1 : Nat) : Int) ≤ (m : Int) := by omega
      have L1 := Lib.hid (Tr.look_nest a m hm32)
      clear h0 hb0
      go_wp2_with fail
      refine (ot_look _ a hO a0 a1 (fun p => Nat.le_trans (Tr.nest_short a _ p) (by omega))).mono ?_
      rintro e w5 ⟨hb5, hp⟩
      rcases hp with ⟨hl, _⟩ | ⟨k, xs, v, hl, rfl, hown⟩
      · rw [L1.out] at hl; cases hl
      rw [L1.out] at hl
      simp only [Option.some.injEq, Prod.mk.injEq] at hl
      obtain ⟨rfl, rfl⟩ := hl
      obtain ⟨A, c, rfl, hJ⟩ := own_jr hown
      have hO5 := hO.next hb5
      have hB5 := hb.trans (hb5.mono hsz)
      have hs5 : B ≤ w5.heap.size := by have := hB5.size; omega
      have hB6 := hB5.alloc hs5 (.cells #[.int .u32 (Tr.ar a m), .int .i64 (m : Int)] 27)
      have hO6 := hO5.next ((Below.refl _ _).alloc (Nat.le_refl _) (.cells #[.int .u32 (Tr.ar a m), .int .i64 (m : Int)] 27))
      have hJ6 := hJ.next ((Below.refl _ _).alloc (Nat.le_refl _) (.cells #[.int .u32 (Tr.ar a m), .int .i64 (m : Int)] 27))
      have c6 : (w5.alloc (.cells #[.int .u32 (Tr.ar a m), .int .i64 (m : Int)] 27)).cell? ⟨w5.heap.size, 1, none⟩ = some (.int .i64 (m : Int)) := by go_simp
      clear hO hb hb5 hown hJ hO5 hB5 hd hge hk hd' hsz
      have hJ1 : JR ((w5.alloc (.cells #[.int .u32 (Tr.ar a m), .int .i64 (m : Int)] 27)).alloc (.cells #[.int .i64 (m : Int)] 3)) (some ⟨w5.heap.size + 1, 0, none⟩) 1 [(m : Int)] := by
        have := jr_one (w5.alloc (.cells #[.int .u32 (Tr.ar a m), .int .i64 (m : Int)] 27)) (m : Int) 3
        simpa using this
      have hs6 : B ≤ (w5.alloc (.cells #[.int .u32 (Tr.ar a m), .int .i64 (m : Int)] 27)).heap.size := by simp; omega
      go_wp2_with fail
      generalize w5.alloc (.cells #[.int .u32 (Tr.ar a m), .int .i64 (m : Int)] 27) = w6 at *
      refine (jsame_any A _ 1 1 c 1 [(m : Int)] [(m : Int)] _ (hJ6.next ((Below.refl _ _).alloc (Nat.le_refl _) _)) hJ1 (by omega) (by omega)).mono ?_
      rintro e w7 ⟨rfl, hb7⟩
      have hb6 := (Below.refl w6.heap.size w6).alloc (Nat.le_refl _) (.cells #[.int .i64 (m : Int)] 3)
      have hb67 := hb6.trans (hb7.mono hb6.size)
      have hO7 := hO6.next hb67
      have hB7 := hB6.trans (hb67.mono hs6)
      have hs7 : B ≤ w7.heap.size := by have := hB7.size; omega
      simp only [decide_true]
      clear hb7 hb6 hb67 hJ6 hJ1 hO6 hB6 c6 hs6 hs5
      rcases Nat.eq_zero_or_pos m with rfl | hpos
      · go_wp2
        go_ret
        exact ⟨rfl, hB7⟩
      obtain ⟨o, ho, hom⟩ : ∃ o : Nat, out % (m : Int) = o ∧ o < m := by
        have e0 := Int.emod_nonneg out (show (m : Int) ≠ 0 by omega)
        have e1 := Int.emod_lt_of_pos out (show 0 < (m : Int) by omega)
        exact ⟨(out % (m : Int)).toNat, by omega, by omega⟩
      have N2 := fun W => number_any out (m : Int) W (by omega) (by omega)
      rw [ho] at N2
      clear ho
      have hm0 : ((m : Int) == 0) = false := by simp; omega
      go_wp2_with fail
      refine (N2 w7).mono ?_
      rintro e w8 ⟨rfl, rfl⟩
      clear N2 hm0
      obtain ⟨an, rfl⟩ := Int.eq_ofNat_of_zero_le a0
      have ho1 : (0 : Int) ≤ 31 - (o : Int) := by omega
      have ho2 : (31 : Int) - (o : Int) < 32 := by omega
      obtain ⟨X1, X2⟩ := flip_int an (31 - o) (by omega) (by omega)
      have L2 := Lib.hid (Tr.look_flip an m o hom hm32)
      generalize an ^^^ 2 ^ (31 - o) = bn at *
      go_wp2_with fail
      refine (ot_look _ (bn : Int) hO7 (by omega) (by omega) (fun p => Nat.le_trans (Tr.nest_short _ _ p) (by omega))).mono ?_
      rintro e w9 ⟨hb9, hp⟩
      rcases hp with ⟨hl, _⟩ | ⟨k, xs, v, hl, rfl, hown⟩
      · rw [L2.out] at hl; cases hl
      rw [L2.out] at hl
      simp only [Option.some.injEq, Prod.mk.injEq] at hl
      obtain ⟨rfl, rfl⟩ := hl
      obtain ⟨A, c, rfl, hJ⟩ := own_jr hown
      have hO9 := hO7.next hb9
      have hB9 := hB7.trans (hb9.mono hs7)
      have hs9 : B ≤ w9.heap.size := by have := hB9.size; omega
      generalize Tr.ar (bn : Int) o = z at *
      have hB6 := hB9.alloc hs9 (.cells #[.int .u32 z, .int .i64 (o : Int)] 27)
      have hO6 := hO9.next ((Below.refl _ _).alloc (Nat.le_refl _) (.cells #[.int .u32 z, .int .i64 (o : Int)] 27))
      have hJ6 := hJ.next ((Below.refl _ _).alloc (Nat.le_refl _) (.cells #[.int .u32 z, .int .i64 (o : Int)] 27))
      have c6 : (w9.alloc (.cells #[.int .u32 z, .int .i64 (o : Int)] 27)).cell? ⟨w9.heap.size, 1, none⟩ = some (.int .i64 (o : Int)) := by go_simp
      have hJ1 : JR ((w9.alloc (.cells #[.int .u32 z, .int .i64 (o : Int)] 27)).alloc (.cells #[.int .i64 (o : Int)] 3)) (some ⟨w9.heap.size + 1, 0, none⟩) 1 [(o : Int)] := by
        have := jr_one (w9.alloc (.cells #[.int .u32 z, .int .i64 (o : Int)] 27)) (o : Int) 3
        simpa using this
      have hs6 : B ≤ (w9.alloc (.cells #[.int .u32 z, .int .i64 (o : Int)] 27)).heap.size := by simp; omega
      clear hO7 hb9 hown hJ hO9 hB9 X2 ho1 ho2 hB7 hs7
      go_wp2_with fail
      generalize w9.alloc (.cells #[.int .u32 z, .int .i64 (o : Int)] 27) = w6 at *
      refine (jsame_any A _ 1 1 c 1 [(o : Int)] [(o : Int)] _ (hJ6.next ((Below.refl _ _).alloc (Nat.le_refl _) _)) hJ1 (by omega) (by omega)).mono ?_
      rintro e w7 ⟨rfl, hb7⟩
      have hb6 := (Below.refl w6.heap.size w6).alloc (Nat.le_refl _) (.cells #[.int .i64 (o : Int)] 3)
      have hb67 := hb6.trans (hb7.mono hb6.size)
      have hO7 := hO6.next hb67
      have hB7 := hB6.trans (hb67.mono hs6)
      simp only [decide_true]
      clear hb7 hb6 hb67 hJ6 hJ1 hO6 hB6 c6 hs6 hs9
      go_wp2_with fail
      refine (ot_len w7 hO7).mono ?_
      rintro e w8 ⟨rfl, rfl⟩
      rw [Tr.nest_len]
      have hE : (((m + 1 : Nat) : Int) == (m : Int) + 1) = true := by simp
      go_wp2
      go_ret
      exact ⟨ret_bool (by simp), hB7⟩
end Go.Proofs.Ytliecjfhnebfkaa

