/- The statements of chapter 2, walked: the sum of any bytes, where it is put, whether it holds, are the document's. -/
import Derived.Test.YtfdckfbnfccmaaaRefS
namespace Go.Proofs.Ytfdckfbnfccmaaa
open Go.RowKit Sm
theorem first_any (w : World) : Calls Try.prog 8 #[] w fun e w' => e = .returned (.bool true) ∧ Below w.heap.size w w' := by
  have H := of_any none 0 0 [] w (BR.none_ _ _) (by omega)
  have e : sum [] = 65535 := by decide
  rw [e] at H
  go_enter Try.func8, Try.ntmps8
  go_wp2_with fail
  refine H.mono ?_
  rintro e w1 ⟨rfl, hb⟩
  go_wp2
  go_ret
  exact ⟨rfl, hb⟩
theorem says_any (A : Option Addr) (n c : Nat) (xs : List Int) (a : Int) (w : World) (h : BR w A n xs) :
    Calls Try.prog 3 #[.slice A n c, .int .i64 a] w fun e w' => e = .returned (.bool true) ∧ Below w.heap.size w w' := by
  rcases Nat.lt_or_ge 300 n with hn | hn
  · have hd : decide ((300 : Int) < (n : Int)) = true := by simp; omega
    go_enter Try.func3, Try.ntmps3
    go_wp2_with fail
    refine (first_any w).mono ?_
    rintro e w1 ⟨rfl, hb⟩
    go_wp2
    go_ret
    exact ⟨rfl, hb⟩
  · have hd : decide ((300 : Int) < (n : Int)) = false := by simp; omega
    have hn' : n ≤ 1048576 := by omega
    go_enter Try.func3, Try.ntmps3
    go_wp2_with fail
    refine (first_any w).mono ?_
    rintro e w1 ⟨rfl, hb1⟩
    have h1 := h.next hb1
    go_wp2_with fail
    refine (put_any A n c xs a w1 h1 hn').mono ?_
    rintro e w2 ⟨A2, c2, rfl, hown, hb2⟩
    obtain ⟨_, _, he, hnc, hr, _⟩ := own_form hown (put_b h.isB a)
    simp only [Value.slice.injEq, true_and] at he
    obtain ⟨rfl, rfl⟩ := he
    have h2 := h1.next hb2
    go_wp2_with fail
    refine (of_any A n c xs w2 h2 hn').mono ?_
    rintro e w3 ⟨rfl, hb3⟩
    have h3 := h2.next hb3
    go_wp2_with fail
    refine (rsum_any A n c xs w3 h3 hn').mono ?_
    rintro e w4 ⟨rfl, hb4⟩
    have h4 := h3.next hb4
    go_wp2_with fail
    refine (rput_any A n c xs a w4 h4 hn').mono ?_
    rintro e w5 ⟨A5, c5, rfl, hown5, hb5⟩
    obtain ⟨_, _, he, hnc5, hr5, _⟩ := own_form hown5 (put_b h.isB a)
    simp only [Value.slice.injEq, true_and] at he
    obtain ⟨rfl, rfl⟩ := he
    have h5 := h4.next hb5
    have hr2 := ((hr.next hb3).next hb4).next hb5
    go_wp2_with fail
    refine (same_any A2 A5 n n c2 c5 _ _ w5 hr2 hr5 hn' hn').mono ?_
    rintro e w6 ⟨rfl, hb6⟩
    have h6 := h5.next hb6
    rw [decide_eq_true (rfl : put xs a = put xs a)]
    go_wp2_with fail
    refine (check_any A n c xs w6 h6 hn').mono ?_
    rintro e w7 ⟨rfl, hb7⟩
    have h7 := h6.next hb7
    have hs0 : (sum xs == 0) = decide (oc (tot xs) = 65535) := by unfold sum; rw [Bool.eq_iff_iff]; simp; omega
    go_wp2_with fail
    refine (rsum_any A n c xs w7 h7 hn').mono ?_
    rintro e w8 ⟨rfl, hb8⟩
    have hB := below_next (below_next (below_next (below_next (below_next (below_next (below_next hb1 hb2) hb3) hb4) hb5) hb6) hb7) hb8
    go_wp2
    go_ret
    exact ⟨ret_bool (by simp), hB⟩
theorem tells_any (A : Option Addr) (n c : Nat) (xs : List Int) (a b : Int) (w : World) (h : BR w A n xs) :
    Calls Try.prog 4 #[.slice A n c, .int .i64 a, .int .i64 b] w fun e w' => e = .returned (.bool true) ∧ Below w.heap.size w w' := by
  rcases Nat.lt_or_ge 300 n with hn | hn
  · have hd : decide ((300 : Int) < (n : Int)) = true := by simp; omega
    go_enter Try.func4, Try.ntmps4
    go_wp2_with fail
    refine (first_any w).mono ?_
    rintro e w1 ⟨rfl, hb⟩
    go_wp2
    go_ret
    exact ⟨rfl, hb⟩
  have hd : decide ((300 : Int) < (n : Int)) = false := by simp; omega
  rcases Nat.lt_or_ge n 2 with hn2 | hn2
  · have hd2 : decide ((n : Int) < 2) = true := by simp; omega
    go_enter Try.func4, Try.ntmps4
    go_wp2_with fail
    refine (first_any w).mono ?_
    rintro e w1 ⟨rfl, hb⟩
    go_wp2
    go_ret
    exact ⟨rfl, hb⟩
  have hd2 : decide ((n : Int) < 2) = false := by simp; omega
  have hn' : n ≤ 1048576 := by omega
  obtain ⟨p, hp, hpn⟩ : ∃ p : Nat, a % ((n : Int) / 2) = p ∧ 2 * p + 2 ≤ n := by
    have e0 := Int.emod_nonneg a (show (n : Int) / 2 ≠ 0 by omega)
    have e1 := Int.emod_lt_of_pos a (show 0 < (n : Int) / 2 by omega)
    exact ⟨(a % ((n : Int) / 2)).toNat, by omega, by omega⟩
  obtain ⟨q, hq, hqn⟩ : ∃ q : Nat, b % (8 * (n : Int)) = q ∧ q < 8 * n := by
    have e0 := Int.emod_nonneg b (show 8 * (n : Int) ≠ 0 by omega)
    have e1 := Int.emod_lt_of_pos b (show 0 < 8 * (n : Int) by omega)
    exact ⟨(b % (8 * (n : Int))).toNat, by omega, by omega⟩
  have N1 := fun W => number_any a ((n : Int) / 2) W (by omega) (by omega)
  have N2 := fun W => number_any b (8 * (n : Int)) W (by omega) (by omega)
  rw [hp] at N1
  rw [hq] at N2
  clear hp hq
  go_enter Try.func4, Try.ntmps4
  go_wp2_with fail
  refine (first_any w).mono ?_
  rintro e w1 ⟨rfl, hb1⟩
  have h1 := h.next hb1
  go_wp2_with fail
  refine (N1 w1).mono ?_
  rintro e w1' ⟨rfl, rfl⟩
  go_wp2_with fail
  refine (put_any A n c xs (2 * (p : Int)) w1 h1 hn').mono ?_
  rintro e w2 ⟨A2, c2, rfl, hown, hb2⟩
  have hpb := put_b h.isB (2 * (p : Int))
  have hpl : (put xs (2 * (p : Int))).length = n := (put_len _ _).trans h.len
  have hps := sum_put h.isB (a := 2 * (p : Int)) (by simp [place, h.len]; omega)
  obtain ⟨_, _, he, hnc, hr, hf⟩ := own_form hown hpb
  obtain ⟨g, hA, hbg, hlt⟩ := hf (by omega)
  simp only [Value.slice.injEq, true_and] at he
  obtain ⟨rfl, rfl⟩ := he
  cases hA
  clear hf
  have h2 := h1.next hb2
  have hB2 := below_next hb1 hb2
  generalize put xs (2 * (p : Int)) = X at *
  go_wp2_with fail
  refine (check_any _ n c2 X w2 hr hn').mono ?_
  rintro e w3 ⟨rfl, hb3⟩
  rw [decide_eq_true hps]
  have h3 := h2.next hb3
  have hr3 := hr.next hb3
  have hown3 := own_next hown hb3
  have hB3 := below_next hB2 hb3
  go_wp2_with fail
  refine (N2 w3).mono ?_
  rintro e w4 ⟨rfl, rfl⟩
  have hi : q / 8 < n := by omega
  have hj : q % 8 < 8 := by omega
  have f0 : w3.frozen? ⟨g, q / 8, none⟩ = false := hown3.frozenAt (q / 8)
  have c0 : w3.cell? ⟨g, q / 8, none⟩ = some (.int .u8 (X.getD (q / 8) 0)) := (hown3.cellAt (q / 8) (by omega)).trans (B8_at (by omega))
  have hi0 : ((q / 8 : Nat) : Int) < n := by omega
  have hi1 : (q : Int) / 8 < n := by omega
  have hi2 : (0 : Int) ≤ (q : Int) / 8 := by omega
  have hi3 : ((q : Int) / 8).toNat = q / 8 := by omega
  have h8 := two8_mod hj
  have ht := turned hpb hps (show q / 8 < X.length by omega) hj
  have htb := turned_b hpb (q / 8) hj
  have hbk := back hpb (show q / 8 < X.length by omega) hj
  have hv0 : (X.set (q / 8) (bits .xor .u8 (X.getD (q / 8) 0) (2 ^ (q % 8)))).getD (q / 8) 0 = bits .xor .u8 (X.getD (q / 8) 0) (2 ^ (q % 8)) := getD_set_self _ (by omega)
  rw [hv0] at hbk
  generalize X.getD (q / 8) 0 = u at *
  generalize hV : bits .xor .u8 u (2 ^ (q % 8)) = V at *
  have hg0 := Nat.le_trans hb1.size hbg
  have hown4 := own_set hown3 (q / 8) V
  have hB4 := below_store (i := q / 8) hB3 hg0 (.int .u8 V)
  have HO := Lib.hid hown4
  have HB := Lib.hid hB4
  have HO3 := Lib.hid hown3
  have HB3 := Lib.hid hB3
  clear hown3 hB3 hown4 hB4 hown h hr hr3 h1 h2 h3 hb1 hb2 hb3 hB2
  obtain ⟨_, _, he, _, hr4, _⟩ := own_form HO.out htb
  simp only [Value.slice.injEq, true_and] at he
  obtain ⟨rfl, rfl⟩ := he
  have HC := check_any _ n c2 _ _ hr4 hn'
  clear hr4
  go_wp2_with fail
  refine HC.mono ?_
  rintro e w4 ⟨rfl, hb4⟩
  rw [decide_eq_false ht]
  have hown4 := own_next HO.out hb4
  have hB4 := below_next HB.out hb4
  clear HO HB hb4 HC
  have f0 : w4.frozen? ⟨g, q / 8, none⟩ = false := hown4.frozenAt (q / 8)
  have c0 : w4.cell? ⟨g, q / 8, none⟩ = some (.int .u8 V) := (hown4.cellAt (q / 8) (by omega)).trans ((B8_at (by simp; omega)).trans (by rw [hv0]))
  have hown5 := own_set hown4 (q / 8) (bits .xor .u8 V (2 ^ (q % 8)))
  have hB5 := below_store (i := q / 8) hB4 hg0 (.int .u8 (bits .xor .u8 V (2 ^ (q % 8))))
  rw [hbk] at hown5
  obtain ⟨_, _, he, _, hr5, _⟩ := own_form hown5 hpb
  simp only [Value.slice.injEq, true_and] at he
  obtain ⟨rfl, rfl⟩ := he
  have HC := check_any _ n c2 _ _ hr5 hn'
  have HB := Lib.hid hB5
  clear hr5 hown5 hB5 hown4 hB4
  go_wp2_with fail
  refine HC.mono ?_
  rintro e w5 ⟨rfl, hb5⟩
  rw [decide_eq_true hps]
  go_wp2
  go_ret
  exact ⟨rfl, below_next HB.out hb5⟩
end Go.Proofs.Ytfdckfbnfccmaaa
