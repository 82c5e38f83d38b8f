/- The statement on an odd number of bytes, walked. -/
import Derived.Test.YtfdckfbnfccmaaaMoves
namespace Go.Proofs.Ytfdckfbnfccmaaa
open Go.RowKit Sm
theorem put_odd (xs : List Int) (p : Nat) : put xs (2 * (p : Int) + 1) = xs := by unfold put place; rw [if_neg]; simp
theorem put_neg (xs : List Int) : put xs (-2) = xs := by unfold put place; rw [if_neg]; simp
theorem put_len_at (xs : List Int) (n : Nat) (h : xs.length = n) : put xs (n : Int) = xs := by unfold put place; rw [if_neg]; simp; omega
set_option maxRecDepth 100000 in
set_option maxHeartbeats 2000000 in
theorem odd_any (A : Option Addr) (n c : Nat) (xs : List Int) (a : Int) (w : World) (h : BR w A n xs) :
    Calls Try.prog 6 #[.slice A n c, .int .i64 a] w fun e w' => e = .returned (.bool true) ∧ Below w.heap.size w w' := by
  rcases Nat.lt_or_ge 200 n with hn | hn
  · have hd : decide ((200 : Int) < (n : Int)) = true := by simp; omega
    go_enter Try.func6, Try.ntmps6
    go_wp2_with fail
    refine (first_any w).mono ?_
    rintro e w1 ⟨rfl, hb⟩
    go_wp2
    go_ret
    exact ⟨rfl, hb⟩
  have hd : decide ((200 : Int) < (n : Int)) = false := by simp; omega
  have hn' : n ≤ 1048576 := by omega
  obtain ⟨p, hp, hpn⟩ : ∃ p : Nat, a % 100 = p ∧ p < 100 := ⟨(a % 100).toNat, by omega, by omega⟩
  have N1 := fun W => number_any a 100 W (by omega) (by omega)
  rw [hp] at N1
  clear hp
  obtain ⟨i0, hi, hz0, hz1, hz2⟩ := info_parts info_u8
  rcases Nat.mod_two_eq_zero_or_one n with h2 | h2
  · skip
    have hm : ((n : Int) % 2 == 0) = true := by simp; omega
    go_enter Try.func6, Try.ntmps6
    go_wp2_with fail
    refine (first_any w).mono ?_
    rintro e w1 ⟨rfl, hb1⟩
    have h1 := h.next hb1
    go_wp2_with fail
    refine (rbytes_any A n c xs w1 h1 hn').mono ?_
    rintro e w2 ⟨g, c2, rfl, hown, hb2⟩
    go_wp2_with (at_builtin; refine wpList_append_own _ rfl _ _ 22 rfl w1.heap.size 5 i0 (.int .u8 0) 1 1 Try.underlying22 hi hz0 hz1 hz2 rfl (by decide) _ n _ rfl (hown.alloc _) ⟨w2.heap.size, 0, none⟩ 1 1 (B8 [7]) rfl rfl (World.news_of_block (cs := #[.int .u8 7]) (t := 5) (fr := (0, 0)) (heap_alloc_new w2 _)) (B8_one _) (by unfold maxLen; omega) (by omega) (by have := hb2.size; simp; omega) ?_; intro v3 w3 hown3 hgrow3 hnil3)
    have hb3 : Below w1.heap.size w1 w3 := (hb2.alloc hb2.size _).grown hgrow3 (by have := hb2.size; simp; omega) (by intro j hj; cases hj; exact own_base hown)
    rw [← B8_app] at hown3
    have hZl : (xs ++ [7]).length % 2 = 1 := by have := h.len; simp; omega
    have hZb : IsB (xs ++ [7]) := h.isB.append (by intro x hx; simp at hx; omega)
    obtain ⟨N, hN, hN'⟩ : ∃ N, N = n + 1 ∧ N ≤ 1048575 := ⟨_, rfl, by omega⟩
    rw [← hN] at hown3
    generalize xs ++ [7] = Z at *
    clear hown hb2 hnil3 hgrow3
    obtain ⟨A3, c3, rfl, _, hZ, _⟩ := own_form hown3 hZb
    clear hown3 hN
    have h3 := h1.next hb3
    have hB3 := below_next hb1 hb3
    have hYt : sum (Z ++ [0]) = sum Z := by unfold sum; rw [tot_0 Z hZl]
    clear h1 hb1 hb3
    go_wp2_with fail
    refine (N1 w3).mono ?_
    rintro e w4 ⟨rfl, rfl⟩
    go_wp2_with fail
    refine (put_any A n c xs (2 * (p : Int) + 1) w3 h3 hn').mono ?_
    rw [put_odd]
    rintro e w4 ⟨A4, c4, rfl, hown4, hb4⟩
    obtain ⟨_, _, he, _, hP4, _⟩ := own_form hown4 h.isB
    simp only [Value.slice.injEq, true_and] at he
    obtain ⟨rfl, rfl⟩ := he
    have h4 := h3.next hb4
    have hZ4 := hZ.next hb4
    have hB4 := below_next hB3 hb4
    clear hown4 hb4 h3 hZ hB3
    go_wp2_with fail
    refine (of_any A3 N c3 Z w4 hZ4 (by omega)).mono ?_
    rintro e w5 ⟨rfl, hb5⟩
    have h5 := h4.next hb5
    have hZ5 := hZ4.next hb5
    have hP5 := hP4.next hb5
    have hB5 := below_next hB4 hb5
    clear hb5 h4 hZ4 hP4 hB4
    go_wp2_with fail
    refine (rbytes_any A3 N c3 Z w5 hZ5 (by omega)).mono ?_
    rintro e w6 ⟨g6, c6, rfl, hown6, hb6⟩
    go_wp2_with (at_builtin; refine wpList_app_g _ (by rfl) _ _ 22 rfl w5.heap.size 5 i0 (.int .u8 0) 1 1 Try.underlying22 hi hz0 hz1 hz2 rfl (by decide) _ N _ rfl (hown6.alloc _) ⟨w6.heap.size, 0, none⟩ 1 1 (B8 [0]) rfl rfl (World.news_of_block (cs := #[.int .u8 0]) (t := 5) (fr := (0, 0)) (heap_alloc_new w6 _)) (B8_one _) (by unfold maxLen; omega) (by omega) (by have := hb6.size; simp; omega) ?_; intro v7 w7 hown7 hgrow7)
    have hb7 : Below w5.heap.size w5 w7 := (hb6.alloc hb6.size _).grown hgrow7 (by have := hb6.size; simp; omega) (by intro j hj; cases hj; exact own_base hown6)
    rw [← B8_app] at hown7
    obtain ⟨A7, c7, rfl, _, hY7, _⟩ := own_form hown7 (hZb.append (by intro x hx; simp at hx; omega))
    have h7 := h5.next hb7
    have hP7 := hP5.next hb7
    have hB7 := below_next hB5 hb7
    clear hb6 hb7 hown6 hown7 hgrow7 h5 hZ5 hP5 hB5
    generalize Z ++ [0] = Y at *
    refine (of_any A7 (N + 1) c7 Y w7 hY7 (by omega)).mono ?_
    rintro e w8 ⟨rfl, hb8⟩
    rw [hYt]
    have h8 := h7.next hb8
    have hP8 := hP7.next hb8
    have hB8 := below_next hB7 hb8
    clear hb8 h7 hP7 hB7 hY7
    go_wp2_with fail
    refine (same_any A4 A n n c4 c xs xs w8 hP8 h8 hn' hn').mono ?_
    rw [decide_eq_true (rfl : xs = xs)]
    rintro e w9 ⟨rfl, hb9⟩
    have h9 := h8.next hb9
    have hB9 := below_next hB8 hb9
    clear hb9 h8 hP8 hB8
    go_wp2_with fail
    refine (put_any A n c xs (-2) w9 h9 hn').mono ?_
    rw [put_neg]
    rintro e w10 ⟨A10, c10, rfl, hown10, hb10⟩
    obtain ⟨_, _, he, _, hP10, _⟩ := own_form hown10 h.isB
    simp only [Value.slice.injEq, true_and] at he
    obtain ⟨rfl, rfl⟩ := he
    have h10 := h9.next hb10
    have hB10 := below_next hB9 hb10
    clear hown10 hb10 h9 hB9
    go_wp2_with fail
    refine (same_any A10 A n n c10 c xs xs w10 hP10 h10 hn' hn').mono ?_
    rw [decide_eq_true (rfl : xs = xs)]
    rintro e w11 ⟨rfl, hb11⟩
    have h11 := h10.next hb11
    have hB11 := below_next hB10 hb11
    clear hb11 h10 hB10 hP10
    go_wp2_with fail
    refine (put_any A n c xs (n : Int) w11 h11 hn').mono ?_
    rw [put_len_at xs n h.len]
    rintro e w12 ⟨A12, c12, rfl, hown12, hb12⟩
    obtain ⟨_, _, he, _, hP12, _⟩ := own_form hown12 h.isB
    simp only [Value.slice.injEq, true_and] at he
    obtain ⟨rfl, rfl⟩ := he
    have h12 := h11.next hb12
    have hB12 := below_next hB11 hb12
    clear hown12 hb12 h11 hB11
    go_wp2_with fail
    refine (same_any A12 A n n c12 c xs xs w12 hP12 h12 hn' hn').mono ?_
    rw [decide_eq_true (rfl : xs = xs)]
    rintro e w13 ⟨rfl, hb13⟩
    have hB13 := below_next hB12 hb13
    go_wp2
    go_ret
    exact ⟨ret_bool (by simp), hB13⟩
  · skip
    have hm : ((n : Int) % 2 == 0) = false := by simp; omega
    go_enter Try.func6, Try.ntmps6
    go_wp2_with fail
    refine (first_any w).mono ?_
    rintro e w1 ⟨rfl, hb1⟩
    have h1 := h.next hb1
    go_wp2_with fail
    refine (rbytes_any A n c xs w1 h1 hn').mono ?_
    rintro e w2 ⟨g, c2, rfl, hown, hb2⟩
    obtain ⟨w3, hw⟩ : ∃ w3, w3 = w2 := ⟨_, rfl⟩
    have hb3 : Below w1.heap.size w1 w3 := hw ▸ hb2
    obtain ⟨Z, hZe⟩ : ∃ Z, Z = xs := ⟨_, rfl⟩
    have hZl : Z.length % 2 = 1 := by have := h.len; rw [hZe]; omega
    obtain ⟨_, _, he, _, hr, _⟩ := own_form hown h.isB
    simp only [Value.slice.injEq, true_and] at he
    obtain ⟨rfl, rfl⟩ := he
    obtain ⟨A3, hA3⟩ : ∃ A3, A3 = some (⟨g, 0, none⟩ : Addr) := ⟨_, rfl⟩
    obtain ⟨c3, hc3⟩ : ∃ c3, c3 = c2 := ⟨_, rfl⟩
    have hZ : BR w3 A3 n Z := by rw [hw, hA3, hZe]; exact hr
    have hZb := hZ.isB
    clear hown hr hb2
    rw [← hw, ← hA3, ← hc3]
    clear hw hZe hA3 hc3
    have h3 := h1.next hb3
    have hB3 := below_next hb1 hb3
    have hYt : sum (Z ++ [0]) = sum Z := by unfold sum; rw [tot_0 Z hZl]
    clear h1 hb1 hb3
    go_wp2_with fail
    refine (N1 w3).mono ?_
    rintro e w4 ⟨rfl, rfl⟩
    go_wp2_with fail
    refine (put_any A n c xs (2 * (p : Int) + 1) w3 h3 hn').mono ?_
    rw [put_odd]
    rintro e w4 ⟨A4, c4, rfl, hown4, hb4⟩
    obtain ⟨_, _, he, _, hP4, _⟩ := own_form hown4 h.isB
    simp only [Value.slice.injEq, true_and] at he
    obtain ⟨rfl, rfl⟩ := he
    have h4 := h3.next hb4
    have hZ4 := hZ.next hb4
    have hB4 := below_next hB3 hb4
    clear hown4 hb4 h3 hZ hB3
    go_wp2_with fail
    refine (of_any A3 n c3 Z w4 hZ4 (by omega)).mono ?_
    rintro e w5 ⟨rfl, hb5⟩
    have h5 := h4.next hb5
    have hZ5 := hZ4.next hb5
    have hP5 := hP4.next hb5
    have hB5 := below_next hB4 hb5
    clear hb5 h4 hZ4 hP4 hB4
    go_wp2_with fail
    refine (rbytes_any A3 n c3 Z w5 hZ5 (by omega)).mono ?_
    rintro e w6 ⟨g6, c6, rfl, hown6, hb6⟩
    go_wp2_with (at_builtin; refine wpList_app_g _ (by rfl) _ _ 22 rfl w5.heap.size 5 i0 (.int .u8 0) 1 1 Try.underlying22 hi hz0 hz1 hz2 rfl (by decide) _ n _ rfl (hown6.alloc _) ⟨w6.heap.size, 0, none⟩ 1 1 (B8 [0]) rfl rfl (World.news_of_block (cs := #[.int .u8 0]) (t := 5) (fr := (0, 0)) (heap_alloc_new w6 _)) (B8_one _) (by unfold maxLen; omega) (by omega) (by have := hb6.size; simp; omega) ?_; intro v7 w7 hown7 hgrow7)
    have hb7 : Below w5.heap.size w5 w7 := (hb6.alloc hb6.size _).grown hgrow7 (by have := hb6.size; simp; omega) (by intro j hj; cases hj; exact own_base hown6)
    rw [← B8_app] at hown7
    obtain ⟨A7, c7, rfl, _, hY7, _⟩ := own_form hown7 (hZb.append (by intro x hx; simp at hx; omega))
    have h7 := h5.next hb7
    have hP7 := hP5.next hb7
    have hB7 := below_next hB5 hb7
    clear hb6 hb7 hown6 hown7 hgrow7 h5 hZ5 hP5 hB5
    generalize Z ++ [0] = Y at *
    refine (of_any A7 (n + 1) c7 Y w7 hY7 (by omega)).mono ?_
    rintro e w8 ⟨rfl, hb8⟩
    rw [hYt]
    have h8 := h7.next hb8
    have hP8 := hP7.next hb8
    have hB8 := below_next hB7 hb8
    clear hb8 h7 hP7 hB7 hY7
    go_wp2_with fail
    refine (same_any A4 A n n c4 c xs xs w8 hP8 h8 hn' hn').mono ?_
    rw [decide_eq_true (rfl : xs = xs)]
    rintro e w9 ⟨rfl, hb9⟩
    have h9 := h8.next hb9
    have hB9 := below_next hB8 hb9
    clear hb9 h8 hP8 hB8
    go_wp2_with fail
    refine (put_any A n c xs (-2) w9 h9 hn').mono ?_
    rw [put_neg]
    rintro e w10 ⟨A10, c10, rfl, hown10, hb10⟩
    obtain ⟨_, _, he, _, hP10, _⟩ := own_form hown10 h.isB
    simp only [Value.slice.injEq, true_and] at he
    obtain ⟨rfl, rfl⟩ := he
    have h10 := h9.next hb10
    have hB10 := below_next hB9 hb10
    clear hown10 hb10 h9 hB9
    go_wp2_with fail
    refine (same_any A10 A n n c10 c xs xs w10 hP10 h10 hn' hn').mono ?_
    rw [decide_eq_true (rfl : xs = xs)]
    rintro e w11 ⟨rfl, hb11⟩
    have h11 := h10.next hb11
    have hB11 := below_next hB10 hb11
    clear hb11 h10 hB10 hP10
    go_wp2_with fail
    refine (put_any A n c xs (n : Int) w11 h11 hn').mono ?_
    rw [put_len_at xs n h.len]
    rintro e w12 ⟨A12, c12, rfl, hown12, hb12⟩
    obtain ⟨_, _, he, _, hP12, _⟩ := own_form hown12 h.isB
    simp only [Value.slice.injEq, true_and] at he
    obtain ⟨rfl, rfl⟩ := he
    have h12 := h11.next hb12
    have hB12 := below_next hB11 hb12
    clear hown12 hb12 h11 hB11
    go_wp2_with fail
    refine (same_any A12 A n n c12 c xs xs w12 hP12 h12 hn' hn').mono ?_
    rw [decide_eq_true (rfl : xs = xs)]
    rintro e w13 ⟨rfl, hb13⟩
    have hB13 := below_next hB12 hb13
    go_wp2
    go_ret
    exact ⟨ret_bool (by simp), hB13⟩
set_option maxRecDepth 100000 in
set_option maxHeartbeats 2000000 in
/-- The statement on new memory. -/
theorem own_any (A : Option Addr) (n c : Nat) (xs : List Int) (a : Int) (w : World) (h : BR w A n xs) :
    Calls Try.prog 7 #[.slice A n c, .int .i64 a] w fun e w' => e = .returned (.bool true) ∧ Below w.heap.size w w' := by
  rcases Nat.lt_or_ge 200 n with hn | hn
  · have hd : decide ((200 : Int) < (n : Int)) = true := by simp; omega
    go_enter Try.func7, Try.ntmps7
    go_wp2_with fail
    refine (first_any w).mono ?_
    rintro e w1 ⟨rfl, hb⟩
    go_wp2
    go_ret
    exact ⟨rfl, hb⟩
  have hd : decide ((200 : Int) < (n : Int)) = false := by simp; omega
  rcases Nat.lt_or_ge n 2 with hn2 | hn2
  · have hd2 : decide ((n : Int) < 2) = true := by simp; omega
    go_enter Try.func7, Try.ntmps7
    go_wp2_with fail
    refine (first_any w).mono ?_
    rintro e w1 ⟨rfl, hb⟩
    go_wp2
    go_ret
    exact ⟨rfl, hb⟩
  have hd2 : decide ((n : Int) < 2) = false := by simp; omega
  have hn' : n ≤ 1048576 := by omega
  obtain ⟨p, hp, hpn⟩ : ∃ p : Nat, a % ((n : Int) / 2) = p ∧ 2 * p + 2 ≤ n := by
    have e0 := Int.emod_nonneg a (show (n : Int) / 2 ≠ 0 by omega)
    have e1 := Int.emod_lt_of_pos a (show 0 < (n : Int) / 2 by omega)
    exact ⟨(a % ((n : Int) / 2)).toNat, by omega, by omega⟩
  have N1 := fun W => number_any a ((n : Int) / 2) W (by omega) (by omega)
  rw [hp] at N1
  clear hp
  go_enter Try.func7, Try.ntmps7
  go_wp2_with fail
  refine (first_any w).mono ?_
  rintro e w1 ⟨rfl, hb1⟩
  have h1 := h.next hb1
  go_wp2_with fail
  refine (rbytes_any A n c xs w1 h1 hn').mono ?_
  rintro e w2 ⟨g, c2, rfl, hown, hb2⟩
  obtain ⟨_, _, he, _, hP2, _⟩ := own_form hown h.isB
  simp only [Value.slice.injEq, true_and] at he
  obtain ⟨rfl, rfl⟩ := he
  have h2 := h1.next hb2
  have hB2 := below_next hb1 hb2
  clear h1 hb1 hb2 hown
  go_wp2_with fail
  refine (of_any A n c xs w2 h2 hn').mono ?_
  rintro e w3 ⟨rfl, hb3⟩
  have h3 := h2.next hb3
  have hP3 := hP2.next hb3
  have hB3 := below_next hB2 hb3
  clear h2 hb3 hB2 hP2
  go_wp2_with fail
  refine (N1 w3).mono ?_
  rintro e w4 ⟨rfl, rfl⟩
  go_wp2_with fail
  refine (put_any A n c xs (2 * (p : Int)) w3 h3 hn').mono ?_
  rintro e w4 ⟨A4, c4, rfl, hown4, hb4⟩
  have hpb := put_b h.isB (2 * (p : Int))
  obtain ⟨_, _, he, _, _, hf⟩ := own_form hown4 hpb
  obtain ⟨g4, hA4, hbg, _⟩ := hf (by omega)
  simp only [Value.slice.injEq, true_and] at he
  obtain ⟨rfl, rfl⟩ := he
  cases hA4
  have HP := Lib.hid hP3
  have H3 := Lib.hid h3
  have HB := Lib.hid hB3
  clear h3 hP3 hB3 hf
  go_wp2_with fail
  go_loopw [9] (fun i wr => ∃ (k : Nat) (zs : List Int), k ≤ n ∧ i = .int .i64 k ∧ IsB zs ∧ wr.ownsRow w3.heap.size 5 1 (.slice (some ⟨g4, 0, none⟩) n c4) n (B8 zs) ∧ Below w3.heap.size w3 wr) (fun i _ => n - (intOf i).toNat)
  case atStart => exact ⟨0, _, Nat.zero_le _, rfl, hpb, hown4, hb4⟩
  case round =>
    obtain ⟨k, zs, hk, rfl, hzb, hown, hbw⟩ := hrel
    have hzl : zs.length = n := by have := hown.1; rw [B8_len] at this; omega
    rcases Nat.lt_or_ge k n with hlt | hge
    · have f0 : wr.frozen? ⟨g4, k, none⟩ = false := hown.frozenAt k
      have c0 : wr.cell? ⟨g4, k, none⟩ = some (.int .u8 (zs.getD k 0)) := (hown.cellAt k (by omega)).trans (B8_at (by omega))
      have hi0 : (k : Int) < n := by omega
      have hu := hzb.at_ k
      generalize zs.getD k 0 = u at *
      have HO := Lib.hid (own_set hown k ((u + 1) % 256))
      have HBB := Lib.hid (below_store (i := k) hbw hbg (.int .u8 ((u + 1) % 256)))
      have HZ := Lib.hid (hzb.set k (v := (u + 1) % 256) (by omega) (by omega))
      clear hown hbw hzb hown4 hb4
      go_wp2
      go_roundw
      case rel => exact ⟨k + 1, _, by omega, by go_num, HZ.out, HO.out, HBB.out⟩
      case measure => simp [intOf]; omega
    · obtain rfl : k = n := by omega
      have h5 := H3.out.next hbw
      have hP5 := HP.out.next hbw
      have hB5 := below_next HB.out hbw
      clear hown hbw hown4 hb4 hzb
      go_wp2_with fail
      refine (same_any A _ k k c c2 xs xs wr h5 hP5 hn' hn').mono ?_
      rw [decide_eq_true (rfl : xs = xs)]
      rintro e w6 ⟨rfl, hb6⟩
      have h6 := h5.next hb6
      have hB6 := below_next hB5 hb6
      go_wp2_with fail
      refine (of_any A k c xs w6 h6 hn').mono ?_
      rintro e w7 ⟨rfl, hb7⟩
      go_wp2
      go_ret
      exact ⟨ret_bool (by simp), below_next hB6 hb7⟩
end Go.Proofs.Ytfdckfbnfccmaaa
