/- The law on texts of as many bytes as may be, walked. Conditions: the fourteen errors lie in their variables; the library's bound variable holds some number. -/
import Derived.Test.YthnchjmbjeooiaaDoorUb
import Derived.Test.YthnchjmbjeooiaaDoorFirst
import Derived.Test.YthnchjmbjeooiaaDoorIsC
namespace Go.Proofs.YthnchjmbjeooiaaDoor
open Go.RowKit Go.Lib Lx
namespace Lx
theorem nl_reps : ∀ (j : Nat), nl (List.replicate j 10 ++ [98]) = List.replicate j [] ++ [[98]]
  | 0 => rfl
  | j + 1 => by rw [List.replicate_succ, List.cons_append, nl, if_pos rfl, nl_reps j, List.replicate_succ, List.cons_append]
theorem rows_reps : ∀ (j no : Nat), rows no (List.replicate j [] ++ [[98]]) = [(no + j, [[98]])]
  | 0, no => rfl
  | j + 1, no => by
    rw [List.replicate_succ, List.cons_append, rows, rows_reps j]
    have e : row no [] = [] := rfl
    rw [e, List.nil_append, show no + 1 + j = no + (j + 1) by omega]
theorem lines_reps (j : Nat) : lines (97 :: (List.replicate (j + 1) 10 ++ [98])) = [(1, [[97]]), (j + 2, [[98]])] := by
  unfold lines
  rw [nl, if_neg (by decide), nl_reps, List.replicate_succ, List.cons_append]
  show row 1 [97] ++ rows 2 _ = _
  rw [rows_reps]
  have e : row 1 [97] = [(1, [[97]])] := by decide
  rw [e, show 2 + j = j + 2 by omega]
  rfl
theorem reps_set (N : Nat) (h : 3 ≤ N) : ((List.replicate N (10 : UInt8)).set 0 97).set (N - 1) 98 = 97 :: (List.replicate (N - 3 + 1) 10 ++ [98]) := by
  obtain ⟨j, rfl⟩ : ∃ j, N = j + 3 := ⟨N - 3, by omega⟩
  apply List.ext_getElem?
  intro i
  have e1 : j + 3 - 1 = j + 2 := by omega
  have e2 : j + 3 - 3 + 1 = j + 1 := by omega
  rw [e1, e2, List.getElem?_set, List.getElem?_set]
  simp only [List.length_set, List.length_replicate]
  match i with
  | 0 => simp
  | i + 1 =>
    rw [List.getElem?_cons_succ, List.getElem?_append]
    simp only [List.length_replicate]
    by_cases h1 : i = j + 1
    · subst h1; simp
    · by_cases h2 : i < j + 1
      · rw [if_neg (by omega), if_neg (by omega), if_pos h2, List.getElem?_replicate, List.getElem?_replicate, if_pos (by omega), if_pos (by omega)]
      · rw [if_neg (by omega), if_neg (by omega), if_neg h2, List.getElem?_replicate, if_neg (by omega)]
        rw [List.getElem?_eq_none]; simp; omega
end Lx
theorem reps_next (N k : Nat) (h : k < N) : (List.replicate k (10 : UInt8) ++ List.replicate (N - k) 0).set k 10 = List.replicate (k + 1) 10 ++ List.replicate (N - (k + 1)) 0 := by
  rw [List.set_append_right _ _ (by simp), List.length_replicate, Nat.sub_self, show N - k = (N - (k + 1)) + 1 by omega, List.replicate_succ, List.set_cons_zero, List.replicate_succ' (n := k), List.append_assoc]
  rfl
set_option maxRecDepth 100000 in
set_option maxHeartbeats 2000000 in
theorem law_many (ads : List Addr) (m a0 : Int) (W : World) (hS : EnvS ads W) (hM : EnvM m W) :
    Calls Tryd.prog 7 #[.int .i64 a0] W fun e w' => e = .returned (.bool true) ∧ Below W.heap.size W w' := by
  obtain ⟨i0, hi, hz0, hz1, hz2⟩ := info_parts (show (Tryd.prog.info? 5).map (fun i => (i.zero, i.size, i.bytes)) = some (some (.int .u8 0), 1, 1) by kernel_rfl)
  have hr0 : 0 ≤ a0 % 7 := Int.emod_nonneg _ (by omega)
  have hr1 : a0 % 7 < 7 := Int.emod_lt_of_pos _ (by omega)
  obtain ⟨N, hN⟩ : ∃ N : Nat, (N : Int) = 16381 + a0 % 7 := ⟨(16381 + a0 % 7).toNat, by omega⟩
  have hNum := Lib.hid (fun W => number_any a0 7 W (by omega) (by omega))
  generalize a0 % 7 = r at *
  obtain rfl : r = (N : Int) - 16381 := by omega
  have hN0 : 16381 ≤ N := by omega
  have hN1 : N ≤ 16387 := by omega
  have hadd : 16381 + ((N : Int) - 16381) = (N : Int) := by omega
  clear hN hr0 hr1
  have HF := Lib.hid (first_any m W hM)
  have HS := Lib.hid hS
  have HM := Lib.hid hM
  clear hS hM
  go_enter Tryd.func7, Tryd.ntmps7
  go_wp2_with (first
    | (go_at_call 8; refine HF.out.mono ?_; rintro e w1 ⟨rfl, hb⟩; have HB1 := Lib.hid hb; clear hb)
    | (go_at_call 17; refine (hNum.out _).mono ?_; rintro e w2 ⟨rfl, rfl⟩)
    | (at_make; refine wpList_make_full _ rfl _ _ 49 rfl W.heap.size 5 i0 (.int .u8 0) 1 Tryd.underlying49 hi hz0 hz1 .i64 .i64 (N : Int) (N : Int) N rfl rfl rfl rfl (by rw [hz2]; omega) (by unfold maxLen; omega) HB1.out.size ?_; intro w2 hown hgrow
       have HO2 := Lib.hid hown
       have HB2 := Lib.hid (HB1.out.grown hgrow HB1.out.size (fun k hk => by cases hk))
       clear hown hgrow))
  rw [UB_zero] at HO2
  obtain ⟨G, hG⟩ : ∃ G, G = w1.heap.size := ⟨_, rfl⟩
  have hGW : W.heap.size ≤ G := hG ▸ HB1.out.size
  rw [← hG] at HO2 ⊢
  clear hG HB1 HF hNum
  go_loopw [5] (fun i wr => ∃ k : Nat, k ≤ N ∧ i = .int .i64 k ∧ wr.ownsRow W.heap.size 5 1 (.slice (some ⟨G, 0, none⟩) N N) N (UB (List.replicate k 10 ++ List.replicate (N - k) 0)) ∧ Below W.heap.size W wr) (fun i _ => N - (intOf i).toNat)
  case atStart => exact ⟨0, by omega, rfl, by simpa using HO2.out, HB2.out⟩
  case round =>
    obtain ⟨k, hk, rfl, hown, hbw⟩ := hrel
    clear HO2 HB2
    rcases Nat.lt_or_ge k N with hlt | hge
    · have hset := Lib.hid (ub_set hown k 10 10 rfl)
      rw [reps_next N k hlt] at hset
      have hc := ub_cell hown hlt
      have hf : wr.frozen? ⟨G, k, none⟩ = false := hown.frozenAt k
      have HB := Lib.hid (below_store hbw hGW (i := k) (.int .u8 10))
      generalize ((List.replicate k (10 : UInt8) ++ List.replicate (N - k) 0).getD k 0).toNat = q at *
      clear hown hbw
      have hi0 : (k : Int) < N := by omega
      go_wp2
      go_roundw
      case rel => exact ⟨k + 1, by omega, by go_num, hset.out, HB.out⟩
      case measure => simp [intOf]; omega
    · obtain rfl : k = N := by omega
      rw [Nat.sub_self, List.replicate_zero, List.append_nil] at hown
      have hc0 := ub_cell hown (i := 0) (by omega)
      have hf0 : wr.frozen? ⟨G, 0, none⟩ = false := hown.frozenAt 0
      have hown1 := ub_set hown 0 97 97 rfl
      have hbw1 := below_store hbw hGW (i := 0) (.int .u8 97)
      have hc1 := ub_cell hown1 (i := k - 1) (by omega)
      have hf1 := hown1.frozenAt (k - 1)
      have hown2 := ub_set hown1 (k - 1) 98 98 rfl
      rw [reps_set k (by omega)] at hown2
      have hbw2 := below_store hbw1 hGW (i := k - 1) (.int .u8 98)
      have hcv := ub_str (P := Tryd.prog) hown2 49 9 5 Tryd.underlying49 Tryd.underlying5 Tryd.underlying9
      have HB2 := Lib.hid hbw2
      clear hown hbw hown1 hown2 hbw1 hbw2
      generalize ((List.replicate k (10 : UInt8)).getD 0 0).toNat = q0 at *
      generalize (((List.replicate k (10 : UInt8)).set 0 97).getD (k - 1) 0).toNat = q1 at *
      rcases Nat.lt_or_ge 16384 k with hbig | hsmall
      · obtain ⟨x, hx1, hx2⟩ := erS_at HS.out (j := 3) (by omega)
        have HX := Lib.hid (fun W' (hb : Below W.heap.size W W') => lines_many (str (97 :: (List.replicate (k - 3 + 1) 10 ++ [98]))) (erS ads 104) W' (by rw [str_size]; simp; omega) ((hb.cell (World.block_lt_of_cell? _ _ (erS_cell HS.out (j := 3) (g := 0) (by omega) rfl))).trans (erS_cell HS.out (j := 3) (by omega) rfl)))
        have HI := Lib.hid (fun W' (hb : Below W.heap.size W W') => is_code ads 104 104 (.inr ⟨3, by omega, by omega⟩) W' (HS.out.below hb))
        have hbi : (k : Int) > 16384 := by omega
        generalize erS ads 104 = E at *
        generalize str (97 :: (List.replicate (k - 3 + 1) 10 ++ [98])) = T at *
        clear hx1 hx2
        go_wp2_with (first
          | (go_at_call 9; refine (HX.out _ HB2.out).mono ?_; rintro e w3 ⟨rfl, hb3⟩
             have HB3 := Lib.hid (HB2.out.trans (hb3.mono HB2.out.size))
             clear hb3)
          | (go_at_call 11; refine (HI.out _ HB3.out).mono ?_; rintro e w4 ⟨rfl, hb4⟩
             have HB4 := Lib.hid (HB3.out.trans (hb4.mono HB3.out.size))
             clear hb4))
        go_ret
        exact ⟨rfl, HB4.out⟩
      · have HX := Lib.hid (fun W' (hb : Below W.heap.size W W') => lines_any (str (97 :: (List.replicate (k - 3 + 1) 10 ++ [98]))) m W' (by rw [str_size]; simp; omega) (HM.out.next hb))
        simp only [str_data, lines_reps] at HX
        have HK := Lib.hid (show (((k - 3 + 2 : Nat)) : Int) = (k : Int) - 1 by omega)
        generalize str (97 :: (List.replicate (k - 3 + 1) 10 ++ [98])) = T at *
        go_wp2_with (first
          | (go_at_call 9; refine (HX.out _ HB2.out).mono ?_; rintro e w3 ⟨A, c, rfl, hlr, hb3⟩
             obtain ⟨b, rfl, hbl, hc30, _⟩ := hlr.at_ (k := 0) (by simp)
             obtain ⟨b', e', _, hc31, _⟩ := hlr.at_ (k := 1) (by simp)
             injection e' with e'
             injection e' with e1 _
             subst e1
             have hc30' : w3.cell? ⟨b, 0, none⟩ = some (.int .i64 1) := hc30
             have hc31' : w3.cell? ⟨b, 2, none⟩ = some (.int .i64 ((k : Int) - 1)) := (by rw [← HK.out]; exact hc31)
             have HB3 := Lib.hid (HB2.out.trans (hb3.mono HB2.out.size))
             clear hb3 hlr hc30 hc31))
        go_ret
        exact ⟨rfl, HB3.out⟩
end Go.Proofs.YthnchjmbjeooiaaDoor
