/- The law on numbers, walked. Conditions: the fourteen errors lie in their variables; the library's bound variable holds some number, its two errors of numbers something; its table of powers of ten is as its text lays it. -/
import Derived.Test.YthnchjmbjeooiaaDoorNumb
import Derived.Test.YthnchjmbjeooiaaDoorFirst
import Derived.Test.YthnchjmbjeooiaaDoorIsC
namespace Go.Proofs.YthnchjmbjeooiaaDoor
open Go.RowKit Go.Lib Lx
theorem num_any (n : Int) (h0 : -9223372036854775808 ≤ n) (h1 : n ≤ 9223372036854775807) (w : World) (hT : EnvT w) :
    Calls Tryd.prog 18 #[.int .i64 n] w fun e w' => e = .returned (.string (str (Lib.itoa n))) ∧ Below w.heap.size w w' := by
  have H := Lib.hid (itoa_any n h0 h1 w hT)
  go_enter Tryd.func18, Tryd.ntmps18
  go_wp2_with (go_at_call 25; refine H.out.mono ?_; rintro e w1 ⟨rfl, hb⟩)
  go_ret
  exact ⟨rfl, hb⟩
theorem not_zero {l : List UInt8} (h : 1 ≤ l.length) : nOk (48 :: l) = false := by
  cases l with
  | nil => simp at h
  | cons c l => unfold nOk; simp
theorem not_minus (l : List UInt8) : nOk (45 :: l) = false := by
  unfold nOk
  simp [Ad.isDig]
theorem not_long {l : List UInt8} (h : 9 < l.length) : nOk l = false := by
  unfold nOk
  simp; omega
set_option maxRecDepth 100000 in
set_option maxHeartbeats 4000000 in
theorem law_numbers (ads : List Addr) (m a0 a1 : Int) (W : World) (hS : EnvS ads W) (hM : EnvM m W) (hT : EnvT W) (hE : EnvE W) :
    Calls Tryd.prog 5 #[.int .i64 a0, .int .i64 a1] W fun e w' => e = .returned (.bool true) ∧ Below W.heap.size W w' := by
  have hr0 : 0 ≤ a0 % 1000000000 := Int.emod_nonneg _ (by omega)
  have hr1 : a0 % 1000000000 < 1000000000 := Int.emod_lt_of_pos _ (by omega)
  have hq0 : 0 ≤ a1 % 1000000000 := Int.emod_nonneg _ (by omega)
  have hq1 : a1 % 1000000000 < 1000000000 := Int.emod_lt_of_pos _ (by omega)
  obtain ⟨N, hN⟩ : ∃ N : Nat, a0 % 1000000000 = N := ⟨(a0 % 1000000000).toNat, by omega⟩
  have hNum0 := Lib.hid (fun W => number_any a0 1000000000 W (by omega) (by omega))
  have hNum1 := Lib.hid (fun W => number_any a1 1000000000 W (by omega) (by omega))
  rw [hN] at hNum0 hr1
  generalize a1 % 1000000000 = M at *
  have hN1 : N < 1000000000 := by omega
  clear hN hr0 hr1
  have hD : nOk (Lib.itoa (N : Int)) = true := by rw [itoa_nat (by omega)]; exact nOk_dec (by omega)
  have hV : Ad.val (Lib.itoa (N : Int)) = N := by rw [itoa_nat (by omega)]; exact dec_val N
  have hL := nOk_len hD
  have HF := Lib.hid (first_any m W hM)
  obtain ⟨a, ha, he3⟩ := erS_at hS (j := 2) (by omega)
  have hc3 := erS_cell hS (j := 2) (g := 2) (by omega) rfl
  rw [he3] at hc3
  obtain ⟨b, hb, he7⟩ := erS_at hS (j := 6) (by omega)
  have hc7 := erS_cell hS (j := 6) (g := 1) (by omega) rfl
  rw [he7] at hc7
  have HNx := Lib.hid (fun (s : ByteArray) (most : Int) (hs : s.size ≤ 1048576) W' (hw : Below W.heap.size W W') => number_lex s most (ev a) (ev b) W' hs (hT.below hw) (hE.next hw) ((hw.cell (World.block_lt_of_cell? _ _ hc3)).trans hc3) ((hw.cell (World.block_lt_of_cell? _ _ hc7)).trans hc7))
  have HI3 := Lib.hid (fun W' (hw : Below W.heap.size W W') => is_any ads 2 a 103 W' (hS.below hw) (by omega) ha)
  have HI7 := Lib.hid (fun W' (hw : Below W.heap.size W W') => is_any ads 6 b 107 W' (hS.below hw) (by omega) hb)
  rw [show (((101 + 2 : Nat) : Int) == 103) = true from rfl] at HI3
  rw [show (((101 + 6 : Nat) : Int) == 107) = true from rfl] at HI7
  have HU := Lib.hid (fun W' (hw : Below W.heap.size W W') => num_any (N : Int) (by omega) (by omega) W' (hT.below hw))
  have HUh := Lib.hid (fun W' (hw : Below W.heap.size W W') => num_any 1000000000 (by omega) (by omega) W' (hT.below hw))
  have hTh : (str (Lib.itoa 1000000000)).data.toList.length = 10 := by
    rw [str_data, itoa_nat (by omega), Lib.decDigits_length]
    exact Lib.nDigits_unique 9 1000000000 (by omega) (by omega)
  generalize str (Lib.itoa 1000000000) = H at *
  have hHs : (H.size : Int) ≤ 10 := by rw [Lib.size_eq]; omega
  have hNH := HNx.out (⟨#[49]⟩ ++ H) 999999999 (by rw [Lib.size_eq, Joins.data_append, List.length_append, hTh]; decide)
  have hlong : nOk (⟨#[49]⟩ ++ H : ByteArray).data.toList = false := not_long (by rw [Joins.data_append, List.length_append, hTh]; decide)
  rw [(nm_none hlong).1, (nm_none hlong).2] at hNH
  have hNs := HNx.out (str (Lib.itoa (N : Int))) M (by rw [str_size]; omega)
  have hNz := HNx.out (⟨#[48]⟩ ++ str (Lib.itoa (N : Int))) 999999999 (by rw [Lib.size_eq, Joins.data_append, List.length_append, str_data]; show 1 + _ ≤ _; omega)
  have hNm := HNx.out (⟨#[45]⟩ ++ str (Lib.itoa (N : Int))) 999999999 (by rw [Lib.size_eq, Joins.data_append, List.length_append, str_data]; show 1 + _ ≤ _; omega)
  have hz : nOk (⟨#[48]⟩ ++ str (Lib.itoa (N : Int)) : ByteArray).data.toList = false := by rw [Joins.data_append, str_data]; exact not_zero hL.1
  have hm' : nOk (⟨#[45]⟩ ++ str (Lib.itoa (N : Int)) : ByteArray).data.toList = false := by rw [Joins.data_append, str_data]; exact not_minus _
  rw [(nm_none hz).1, (nm_none hz).2] at hNz
  rw [(nm_none hm').1, (nm_none hm').2] at hNm
  simp only [str_data] at hNs
  have hTs : ((str (Lib.itoa (N : Int))).size : Int) ≤ 9 := by rw [str_size]; omega
  have hg := fun g => nm_great (most := M) hD g
  have hs := fun g => nm_some (most := M) hD g
  rw [hV] at hg hs
  have e7 : nmE (ev a) (ev b) 107 = ev b := rfl
  rw [e7] at hNH hNz hNm
  generalize str (Lib.itoa (N : Int)) = T at *
  clear hz hm' hlong hTh hL hV hD hS hM hT hE HNx hc3 hc7 he3 he7 ha hb e7
  have HH := Lib.hid hNH
  have HZ := Lib.hid hNz
  have HMn := Lib.hid hNm
  clear hNH hNz hNm
  rcases Int.lt_or_le M (N : Int) with hgt | hle
  · rw [(hg hgt).1, (hg hgt).2] at hNs
    have e3 : nmE (ev a) (ev b) 103 = ev a := rfl
    rw [e3] at hNs
    have HSx := Lib.hid hNs
    clear hNs hg hs e3
    unfold ev at *
    go_enter Tryd.func5, Tryd.ntmps5
    go_wp2_with (first
      | (go_at_call 8; refine HF.out.mono ?_; rintro e w1 ⟨rfl, hb⟩; have HB := Lib.hid hb; clear hb)
      | (go_at_call 17; first | (with_reducible refine (hNum0.out _).mono ?_) | (with_reducible refine (hNum1.out _).mono ?_)
         rintro e w2 ⟨rfl, rfl⟩)
      | (go_at_call 18; first | (with_reducible refine (HU.out _ HB.out).mono ?_) | (with_reducible refine (HUh.out _ HB.out).mono ?_)
         rintro e w2 ⟨rfl, hb⟩
         have HB := Lib.hid (HB.out.trans (hb.mono HB.out.size))
         clear hb)
      | (go_at_call 13; first | (with_reducible refine (HSx.out _ HB.out).mono ?_) | (with_reducible refine (HZ.out _ HB.out).mono ?_) | (with_reducible refine (HMn.out _ HB.out).mono ?_) | (with_reducible refine (HH.out _ HB.out).mono ?_)
         rintro e w2 ⟨rfl, hb⟩
         have HB := Lib.hid (HB.out.trans (hb.mono HB.out.size))
         clear hb)
      | (go_at_call 11; first | (with_reducible refine (HI3.out _ HB.out).mono ?_) | (with_reducible refine (HI7.out _ HB.out).mono ?_)
         rintro e w2 ⟨rfl, hb⟩
         have HB := Lib.hid (HB.out.trans (hb.mono HB.out.size))
         clear hb))
    go_ret
    exact ⟨rfl, HB.out⟩
  · rw [(hs hle).1, (hs hle).2] at hNs
    have e0 : nmE (ev a) (ev b) 0 = .nilIface := rfl
    rw [e0] at hNs
    have HSx := Lib.hid hNs
    have hmle : ¬ (N : Int) > M := by omega
    clear hNs hg hs e0
    unfold ev at *
    go_enter Tryd.func5, Tryd.ntmps5
    go_wp2_with (first
      | (go_at_call 8; refine HF.out.mono ?_; rintro e w1 ⟨rfl, hb⟩; have HB := Lib.hid hb; clear hb)
      | (go_at_call 17; first | (with_reducible refine (hNum0.out _).mono ?_) | (with_reducible refine (hNum1.out _).mono ?_)
         rintro e w2 ⟨rfl, rfl⟩)
      | (go_at_call 18; first | (with_reducible refine (HU.out _ HB.out).mono ?_) | (with_reducible refine (HUh.out _ HB.out).mono ?_)
         rintro e w2 ⟨rfl, hb⟩
         have HB := Lib.hid (HB.out.trans (hb.mono HB.out.size))
         clear hb)
      | (go_at_call 13; first | (with_reducible refine (HSx.out _ HB.out).mono ?_) | (with_reducible refine (HZ.out _ HB.out).mono ?_) | (with_reducible refine (HMn.out _ HB.out).mono ?_) | (with_reducible refine (HH.out _ HB.out).mono ?_)
         rintro e w2 ⟨rfl, hb⟩
         have HB := Lib.hid (HB.out.trans (hb.mono HB.out.size))
         clear hb)
      | (go_at_call 11; first | (with_reducible refine (HI3.out _ HB.out).mono ?_) | (with_reducible refine (HI7.out _ HB.out).mono ?_)
         rintro e w2 ⟨rfl, hb⟩
         have HB := Lib.hid (HB.out.trans (hb.mono HB.out.size))
         clear hb))
    go_ret
    exact ⟨rfl, HB.out⟩
end Go.Proofs.YthnchjmbjeooiaaDoor
