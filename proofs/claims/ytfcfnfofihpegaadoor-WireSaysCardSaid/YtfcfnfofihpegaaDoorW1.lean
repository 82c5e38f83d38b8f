/- Contracts of package wire's small functions and of the document's like, over the seat's program. -/
import Derived.Test.YtfcfnfofihpegaaDoorBref
namespace Go.Proofs.YtfcfnfofihpegaaDoor
open Go.RowKit Sm
theorem known_any (k : Int) (w : World) :
    Calls Tryd.prog 30 #[.int .i64 k] w fun e w' => e = .returned (.bool (kOk k)) ∧ w = w' := by
  obtain ⟨r, hr⟩ : ∃ r, r = kOk k := ⟨_, rfl⟩
  rw [← hr]
  unfold kOk at hr
  by_cases h : 1 ≤ k
  · have H := Lib.hid hr
    clear hr
    go_enter Tryd.func30, Tryd.ntmps30
    go_wp2
    go_ret
    exact ⟨ret_bool (by rw [H.out]; simp [h]), rfl⟩
  · have hd : decide (1 ≤ k) = false := by simpa using h
    have H := Lib.hid hr
    clear hr
    go_enter Tryd.func30, Tryd.ntmps30
    go_wp2
    go_ret
    exact ⟨ret_bool (by rw [H.out]; simp; omega), rfl⟩
theorem wfits_any (k : Int) (w : World) :
    Calls Tryd.prog 31 #[.int .i64 k] w fun e w' => e = .returned (.bool (cOk k)) ∧ w = w' := by
  obtain ⟨r, hr⟩ : ∃ r, r = cOk k := ⟨_, rfl⟩
  rw [← hr]
  unfold cOk at hr
  by_cases h : 0 ≤ k
  · have H := Lib.hid hr
    clear hr
    go_enter Tryd.func31, Tryd.ntmps31
    go_wp2
    go_ret
    exact ⟨ret_bool (by rw [H.out]; simp [h]), rfl⟩
  · have hd : decide (0 ≤ k) = false := by simpa using h
    have H := Lib.hid hr
    clear hr
    go_enter Tryd.func31, Tryd.ntmps31
    go_wp2
    go_ret
    exact ⟨ret_bool (by rw [H.out]; simp; omega), rfl⟩
theorem hasKey_any (k : Int) (w : World) :
    Calls Tryd.prog 32 #[.int .i64 k] w fun e w' => e = .returned (.bool (!(k == 1))) ∧ w = w' := by
  go_enter Tryd.func32, Tryd.ntmps32
  go_wp2
  go_ret
  exact ⟨ret_bool (by simp [bne]), rfl⟩
theorem group_any (a : Int) (w : World) (_h : isA a) :
    Calls Tryd.prog 33 #[.int .u32 a] w fun e w' => e = .returned (.bool (gOk a)) ∧ w = w' := by
  obtain ⟨_h0, _h1⟩ := _h
  go_enter Tryd.func33, Tryd.ntmps33
  go_wp2
  go_ret
  exact ⟨ret_bool (by unfold gOk; rw [Bool.eq_iff_iff]; simp), rfl⟩
theorem rgroup_any (a : Int) (w : World) (_h : isA a) :
    Calls Tryd.prog 23 #[.int .u32 a] w fun e w' => e = .returned (.bool (gOk a)) ∧ w = w' := by
  obtain ⟨_h0, _h1⟩ := _h
  go_enter Tryd.func23, Tryd.ntmps23
  go_wp2
  go_ret
  exact ⟨ret_bool (by unfold gOk; rw [Bool.eq_iff_iff]; simp), rfl⟩
theorem rcost_any (k : Int) (w : World) :
    Calls Tryd.prog 22 #[.int .i64 k] w fun e w' => e = .returned (.bool (cOk k)) ∧ w = w' := by
  obtain ⟨r, hr⟩ : ∃ r, r = cOk k := ⟨_, rfl⟩
  rw [← hr]
  unfold cOk at hr
  by_cases h : 0 ≤ k
  · have H := Lib.hid hr
    clear hr
    go_enter Tryd.func22, Tryd.ntmps22
    go_wp2
    go_ret
    exact ⟨ret_bool (by rw [H.out]; simp [h]), rfl⟩
  · have hd : decide (0 ≤ k) = false := by simpa using h
    have H := Lib.hid hr
    clear hr
    go_enter Tryd.func22, Tryd.ntmps22
    go_wp2
    go_ret
    exact ⟨ret_bool (by rw [H.out]; simp; omega), rfl⟩
theorem flag_any (o : Bool) (w : World) :
    Calls Tryd.prog 26 #[.bool o] w fun e w' => e = .returned (.int .u8 (if o = true then 1 else 0)) ∧ w = w' := by
  cases o
  all_goals
    go_enter Tryd.func26, Tryd.ntmps26
    go_wp2
    go_ret
    exact ⟨rfl, rfl⟩
theorem key_any (a b c d : Int) (w : World) :
    Calls Tryd.prog 36 #[.agg #[.int .u32 a, .int .u32 b], .agg #[.int .u32 c, .int .u32 d]] w fun e w' => e = .returned (.bool (decide (a = c ∧ b = d))) ∧ Below w.heap.size w w' := by
  have HH : decide (a = c ∧ b = d) = ((a == c) && (b == d)) := by rw [Bool.eq_iff_iff]; simp
  rw [HH]
  clear HH
  obtain ⟨b1, e1⟩ : ∃ r, (a == c) = r := ⟨_, rfl⟩
  obtain ⟨b2, e2⟩ : ∃ r, (b == d) = r := ⟨_, rfl⟩
  rw [e1, e2]
  cases b1
  all_goals
    go_enter Tryd.func36, Tryd.ntmps36
    go_wp2
    go_ret
    exact ⟨ret_bool (by simp), ((Below.refl _ _).alloc (Nat.le_refl _) _).alloc (by simp) _⟩
theorem saddrs_any (A B : Option Addr) (n m c d : Nat) (xs ys : List Int) (w : World) (h : AR w A n xs) (g : AR w B m ys) (hn : n ≤ 1048576) (hm : m ≤ 1048576) :
    Calls Tryd.prog 37 #[.slice A n c, .slice B m d] w fun e w' => e = .returned (.bool (decide (xs = ys))) ∧ Below w.heap.size w w' := by
  have hl := h.len
  have gl := g.len
  by_cases he : n = m
  · subst he
    have hne : ((n : Int) != (n : Int)) = false := by simp
    go_enter Tryd.func37, Tryd.ntmps37
    go_wp2_with fail
    go_loopw [5] (fun i wr => ∃ k : Nat, k ≤ n ∧ i = .int .i64 k ∧ Below w.heap.size w wr ∧ xs.take k = ys.take k) (fun i _ => n - (intOf i).toNat)
    case atStart => exact ⟨0, Nat.zero_le _, rfl, Below.refl _ _, rfl⟩
    case round =>
      obtain ⟨k, hk, rfl, hbw, hs⟩ := hrel
      rcases Nat.lt_or_ge k n with hlt | hge
      · obtain ⟨b, o, rfl, _, hc0⟩ := (h.next hbw).at_ hlt
        obtain ⟨b', o', rfl, _, hc1⟩ := (g.next hbw).at_ hlt
        have HT := Lib.hid (take_succ_getD xs k (by omega))
        have GT := Lib.hid (take_succ_getD ys k (by omega))
        have hi0 : (k : Int) < n := by omega
        have HB := Lib.hid hbw
        have HS := Lib.hid hs
        by_cases hv : xs.getD k 0 = ys.getD k 0
        · have hve : (xs.getD k 0 == ys.getD k 0) = true := by simpa using hv
          have HV := Lib.hid hv
          clear hbw hs hv
          generalize xs.getD k 0 = u at *
          generalize ys.getD k 0 = v at *
          go_wp2_with fail
          go_quiet (fail)
          go_wp2
          go_roundw
          case rel => exact ⟨k + 1, by omega, by go_num, below_drewN HB.out _, by rw [HT.out, GT.out, HS.out, HV.out]⟩
          case measure => simp [intOf]; omega
        · have hve : (xs.getD k 0 == ys.getD k 0) = false := by simpa using hv
          have HV := Lib.hid (show decide (xs = ys) = false by
            rw [decide_eq_false_iff_not]; rintro rfl; exact hv rfl)
          clear hbw hs hv
          generalize xs.getD k 0 = u at *
          generalize ys.getD k 0 = v at *
          go_wp2_with fail
          go_quiet (fail)
          go_wp2
          go_ret
          exact ⟨ret_bool HV.out.symm, below_drewN HB.out _⟩
      · obtain rfl : k = n := by omega
        rw [List.take_of_length_le (by omega), List.take_of_length_le (by omega)] at hs
        go_wp2
        go_ret
        exact ⟨ret_bool (by simp [hs]), hbw⟩
  · have hne : ((n : Int) != (m : Int)) = true := by simp; omega
    go_enter Tryd.func37, Tryd.ntmps37
    go_wp2
    go_ret
    exact ⟨ret_bool (by rw [eq_comm, decide_eq_false_iff_not]; rintro rfl; omega), Below.refl _ _⟩
theorem equal_any (A B : Option Addr) (n m c d : Nat) (xs ys : List Int) (w : World) (h : AR w A n xs) (g : AR w B m ys) (hn : n ≤ 1048576) (hm : m ≤ 1048576) :
    Calls Tryd.prog 35 #[.slice A n c, .slice B m d] w fun e w' => e = .returned (.bool (decide (xs = ys))) ∧ Below w.heap.size w w' := by
  have hl := h.len
  have gl := g.len
  by_cases he : n = m
  · subst he
    have hne : ((n : Int) != (n : Int)) = false := by simp
    go_enter Tryd.func35, Tryd.ntmps35
    go_wp2_with fail
    go_loopw [13] (fun i wr => ∃ k : Nat, k ≤ n ∧ i = .int .i64 k ∧ Below w.heap.size w wr ∧ xs.take k = ys.take k) (fun i _ => n - (intOf i).toNat)
    case atStart => exact ⟨0, Nat.zero_le _, rfl, Below.refl _ _, rfl⟩
    case round =>
      obtain ⟨k, hk, rfl, hbw, hs⟩ := hrel
      rcases Nat.lt_or_ge k n with hlt | hge
      · obtain ⟨b, o, rfl, _, hc0⟩ := (h.next hbw).at_ hlt
        obtain ⟨b', o', rfl, _, hc1⟩ := (g.next hbw).at_ hlt
        have HT := Lib.hid (take_succ_getD xs k (by omega))
        have GT := Lib.hid (take_succ_getD ys k (by omega))
        have hi0 : (k : Int) < n := by omega
        have HB := Lib.hid hbw
        have HS := Lib.hid hs
        by_cases hv : xs.getD k 0 = ys.getD k 0
        · have hve : (xs.getD k 0 != ys.getD k 0) = false := by simpa using hv
          have HV := Lib.hid hv
          clear hbw hs hv
          generalize xs.getD k 0 = u at *
          generalize ys.getD k 0 = v at *
          go_wp2_with fail
          go_quiet (fail)
          go_wp2
          go_roundw
          case rel => exact ⟨k + 1, by omega, by go_num, below_drewN HB.out _, by rw [HT.out, GT.out, HS.out, HV.out]⟩
          case measure => simp [intOf]; omega
        · have hve : (xs.getD k 0 != ys.getD k 0) = true := by simpa using hv
          have HV := Lib.hid (show decide (xs = ys) = false by
            rw [decide_eq_false_iff_not]; rintro rfl; exact hv rfl)
          clear hbw hs hv
          generalize xs.getD k 0 = u at *
          generalize ys.getD k 0 = v at *
          go_wp2_with fail
          go_quiet (fail)
          go_wp2
          go_ret
          exact ⟨ret_bool HV.out.symm, below_drewN HB.out _⟩
      · obtain rfl : k = n := by omega
        rw [List.take_of_length_le (by omega), List.take_of_length_le (by omega)] at hs
        go_wp2
        go_ret
        exact ⟨ret_bool (by simp [hs]), hbw⟩
  · have hne : ((n : Int) != (m : Int)) = true := by simp; omega
    go_enter Tryd.func35, Tryd.ntmps35
    go_wp2
    go_ret
    exact ⟨ret_bool (by rw [eq_comm, decide_eq_false_iff_not]; rintro rfl; omega), Below.refl _ _⟩
end Go.Proofs.YtfcfnfofihpegaaDoor
