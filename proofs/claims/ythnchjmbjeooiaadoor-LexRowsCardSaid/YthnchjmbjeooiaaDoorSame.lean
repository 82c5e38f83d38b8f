/- Contract of the document's helper that compares lists of texts. -/
import Derived.Test.YthnchjmbjeooiaaDoorLines
namespace Go.Proofs.YthnchjmbjeooiaaDoor
open Go.RowKit Go.Lib Lx
theorem str_toList (l : List UInt8) : (str l).toList = l := by rw [ByteArray.toList_eq, str_data]
theorem str_ne {a b : List UInt8} (h : a ≠ b) : str a ≠ str b := fun e => h (str_inj e)
set_option maxHeartbeats 1000000 in
theorem texts_any (A B : Option Addr) (n m c d : Nat) (xs ys : List (List UInt8)) (w : World) (h : SR w A n xs) (g : SR w B m ys) (hn : n ≤ 1048577) (hm : m ≤ 1048577) :
    Calls Tryd.prog 12 #[.slice A n c, .slice B m d] w fun e w' => e = .returned (.bool (decide (xs = ys))) ∧ Below w.heap.size w w' := by
  have hl := h.len
  have gl := g.len
  by_cases he : n = m
  · subst he
    have hne : ((n : Int) != (n : Int)) = false := by simp
    go_enter Tryd.func12, Tryd.ntmps12
    go_wp2_with fail
    go_loopw [5] (fun i wr => ∃ k : Nat, k ≤ n ∧ i = .int .i64 k ∧ Below w.heap.size w wr ∧ xs.take k = ys.take k) (fun i _ => n - (intOf i).toNat)
    case atStart => exact ⟨0, Nat.zero_le _, rfl, Below.refl _ _, rfl⟩
    case round =>
      obtain ⟨k, hk, rfl, hbw, hs⟩ := hrel
      rcases Nat.lt_or_ge k n with hlt | hge
      · obtain ⟨b, o, rfl, _, hc0⟩ := (h.next hbw).at_ hlt
        obtain ⟨b', o', rfl, _, hc1⟩ := (g.next hbw).at_ hlt
        have HT := Lib.hid (take_succ_getDL xs k [] (by omega))
        have GT := Lib.hid (take_succ_getDL ys k [] (by omega))
        have hi0 : (k : Int) < n := by omega
        have HB := Lib.hid hbw
        have HS := Lib.hid hs
        by_cases hv : xs.getD k [] = ys.getD k []
        · have hve : ((str (xs.getD k [])).toList == (str (ys.getD k [])).toList) = true := by rw [hv]; exact beq_self_eq_true _
          have HV := Lib.hid hv
          clear hbw hs hv
          generalize str (xs.getD k []) = u at *
          generalize str (ys.getD k []) = v at *
          generalize xs.getD k [] = u' at *
          generalize ys.getD k [] = v' at *
          go_wp2_with fail
          go_quiet (fail)
          go_wp2
          go_roundw
          case rel => exact ⟨k + 1, by omega, by go_num, below_drewN HB.out _, by rw [HT.out, GT.out, HS.out, HV.out]⟩
          case measure => simp [intOf]; omega
        · have hve : ((str (xs.getD k [])).toList == (str (ys.getD k [])).toList) = false := by
            rw [str_toList, str_toList, Bool.eq_false_iff]; intro e; exact hv (eq_of_beq e)
          have HV := Lib.hid (show decide (xs = ys) = false by
            rw [decide_eq_false_iff_not]; rintro rfl; exact hv rfl)
          clear hbw hs hv
          generalize str (xs.getD k []) = u at *
          generalize str (ys.getD k []) = v at *
          go_wp2_with fail
          go_quiet (fail)
          go_wp2
          go_ret
          exact ⟨ret_bool HV.out.symm, below_drewN HB.out _⟩
      · obtain rfl : k = n := by omega
        rw [List.take_of_length_le (by omega), List.take_of_length_le (by omega)] at hs
        go_wp2
        go_ret
        exact ⟨ret_bool (by simp [hs]), hbw⟩
  · have hne : ((n : Int) != (m : Int)) = true := by simp; omega
    go_enter Tryd.func12, Tryd.ntmps12
    go_wp2
    go_ret
    exact ⟨ret_bool (by rw [eq_comm, decide_eq_false_iff_not]; rintro rfl; omega), Below.refl _ _⟩
end Go.Proofs.YthnchjmbjeooiaaDoor
