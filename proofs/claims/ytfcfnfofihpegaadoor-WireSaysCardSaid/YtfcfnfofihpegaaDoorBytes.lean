/- Contracts of the document's helpers for bytes: a copy in new memory, whether two lists are the same, a number below a bound; and of bytes.Clone, over the seat's program. -/
import Derived.Test.YtfcfnfofihpegaaDoorBy
import Derived.Test.YtfcfnfofihpegaaDoorProg
import Derived.WalkKit
import Derived.BigQuiet
import Derived.Deep.QuietTactic
import Derived.Deep.RegionHeld3
import Derived.Deep.DeepAppendRoom
import Derived.Lib.SliceRun
namespace Go.Proofs.YtfcfnfofihpegaaDoor
open Go.RowKit Sm
theorem info_u8 : (Tryd.prog.info? 5).map (fun i => (i.zero, i.size, i.bytes)) = some (some (.int .u8 0), 1, 1) := by kernel_rfl
theorem rbytes_any (A : Option Addr) (n c : Nat) (xs : List Int) (w : World) (h : BR w A n xs) (hn : n ≤ 1048576) :
    Calls Tryd.prog 21 #[.slice A n c] w fun e w' => ∃ g c', e = .returned (.slice (some ⟨g, 0, none⟩) n c') ∧ w'.ownsRow w.heap.size 5 1 (.slice (some ⟨g, 0, none⟩) n c') n (B8 xs) ∧ Below w.heap.size w w' := by
  obtain ⟨i0, hi, hz0, hz1, hz2⟩ := info_parts info_u8
  have hl := h.len
  go_enter Tryd.func21, Tryd.ntmps21
  go_wp2_with (at_make; refine wpList_make_own _ rfl _ _ 29 rfl w.heap.size 5 i0 (.int .u8 0) 1 Tryd.underlying29 hi hz0 hz1 .i64 .i64 _ n rfl rfl rfl (by rw [hz2]; omega) (by unfold maxLen; omega) (Nat.le_refl _) ?_; intro w0 hown0 hgrow0)
  have hb0 : Below w.heap.size w w0 := (Below.refl _ _).grown hgrow0 (Nat.le_refl _) (by intro k hk; cases hk)
  generalize hG : w.heap.size = G at *
  go_loopw [3, 4] (fun v i wr => ∃ k : Nat, k ≤ n ∧ i = .int .i64 k ∧ v = .slice (some ⟨G, 0, none⟩) k n ∧ wr.ownsRow G 5 1 (.slice (some ⟨G, 0, none⟩) k n) k (B8 (xs.take k)) ∧ Below G w wr) (fun _ i _ => n - (intOf i).toNat)
  case atStart => exact ⟨0, Nat.zero_le _, rfl, rfl, by simpa [B8] using hown0, hb0⟩
  case round =>
    obtain ⟨k, hk, rfl, rfl, hown, hbw⟩ := hrel
    rcases Nat.lt_or_ge k n with hlt | hge
    · obtain ⟨b, o, rfl, hlt0, hc0⟩ := (h.next (hG ▸ hbw)).at_ hlt
      have HT := Lib.hid (take_succ_getD xs k (by omega))
      generalize xs.getD k 0 = u at *
      generalize List.take k xs = L at *
      have hi0 : (k : Int) < n := by omega
      go_wp2_with (at_builtin; refine wpList_append_own_spare _ rfl _ _ 29 rfl G 5 i0 1 Tryd.underlying29 hi hz1 G k n _ rfl (hown.alloc _) ⟨wr.heap.size, 0, none⟩ 1 1 [.int .u8 u] rfl rfl (cell_one_new _ _ _) (by intro x hx; simp at hx; subst hx; rfl) (by omega) ?_; intro w1 hown1 hgrow1)
      have hb1 : Below G w w1 := (hbw.alloc (hG ▸ hbw.size) _).grown hgrow1 (by simp; have := hbw.size; omega) (by intro k hk; cases hk; exact Nat.le_refl _)
      go_roundw
      case rel => exact ⟨k + 1, by omega, by go_num, rfl, by rw [HT.out, B8_app]; exact hown1, hb1⟩
      case measure => simp [intOf]; omega
    · obtain rfl : k = n := by omega
      rw [List.take_of_length_le (by omega)] at hown
      subst hG
      go_wp2
      go_ret
      exact ⟨w.heap.size, k, rfl, hown, hbw⟩
theorem same_any (A B : Option Addr) (n m c d : Nat) (xs ys : List Int) (w : World) (h : BR w A n xs) (g : BR w B m ys) (hn : n ≤ 1048576) (hm : m ≤ 1048576) :
    Calls Tryd.prog 16 #[.slice A n c, .slice B m d] w fun e w' => e = .returned (.bool (decide (xs = ys))) ∧ Below w.heap.size w w' := by
  have hl := h.len
  have gl := g.len
  by_cases he : n = m
  · subst he
    have hne : ((n : Int) != (n : Int)) = false := by simp
    go_enter Tryd.func16, Tryd.ntmps16
    go_wp2_with fail
    go_loopw [5] (fun i wr => ∃ k : Nat, k ≤ n ∧ i = .int .i64 k ∧ Below w.heap.size w wr ∧ xs.take k = ys.take k) (fun i _ => n - (intOf i).toNat)
    case atStart => exact ⟨0, Nat.zero_le _, rfl, Below.refl _ _, rfl⟩
    case round =>
      obtain ⟨k, hk, rfl, hbw, hs⟩ := hrel
      rcases Nat.lt_or_ge k n with hlt | hge
      · obtain ⟨b, o, rfl, _, hc0⟩ := (h.next hbw).at_ hlt
        obtain ⟨b', o', rfl, _, hc1⟩ := (g.next hbw).at_ hlt
        have HT := Lib.hid (take_succ_getD xs k (by omega))
        have GT := Lib.hid (take_succ_getD ys k (by omega))
        have hi0 : (k : Int) < n := by omega
        have HB := Lib.hid hbw
        have HS := Lib.hid hs
        by_cases hv : xs.getD k 0 = ys.getD k 0
        · have hve : (xs.getD k 0 == ys.getD k 0) = true := by simpa using hv
          have HV := Lib.hid hv
          clear hbw hs hv
          generalize xs.getD k 0 = u at *
          generalize ys.getD k 0 = v at *
          go_wp2_with fail
          go_quiet (fail)
          go_wp2
          go_roundw
          case rel => exact ⟨k + 1, by omega, by go_num, below_drewN HB.out _, by rw [HT.out, GT.out, HS.out, HV.out]⟩
          case measure => simp [intOf]; omega
        · have hve : (xs.getD k 0 == ys.getD k 0) = false := by simpa using hv
          have HV := Lib.hid (show decide (xs = ys) = false by
            rw [decide_eq_false_iff_not]; rintro rfl; exact hv rfl)
          clear hbw hs hv
          generalize xs.getD k 0 = u at *
          generalize ys.getD k 0 = v at *
          go_wp2_with fail
          go_quiet (fail)
          go_wp2
          go_ret
          exact ⟨ret_bool HV.out.symm, below_drewN HB.out _⟩
      · obtain rfl : k = n := by omega
        rw [List.take_of_length_le (by omega), List.take_of_length_le (by omega)] at hs
        go_wp2
        go_ret
        exact ⟨ret_bool (by simp [hs]), hbw⟩
  · have hne : ((n : Int) != (m : Int)) = true := by simp; omega
    go_enter Tryd.func16, Tryd.ntmps16
    go_wp2
    go_ret
    exact ⟨ret_bool (by rw [eq_comm, decide_eq_false_iff_not]; rintro rfl; omega), Below.refl _ _⟩
theorem number_any (x b : Int) (w : World) (hb : 0 < b) (hb1 : b ≤ 1000000000) :
    Calls Tryd.prog 20 #[.int .i64 x, .int .i64 b] w fun e w' => e = .returned (.int .i64 (x % b)) ∧ w = w' := by
  have hb0 : 0 ≤ x % b := Int.emod_nonneg _ (by omega)
  have hb2 : x % b < b := Int.emod_lt_of_pos _ hb
  have ht : x.tmod b = x % b ∨ (x.tmod b = x % b - b ∧ x.tmod b < 0) := by
    have e := Int.tmod_eq_emod (a := x) (b := b)
    split at e
    · exact .inl (by omega)
    · exact .inr (by omega)
  go_enter Tryd.func20, Tryd.ntmps20
  go_wp2
  all_goals
    go_ret
    refine ⟨ret_int ?_, rfl⟩
  · omega
  · omega
theorem clone_any (A : Option Addr) (n c : Nat) (xs : List Int) (w : World) (h : BR w A n xs) (hn : n ≤ 1048576) :
    Calls Tryd.prog 47 #[.slice A n c] w fun e w' => ∃ A' c', e = .returned (.slice A' n c') ∧ w'.ownsRow w.heap.size 5 1 (.slice A' n c') n (B8 xs) ∧ Below w.heap.size w w' := by
  obtain ⟨i0, hi, hz0, hz1, hz2⟩ := info_parts info_u8
  have hl := h.len
  have q22 : ∀ (w : World) (a : Option Addr) (n c n' c' : Nat), (binOp .eql 29 (.slice a n c) (.slice none n' c')).run Tryd.prog w = .ok (.bool a.isNone) w := fun w a n c n' c' => Lib.run_eql_slice_nil w _ _ a n c n' c' Tryd.underlying29
  rcases A with _ | a
  · have h0 : n = 0 := by
      rcases Nat.eq_zero_or_pos n with h0 | h0
      · exact h0
      · obtain ⟨b, o, e, _⟩ := h.2.2 h0
        cases e
    subst h0
    obtain rfl : xs = [] := List.eq_nil_of_length_eq_zero hl
    go_enter Tryd.func47, Tryd.ntmps47
    go_wp2
    go_ret
    exact ⟨none, 0, rfl, World.ownsRow_nil _ _ _ _, Below.refl _ _⟩
  · have hc : ∀ j u, (B8 xs)[j]? = some u → w.cell? (a.add j) = some u := fun j u hj => by
      have hjn : j < n := by
        have := (List.getElem?_eq_some_iff.1 hj).1
        rw [B8_len] at this
        omega
      obtain ⟨b, o, e, _, hc⟩ := h.2.2 (by omega)
      cases e
      rw [WideShapes.add_plain, hc j hjn, ← hj, B8_at (by omega)]
    have A := Lib.hid hc
    clear hc
    go_enter Tryd.func47, Tryd.ntmps47
    go_wp2_with (at_builtin; refine wpList_append_own _ rfl _ _ 29 rfl w.heap.size 5 i0 (.int .u8 0) 1 1 Tryd.underlying29 hi hz0 hz1 hz2 rfl (by decide) _ _ _ rfl (World.ownsRow_made w #[] 0 (Nat.le_refl _) (Nat.zero_le _) rfl) a n c (B8 xs) rfl (by rw [B8_len]; omega) (fun j u hj => Lib.cell?_alloc_some _ (A.out j u hj)) (B8_one xs) (by unfold maxLen; omega) (by omega) (by simp) ?_; intro v' w1 hown hgrow hnil)
    go_wp2
    go_ret
    rw [Nat.zero_add, List.nil_append] at hown
    have hb : Below w.heap.size w w1 := ((Below.refl _ w).alloc (Nat.le_refl _) _).grown hgrow (by simp) (by intro k hk; have e : w.heap.size = k := Option.some.inj hk; omega)
    rcases hown.2 with ⟨rfl, rfl⟩ | ⟨g, cap, cur, rfl, _⟩
    · exact ⟨none, 0, rfl, hown, hb⟩
    · exact ⟨some ⟨g, 0, none⟩, cap, rfl, hown, hb⟩
end Go.Proofs.YtfcfnfofihpegaaDoor
