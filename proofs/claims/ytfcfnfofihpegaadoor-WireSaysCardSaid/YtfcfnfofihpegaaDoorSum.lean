/- Contracts of package sum's readers: word, fold, Of, Check, over the seat's program. -/
import Derived.Test.YtfcfnfofihpegaaDoorBy
import Derived.Test.YtfcfnfofihpegaaDoorProg
import Derived.WalkKit
import Derived.BigQuiet
import Derived.Deep.QuietTactic
import Derived.Deep.RegionHeld3
namespace Go.Proofs.YtfcfnfofihpegaaDoor
open Go.RowKit Sm
theorem ival {k : IntKind} {a b : Int} (h : a = b) : Value.int k a = Value.int k b := by rw [h]
theorem word_any (a b : Int) (w : World) (ha0 : 0 ≤ a) (ha : a ≤ 255) (hb0 : 0 ≤ b) (hb : b ≤ 255) :
    Calls Tryd.prog 57 #[.int .u8 a, .int .u8 b] w fun e w' => e = .returned (.int .u16 (a * 256 + b)) ∧ w = w' := by
  go_enter Tryd.func57, Tryd.ntmps57
  go_wp2
  go_ret
  exact ⟨ret_int (or_u16 a b ha0 ha hb0 hb), rfl⟩
theorem fold_any (t : Int) (w : World) (h0 : 0 ≤ t) (h1 : t < 18446744073709551616) :
    Calls Tryd.prog 58 #[.int .u64 t] w fun e w' => e = .returned (.int .u16 (oc t)) ∧ w = w' := by
  go_enter Tryd.func58, Tryd.ntmps58
  go_wp2_with fail
  go_loop [0] (fun a => ∃ x : Int, a = .int .u64 x ∧ 0 ≤ x ∧ x < 18446744073709551616 ∧ Hid (oc x = oc t)) (fun a => (intOf a).toNat)
  case atStart => exact ⟨t, rfl, h0, h1, rfl⟩
  case round =>
    obtain ⟨x, rfl, hx0, hx1, ho⟩ := hrel
    rcases Int.lt_or_le x 65536 with h | h
    · go_wp2
      go_ret
      exact ⟨ret_int (by rw [← ho.out, oc_small hx0 (by omega)]), rfl⟩
    · go_wp2
      go_round
      case rel => exact ⟨x / 65536 + x % 65536, ival (fold_step h hx1).1, by omega, by omega, (oc_fold hx0).trans ho.out⟩
      case measure =>
        have := (fold_step h hx1)
        simp only [intOf]
        rw [this.1]
        omega
theorem of_any (A : Option Addr) (n c : Nat) (xs : List Int) (w : World) (h : BR w A n xs) (hn : n ≤ 1048576) :
    Calls Tryd.prog 48 #[.slice A n c] w fun e w' => e = .returned (.int .u16 (sum xs)) ∧ Below w.heap.size w w' := by
  have hl := h.len
  have HW : ∀ (a b : Int), 0 ≤ a → a ≤ 255 → 0 ≤ b → b ≤ 255 → ∀ W, Calls Tryd.prog 57 #[.int .u8 a, .int .u8 b] W fun e w' => e = .returned (.int .u16 (a * 256 + b)) ∧ W = w' := fun a b h1 h2 h3 h4 W => word_any a b W h1 h2 h3 h4
  go_enter Tryd.func48, Tryd.ntmps48
  go_wp2_with fail
  go_loopw [3, 4] (fun t i wr => ∃ k : Nat, k ≤ n ∧ k % 2 = 0 ∧ i = .int .i64 k ∧ t = .int .u64 (tot (xs.take k)) ∧ Below w.heap.size w wr) (fun _ i _ => n + 2 - (intOf i).toNat)
  case atStart => exact ⟨0, Nat.zero_le _, rfl, rfl, by simp [tot], Below.refl _ _⟩
  case round =>
    obtain ⟨k, hk, hk2, rfl, rfl, hbw⟩ := hrel
    have htb := tot_bd (h.isB.take k)
    have hbd0 := h.isB.at_ k
    have hbd1 := h.isB.at_ (k + 1)
    rcases Nat.lt_or_ge (k + 1) n with hlt | hge
    · have HT := Lib.hid (tot_step2 xs k (by omega) hk2)
      have HB := Lib.hid hbw
      obtain ⟨b, o, rfl, hlt0, hc⟩ := (h.next hbw).2.2 (by omega)
      have hc0 := hc k (by omega)
      have hc1 := hc (k + 1) (by omega)
      have hi0 : (k : Int) < n := by omega
      have hi1 : (k : Int) + 1 < n := by omega
      have hwr : IntKind.i64.wrap ((k : Int) + 1) = ((k + 1 : Nat) : Int) := (IntWalk.i64_in _ (by omega)).trans (by omega)
      generalize xs.getD k 0 = u at *
      generalize xs.getD (k + 1) 0 = v at *
      generalize tot (List.take k xs) = T at *
      have H2 := Lib.hid hk2
      have H3 := Lib.hid hl
      clear hc hbw hk2 hl h
      go_wp2_with fail
      go_quiet ((go_at_call 57; exact (Calls.quiet_of_same ((HW u v (by omega) (by omega) (by omega) (by omega) _).mono fun _ _ hh => ⟨hh.1, hh.2.symm⟩))))
      go_wp2
      go_roundw
      case rel => exact ⟨k + 2, by omega, by have := H2.out; omega, by go_num, ival ((IntWalk.u64_in _ (by have := List.length_take_le k xs; have := H3.out; simp at htb; omega)).trans (HT.out).symm), below_drewN HB.out _⟩
      case measure => simp [intOf]; omega
    · have HF : ∀ T, 0 ≤ T → T ≤ 18446744073709551615 → ∀ W, Calls Tryd.prog 58 #[.int .u64 T] W fun e w' => e = .returned (.int .u16 (oc T)) ∧ W = w' := fun T h1 h2 W => fold_any T W h1 (by omega)
      have hT : tot (xs.take k) + (if n % 2 = 0 then 0 else xs.getD k 0 * 256) = tot xs := by
        split
        · rw [Int.add_zero, List.take_of_length_le (by omega)]
        · rw [← tot_step_even xs k (by omega) hk2, List.take_of_length_le (by omega)]
      have htx := tot_bd h.isB
      have hoc := oc_bd htx.1
      rcases Nat.mod_two_eq_zero_or_one n with h2 | h2
      · rw [if_pos h2, Int.add_zero] at hT
        have hm : (n : Int) % 2 = 0 := by omega
        rw [hT]
        generalize hTT : tot xs = T at *
        generalize hOO : oc T = O at *
        have HT := Lib.hid hTT
        have HO := Lib.hid hOO
        have HB := Lib.hid hbw
        have H3 := Lib.hid hl
        clear hbw hT hTT hOO hl h HW h2
        go_wp2_with fail
        refine (HF T (by omega) (by have := H3.out; omega) wr).mono ?_
        rintro e w1 ⟨rfl, rfl⟩
        rw [HO.out]
        go_wp2
        go_ret
        exact ⟨ret_int (xor_u16 hoc.1 hoc.2 (by rw [← HO.out, ← HT.out]; rfl)), HB.out⟩
      · rw [if_neg (by omega)] at hT
        have hm : (n : Int) % 2 = 1 := by omega
        have hkn : n = k + 1 := by omega
        have HB := Lib.hid hbw
        obtain ⟨b, o, rfl, hlt0, hc0⟩ := (h.next hbw).at_ (show k < n by omega)
        generalize xs.getD k 0 = u at *
        generalize tot (List.take k xs) = T at *
        generalize hTT : tot xs = X at *
        generalize hOO : oc X = O at *
        have hwx : IntKind.u64.wrap (T + u * 256) = X := (IntWalk.u64_in _ (by omega)).trans hT
        have HTT := Lib.hid hTT
        have HT := Lib.hid hT
        have HO := Lib.hid hOO
        have H3 := Lib.hid hl
        have hi0 : (n : Int) - 1 < n := by omega
        have hi1 : (0 : Int) ≤ (n : Int) - 1 := by omega
        have hni : (n : Int) - 1 = (k : Nat) := by omega
        clear hbw hT hTT hOO hl h hk2
        subst hkn
        go_wp2_with fail
        refine (HW u 0 (by omega) (by omega) (by omega) (by omega) wr).mono ?_
        rintro e w1 ⟨rfl, rfl⟩
        go_wp2_with fail
        refine (HF X (by omega) (by have := H3.out; omega) wr).mono ?_
        rintro e w1 ⟨rfl, rfl⟩
        rw [HO.out]
        go_wp2
        go_ret
        exact ⟨ret_int (xor_u16 hoc.1 hoc.2 (by rw [← HO.out, ← HTT.out]; rfl)), HB.out⟩
theorem check_any (A : Option Addr) (n c : Nat) (xs : List Int) (w : World) (h : BR w A n xs) (hn : n ≤ 1048576) :
    Calls Tryd.prog 51 #[.slice A n c] w fun e w' => e = .returned (.bool (decide (oc (tot xs) = 65535))) ∧ Below w.heap.size w w' := by
  have H := of_any A n c xs w h hn
  go_enter Tryd.func51, Tryd.ntmps51
  go_wp2_with fail
  refine H.mono ?_
  rintro e w1 ⟨rfl, hb⟩
  go_wp2
  go_ret
  exact ⟨ret_bool (by unfold sum; rw [Bool.eq_iff_iff]; simp; omega), hb⟩
end Go.Proofs.YtfcfnfofihpegaaDoor
