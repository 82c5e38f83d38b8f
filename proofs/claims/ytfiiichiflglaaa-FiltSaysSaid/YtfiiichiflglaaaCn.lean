/- slices.Concat of lists of addresses: what they hold, one behind another, in new memory; over the seat's program. -/
import Derived.Test.YtfiiichiflglaaaVs
import Derived.Test.YtfiiichiflglaaaCf
import Derived.Test.YtfiiichiflglaaaIt
import Derived.Test.YtfiiichiflglaaaAppA
namespace Go.Proofs.Ytfiiichiflglaaa
open Go.RowKit Go.Maps Sm
/-- a list in a row of lists -/
def CS : Mb → List Value := fun m => [.slice m.A m.n m.c]
structure MS (w : World) (A : Option Addr) (n : Nat) (ms : List Mb) : Prop where
  r : RI CS 1 w A n ms
  a : ∀ m ∈ ms, AR w m.A m.n m.xs
theorem MS.next {w w' : World} {A : Option Addr} {n : Nat} {ms : List Mb} (h : MS w A n ms) (hb : Below w.heap.size w w') : MS w' A n ms := ⟨h.r.next hb, fun m hm => (h.a m hm).next hb⟩
/-- all that lists hold, one behind another -/
def flat (ms : List Mb) : List Int := ms.flatMap (·.xs)
theorem flat_take {ms : List Mb} {k : Nat} {m : Mb} (h : ms[k]? = some m) : flat (ms.take (k + 1)) = flat (ms.take k) ++ m.xs := by
  unfold flat
  rw [List.take_add_one, h]
  simp
theorem flat_le (ms : List Mb) (k : Nat) : (flat (ms.take k)).length ≤ (flat ms).length := by
  unfold flat
  conv => rhs; rw [← List.take_append_drop k ms, List.flatMap_append, List.length_append]
  omega
theorem MS.cell {w : World} {A : Option Addr} {n k : Nat} {ms : List Mb} (h : MS w A n ms) (hk : k < n) : ∃ b o m, A = some ⟨b, o, none⟩ ∧ b < w.heap.size ∧ ms[k]? = some m ∧ w.cell? ⟨b, o + k, none⟩ = some (.slice m.A m.n m.c) ∧ AR w m.A m.n m.xs := by
  obtain ⟨b, o, m, hA, hb, hm, hc⟩ := h.r.at_ hk
  have := hc 0 _ rfl
  rw [Nat.mul_one, Nat.add_zero] at this
  exact ⟨b, o, m, hA, hb, hm, this, h.a m (List.mem_of_getElem? hm)⟩
theorem grow0_any (n : Nat) (w : World) (hn : n ≤ 1000000) : Calls Try.prog 31 #[.slice none 0 0, .int .i64 (n : Int)] w fun e w' => ∃ v, e = .returned v ∧ w'.ownsRow w.heap.size 27 1 v 0 (A32 []) ∧ Below w.heap.size w w' := by
  rcases Nat.eq_zero_or_pos n with rfl | hp
  · refine (Any8.slices_Grow_room Try.growA none 0 0 0 w (by omega) (by omega) (by omega) (by omega)).mono ?_
    rintro e w' ⟨rfl, rfl⟩
    exact ⟨_, rfl, World.ownsRow_nil _ _ _ _, Below.refl _ _⟩
  · obtain ⟨i, hi, hz, hsz, hby⟩ := infoA'
    refine (Any8.slices_Grow_grow Try.growA i (.int .u32 0) hi hz (by omega) none 0 0 n [] w (by omega) (by omega) (by rw [hby]; omega) (by omega) (by simp) (fun _ => rfl) (fun a h => by cases h)).mono ?_
    rintro e w' ⟨rfl, rfl⟩
    have hge := grownCap_ge w n 0 27
    have hle := grownCap_le_maxLen w n 0 27 (by unfold maxLen; omega)
    refine ⟨_, rfl, ⟨rfl, .inr ⟨w.heap.size, _, _, rfl, Nat.le_refl _, heap_alloc_new _ _, by omega, ?_, ?_, rfl⟩⟩, ((Below.refl _ w).drew).alloc (Nat.le_refl _) _⟩
    · simp only [Nat.zero_add]; exact hle
    · simp only [Nat.zero_add]
      simp [Builtin.zeroCells, Value.cells]
      exact Nat.add_sub_cancel' hge
set_option maxHeartbeats 4000000 in
theorem concat_any (A : Option Addr) (n c : Nat) (ms : List Mb) (w : World) (h : MS w A n ms) (hn : n ≤ 1000000) (hs : (flat ms).length ≤ 1000000) :
    Calls Try.prog 23 #[.slice A n c] w fun e w' => ∃ (A' : Option Addr) (c' : Nat), e = .returned (.slice A' (flat ms).length c') ∧ w'.ownsRow w.heap.size 27 1 (.slice A' (flat ms).length c') (flat ms).length (A32 (flat ms)) ∧ Below w.heap.size w w' := by
  have H := Lib.hid h
  have HL := Lib.hid h.r.len
  have HG := Lib.hid (grow0_any (flat ms).length w hs)
  clear h
  go_enter Try.func23, Try.ntmps23
  go_wp2
  go_loopw [3, 11] (fun sv iv wr => ∃ k s : Nat, k ≤ n ∧ s ≤ 1000000 ∧ sv = .int .i64 (s : Int) ∧ iv = .int .i64 (k : Int) ∧ Hid (s = (flat (ms.take k)).length) ∧ w = wr) (fun _ iv _ => n - (intOf iv).toNat)
  case atStart => exact ⟨0, 0, Nat.zero_le _, by omega, rfl, rfl, Lib.hid rfl, rfl⟩
  case round =>
    obtain ⟨k, s, hk, hs2, rfl, rfl, HS, rfl⟩ := hrel
    rcases Nat.lt_or_ge k n with hlt | hge
    · obtain ⟨b, o, m, rfl, hb, hm, hc, hr⟩ := H.out.cell hlt
      have hi0 : (k : Int) < (n : Int) := by omega
      have HS2 : Hid (s + m.n = (flat (ms.take (k + 1))).length) := Lib.hid (by rw [flat_take hm, List.length_append, ← HS.out, hr.len])
      have hle := flat_le ms (k + 1)
      rw [← HS2.out] at hle
      have hsn : s + m.n ≤ 1000000 := by omega
      have q2 : ¬ (s : Int) + (m.n : Int) < 0 := by omega
      generalize m.n = mn at *
      clear hm hr hle
      go_wp2
      go_roundw
      case rel => exact ⟨k + 1, s + mn, by omega, by omega, by go_num, by go_num, HS2, trivial⟩
      case measure => simp [intOf]; omega
    · have q1 : ¬ (k : Int) < (n : Int) := by omega
      have HS2 : Hid (s = (flat ms).length) := Lib.hid (by rw [HS.out, show k = n by omega, ← HL.out, List.take_length])
      rw [HS2.out]
      go_wp2_with (go_at_call 31; (with_reducible refine HG.out.mono ?_); rintro e w1 ⟨v, rfl, hr1, hb1⟩)
      have HR1 := Lib.hid hr1
      have HB1 := Lib.hid hb1
      clear hr1 hb1 q1
      go_wp2_with fail
      go_loopw [6, 27] (fun rv iv wk => ∃ k : Nat, k ≤ n ∧ iv = .int .i64 (k : Int) ∧ Hid (wk.ownsRow w.heap.size 27 1 rv (flat (ms.take k)).length (A32 (flat (ms.take k)))) ∧ Hid (Below w.heap.size w wk)) (fun _ iv _ => n - (intOf iv).toNat)
      case atStart => exact ⟨0, Nat.zero_le _, rfl, HR1, HB1⟩
      case round =>
        clear HR1 HB1
        obtain ⟨k, hk, rfl, HO, HB⟩ := hrel
        rcases Nat.lt_or_ge k n with hlt | hge
        · obtain ⟨b, o, m, rfl, hb, hm, hc, hr⟩ := (H.out.next HB.out).cell hlt
          have hi0 : (k : Int) < (n : Int) := by omega
          have ht := flat_take hm
          have hle := flat_le ms (k + 1)
          have HT : Hid (flat (ms.take (k + 1)) = flat (ms.take k) ++ m.xs ∧ (flat (ms.take k)).length + m.n = (flat (ms.take (k + 1))).length) := Lib.hid ⟨ht, by rw [ht, List.length_append, hr.len]⟩
          have HM := Lib.hid hr
          have hn1 : (flat (ms.take k)).length ≤ 1048576 := by have := HT.out.2; omega
          have hn2 : m.n ≤ 1048576 := by have := HT.out.2; omega
          clear hm hr hle ht
          go_wp2_with (at_builtin; refine wpList_appA rfl _ _ rfl w.heap.size _ (flat (ms.take k)).length _ rfl HO.out m.A m.n m.c m.xs rfl HM.out hn1 hn2 HB.out.size ?_; intro v6 w6 hown6 hb6)
          rw [HT.out.2, ← HT.out.1] at hown6
          have HO6 := Lib.hid hown6
          have HB6 := Lib.hid (HB.out.trans hb6)
          clear hown6 hb6
          go_wp2
          go_roundw
          case rel => exact ⟨k + 1, by omega, by go_num, HO6, HB6⟩
          case measure => simp [intOf]; omega
        · have q1 : ¬ (k : Int) < (n : Int) := by omega
          have hF : flat (ms.take k) = flat ms := by rw [show k = n by omega, ← HL.out, List.take_length]
          have HO2 := HO
          rw [hF] at HO2
          have HO3 := HO2.out
          clear hF HO
          obtain ⟨A', c', rfl, _, _⟩ := own_slice HO3
          go_wp2
          go_ret
          exact ⟨A', c', rfl, HO3, HB.out⟩
end Go.Proofs.Ytfiiichiflglaaa

