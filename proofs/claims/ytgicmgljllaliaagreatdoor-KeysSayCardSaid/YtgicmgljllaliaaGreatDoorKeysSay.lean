/- The document's keys: LessKey, Keys, PutKey, SortKeys, Sent, Groups, AllKeys, Known; and the law: Less, Sort, All, Sent, Known answer as the document has them; walked. -/
import Derived.Test.YtgicmgljllaliaaGreatDoorAppA
import Derived.Test.YtgicmgljllaliaaGreatDoorAs
import Derived.Test.YtgicmgljllaliaaGreatDoorKt
import Derived.Test.YtgicmgljllaliaaGreatDoorRg
import Derived.Test.YtgicmgljllaliaaGreatDoorKy
import Derived.WalkKit
import Derived.Deep.DeepAppendRoom
import Derived.Lib.SliceRun
import Derived.Deep.Cut
import Derived.Deep.RegionHeld3
namespace Go.Proofs.YtgicmgljllaliaaGreatDoor
open Go.RowKit Sm
set_option maxHeartbeats 2000000 in
theorem raddrs_any (A : Option Addr) (n c : Nat) (xs : List Int) (w : World) (h : AR w A n xs) (hn : n ≤ 1000000) :
    Calls Tryz.prog 116 #[.slice A n c] w fun e w' => ∃ v, e = .returned v ∧ w'.ownsRow w.heap.size 42 1 v n (A32 xs) ∧ Below w.heap.size w w' := by
  obtain ⟨i0, hi, hz0, hz1, hz2⟩ := infoA'
  have hl := h.len
  have H := Lib.hid h
  clear h
  go_enter Tryz.func116, Tryz.ntmps116
  go_wp2_with (at_make; refine wpList_make_own _ rfl _ _ 56 rfl w.heap.size 42 i0 (.int .u32 0) 1 Tryz.underlying56 hi hz0 hz1 .i64 .i64 _ n rfl rfl rfl (by rw [hz2]; omega) (by unfold maxLen; omega) (Nat.le_refl _) ?_; intro w0 hown0 hgrow0)
  have HB0 := Lib.hid ((Below.refl _ _).grown hgrow0 (Nat.le_refl _) (by intro k hk; cases hk))
  have HO0 : Hid (w0.ownsRow w.heap.size 42 1 (.slice (some ⟨w.heap.size, 0, none⟩) 0 n) 0 (A32 (xs.take 0))) := Lib.hid (by simpa [A32] using hown0)
  clear hown0 hgrow0
  go_loopw [3, 4] (fun v iv wr => ∃ k : Nat, k ≤ n ∧ iv = .int .i64 (k : Int) ∧ Hid (wr.ownsRow w.heap.size 42 1 v k (A32 (xs.take k))) ∧ Hid (Below w.heap.size w wr)) (fun _ iv _ => n - (intOf iv).toNat)
  case atStart => exact ⟨0, Nat.zero_le _, rfl, HO0, HB0⟩
  case round =>
    obtain ⟨k, hk, rfl, HO, HB⟩ := hrel
    generalize u3 = v3 at *
    rcases Nat.lt_or_ge k n with hlt | hge
    · obtain ⟨b, o, rfl, hb, hx⟩ := (H.out.next HB.out).at_ hlt
      have hgk : xs[k]? = some (xs.getD k 0) := by rw [List.getD_eq_getElem?_getD, List.getElem?_eq_getElem (by omega)]; rfl
      have hia : isA (xs.getD k 0) := H.out.isAs _ (List.mem_of_getElem? hgk)
      have HT : Hid (xs.take k ++ [xs.getD k 0] = xs.take (k + 1)) := Lib.hid (by rw [List.take_add_one, hgk]; rfl)
      generalize xs.getD k 0 = u at *
      have hi0 : (k : Int) < (n : Int) := by omega
      have HO1 := Lib.hid (HO.out.alloc (.cells #[.int .u32 u] 42))
      have HB1 := Lib.hid (HB.out.alloc HB.out.size (.cells #[.int .u32 u] 42))
      clear HO hgk hb
      go_wp2_with (at_builtin; refine wpList_appA rfl _ _ rfl w.heap.size v3 k (xs.take k) rfl HO1.out _ 1 1 [u] rfl (ar_lit (Blk.new wr _ _) hia) (by omega) (by decide) HB1.out.size ?_; intro v6 w6 hown6 hb6)
      have HO6 : Hid (w6.ownsRow w.heap.size 42 1 v6 (k + 1) (A32 (xs.take (k + 1)))) := Lib.hid (by rw [← HT.out]; exact hown6)
      have HB6 := Lib.hid (HB1.out.trans hb6)
      clear hown6 hb6 HO1 HB1 HB hx
      go_wp2
      go_roundw
      case rel => exact ⟨k + 1, by omega, by go_num, HO6, HB6⟩
      case measure => simp [intOf]; omega
    · obtain rfl : k = n := by omega
      have q1 : ¬ (k : Int) < (k : Int) := by omega
      rw [List.take_of_length_le (by omega)] at HO
      go_wp2
      go_ret
      exact ⟨v3, rfl, HO.out, HB.out⟩
end Go.Proofs.YtgicmgljllaliaaGreatDoor
namespace Go.Proofs.YtgicmgljllaliaaGreatDoor
open Go.ChangeShapes Go.WideShapes Go.ChangeAt Go.RowKit Sm Go.Maps
/-! plain -/
def putI (xs : List Int) (a : Int) : Nat := (xs.takeWhile (fun x => decide (x < a))).length
def putP (xs : List Int) (a : Int) : List Int := if xs[putI xs a]? = some a then xs else xs.take (putI xs a) ++ [a] ++ xs.drop (putI xs a)
theorem putI_at {xs : List Int} {a : Int} : ∀ {k : Nat}, (∀ j, j < k → ∃ x, xs[j]? = some x ∧ x < a) → (∀ x, xs[k]? = some x → ¬ x < a) → putI xs a = k := by
  unfold putI
  induction xs with
  | nil =>
    intro k h1 _
    rcases Nat.eq_zero_or_pos k with h | h
    · subst h; rfl
    · obtain ⟨x, hx, _⟩ := h1 0 h
      simp at hx
  | cons y xs ih =>
    intro k h1 h2
    cases k with
    | zero =>
      have := h2 y rfl
      rw [List.takeWhile_cons, if_neg (by simpa using this)]
      rfl
    | succ k =>
      obtain ⟨x, hx, hlt⟩ := h1 0 (Nat.succ_pos _)
      simp at hx
      subst hx
      rw [List.takeWhile_cons, if_pos (by simpa using hlt), List.length_cons, ih (k := k) (fun j hj => by simpa using h1 (j + 1) (by omega)) (fun x hx => h2 x (by simpa using hx))]
theorem putI_le (xs : List Int) (a : Int) : putI xs a ≤ xs.length := by
  unfold putI
  exact (List.takeWhile_sublist _).length_le
theorem put_mem {xs : List Int} {a b : Int} : b ∈ putP xs a ↔ b ∈ xs ∨ b = a := by
  unfold putP
  split
  · rename_i h
    constructor
    · exact .inl
    · rintro (hb | rfl)
      · exact hb
      · exact List.mem_of_getElem? h
  · constructor
    · intro hb
      rw [List.mem_append, List.mem_append] at hb
      rcases hb with (hb | hb) | hb
      · exact .inl (List.mem_of_mem_take hb)
      · exact .inr (by simpa using hb)
      · exact .inl (List.mem_of_mem_drop hb)
    · rintro (hb | rfl)
      · rw [← List.take_append_drop (putI xs a) xs] at hb
        rcases List.mem_append.1 hb with hb | hb
        · exact List.mem_append_left _ (List.mem_append_left _ hb)
        · exact List.mem_append_right _ hb
      · exact List.mem_append_left _ (List.mem_append_right _ (by simp))
theorem put_len (xs : List Int) (a : Int) : (putP xs a).length ≤ xs.length + 1 := by
  unfold putP
  have := putI_le xs a
  split
  · omega
  · simp
    omega
theorem takeWhile_all {p : Int → Bool} : ∀ {xs : List Int} {x : Int}, x ∈ xs.take (xs.takeWhile p).length → p x = true
  | [], x, h => by simp at h
  | y :: xs, x, h => by
    rw [List.takeWhile_cons] at h
    by_cases hy : p y = true
    · rw [if_pos hy, List.length_cons, List.take_succ_cons, List.mem_cons] at h
      rcases h with rfl | h
      · exact hy
      · exact takeWhile_all h
    · rw [if_neg hy] at h
      simp at h
theorem takeWhile_next {p : Int → Bool} : ∀ {xs : List Int} {x : Int}, xs[(xs.takeWhile p).length]? = some x → p x = false
  | [], x, h => by simp at h
  | y :: xs, x, h => by
    rw [List.takeWhile_cons] at h
    by_cases hy : p y = true
    · rw [if_pos hy, List.length_cons, List.getElem?_cons_succ] at h
      exact takeWhile_next h
    · rw [if_neg hy] at h
      simp at h
      subst h
      simpa using hy
theorem put_lt {xs : List Int} {a : Int} (h : xs.Pairwise (· < ·)) : (putP xs a).Pairwise (· < ·) := by
  unfold putP
  split
  · exact h
  · rename_i hne
    have h1 : ∀ x ∈ xs.take (putI xs a), x < a := fun x hx => by simpa using takeWhile_all hx
    have h2 : ∀ x ∈ xs.drop (putI xs a), a < x := by
      intro x hx
      have hlen := putI_le xs a
      obtain ⟨j, hj, rfl⟩ := List.mem_iff_getElem.1 hx
      rw [List.length_drop] at hj
      have h0 : xs[putI xs a]? = some (xs[putI xs a]'(by omega)) := List.getElem?_eq_getElem _
      have h3 := takeWhile_next h0
      simp at h3
      have h4 : xs[putI xs a]'(by omega) ≠ a := fun e => hne (by rw [h0, e])
      rw [List.getElem_drop]
      rcases Nat.eq_zero_or_pos j with hz | hz
      · subst hz
        simp only [Nat.add_zero]
        omega
      · have := List.pairwise_iff_getElem.1 h (putI xs a) (putI xs a + j) (by omega) (by omega) (by omega)
        omega
    rw [List.pairwise_append]
    refine ⟨?_, h.sublist (List.drop_sublist _ _), ?_⟩
    · rw [List.pairwise_append]
      refine ⟨h.sublist (List.take_sublist _ _), List.pairwise_singleton _ _, fun x hx y hy => ?_⟩
      simp at hy
      subst hy
      exact h1 x hx
    · intro x hx y hy
      rcases List.mem_append.1 hx with hx | hx
      · have := h1 x hx
        have := h2 y hy
        omega
      · simp at hx
        subst hx
        exact h2 y hy
/-! the document's -/
theorem ar_head {W : World} {A : Option Addr} {n k : Nat} {xs : List Int} (h : AR W A n xs) (hk : k ≤ n) : AR W A k (xs.take k) := by
  refine ⟨by rw [List.length_take, h.len]; omega, fun x hx => h.isAs x (List.mem_of_mem_take hx), fun hp => ?_⟩
  obtain ⟨b, o, e, hl, hc⟩ := h.2.2 (by omega)
  refine ⟨b, o, e, hl, fun i hi => ?_⟩
  rw [hc i (by omega), List.getD_eq_getElem?_getD, List.getD_eq_getElem?_getD, List.getElem?_take, if_pos hi]
theorem ar_drop {W : World} {A B : Option Addr} {n k : Nat} {xs : List Int} (h : AR W A n xs) (hk : k ≤ n) (hB : k < n → B = A.map (·.add (k * 1))) : AR W B (n - k) (xs.drop k) := by
  refine ⟨by rw [List.length_drop, h.len], fun x hx => h.isAs x (List.mem_of_mem_drop hx), fun hp => ?_⟩
  obtain ⟨b, o, rfl, hl, hc⟩ := h.2.2 (by omega)
  refine ⟨b, o + k, by rw [hB (by omega), Option.map_some, add_plain, Nat.mul_one], hl, fun i hi => ?_⟩
  have := hc (k + i) (by omega)
  rw [show o + k + i = o + (k + i) by omega, this, List.getD_eq_getElem?_getD, List.getD_eq_getElem?_getD, List.getElem?_drop]
theorem putP_new {xs : List Int} {a : Int} {k : Nat} (hk : putI xs a = k) (hn : ∀ x, xs[k]? = some x → x ≠ a) : putP xs a = xs.take k ++ [a] ++ xs.drop k := by
  unfold putP
  rw [hk, if_neg]
  intro h
  exact hn a h rfl
set_option maxRecDepth 100000 in
set_option maxHeartbeats 4000000 in
theorem put_any (A : Option Addr) (n c : Nat) (xs : List Int) (a : Int) (w : World) (h : AR w A n xs) (hn : n ≤ 1000000) (hc : n ≤ c) (ha : isA a) :
    Calls Tryz.prog 64 #[.slice A n c, .int .u32 a] w fun e w' => ∃ (A' : Option Addr) (c' : Nat), e = .returned (.slice A' (putP xs a).length c') ∧ AR w' A' (putP xs a).length (putP xs a) ∧ (putP xs a).length ≤ c' ∧ Below w.heap.size w w' := by
  have hl := h.len
  obtain ⟨P, hP⟩ : ∃ P, putP xs a = P := ⟨_, rfl⟩
  rw [hP]
  have HP := Lib.hid hP
  clear hP
  have H := Lib.hid h
  have HI := Lib.hid ha
  clear h
  go_enter Tryz.func64, Tryz.ntmps64
  go_wp2_with fail
  go_loopw [5] (fun iv wr => ∃ k : Nat, k ≤ n ∧ iv = .int .i64 (k : Int) ∧ Hid (∀ j, j < k → ∃ x, xs[j]? = some x ∧ x < a) ∧ w = wr) (fun iv _ => n - (intOf iv).toNat)
  case atStart => exact ⟨0, Nat.zero_le _, rfl, Lib.hid (fun j h => absurd h (Nat.not_lt_zero _)), rfl⟩
  case round =>
    obtain ⟨k, hk, rfl, HJ, rfl⟩ := hrel
    rcases Nat.lt_or_ge k n with hlt | hge
    · obtain ⟨b, o, rfl, hb, hx⟩ := H.out.at_ hlt
      have hgk : xs[k]? = some (xs.getD k 0) := by rw [List.getD_eq_getElem?_getD, List.getElem?_eq_getElem (by omega)]; rfl
      generalize xs.getD k 0 = x at *
      have hi0 : (k : Int) < (n : Int) := by omega
      have hi1 : (0 : Int) ≤ (k : Int) := by omega
      cases hd : decide (x < a) with
      | true =>
        have HJ2 : Hid (∀ j, j < k + 1 → ∃ x, xs[j]? = some x ∧ x < a) := Lib.hid (fun j hj => by
          rcases Nat.lt_or_ge j k with h | h
          · exact HJ.out j h
          · obtain rfl : j = k := by omega
            exact ⟨x, hgk, by simpa using hd⟩)
        clear HJ hgk hb
        go_wp2
        go_roundw
        case rel => exact ⟨k + 1, by omega, by go_num, HJ2, trivial⟩
        case measure => simp [intOf]; omega
      | false =>
        have hK : putI xs a = k := putI_at HJ.out (fun y hy => by rw [hgk] at hy; cases hy; simpa using hd)
        cases he : (x == a) with
        | true =>
          have hput : P = xs := by
            rw [← HP.out]
            unfold putP
            rw [hK, hgk, if_pos (by rw [beq_iff_eq.1 he])]
          clear hgk HJ
          go_wp2
          go_ret
          rw [hput, hl]
          first | exact ⟨some ⟨b, o, none⟩, ⟨c, rfl⟩, H.out, hc, Below.refl _ _⟩ | exact ⟨some ⟨b, o, none⟩, c, rfl, H.out, hc, Below.refl _ _⟩
        | false =>
          have hput : P = xs.take k ++ [a] ++ xs.drop k := HP.out.symm.trans (putP_new hK (fun y hy => by rw [hgk] at hy; cases hy; intro e; rw [e] at he; simp at he))
          have HPT := Lib.hid hput
          have hne : ¬ c = k := by omega
          have hk1 : (k : Int) ≤ (c : Int) := by omega
          have hk2 : (n : Int) ≤ (c : Int) := by omega
          have hk3 : (k : Int) ≤ (n : Int) := by omega
          have hk4 : k ≤ c := by omega
          have HRA := Lib.hid (raddrs_any (some ⟨b, o, none⟩) k c (xs.take k) w (ar_head H.out hk) (by omega))
          clear hgk HJ hput hK
          go_upto_region 7 with (first
            | (go_at_call 116; (with_reducible refine HRA.out.mono ?_); rintro e w1 ⟨v1, rfl, hown1, hb1⟩)
            | (at_builtin; refine wpList_appA rfl _ _ rfl w.heap.size v1 k (xs.take k) rfl (hown1.alloc _) _ 1 1 [a] rfl (ar_lit (Blk.new w1 _ _) HI.out) (by omega) (by decide) (hb1.alloc hb1.size _).size ?_; intro v2 w2 hown2 hb2))
          have HB2 := Lib.hid ((hb1.alloc hb1.size _).trans hb2)
          have HO2 := Lib.hid hown2
          clear hown1 hown2 hb1 hb2
          go_wp2_with (at_builtin; refine wpList_appA rfl _ _ rfl w.heap.size v2 (k + 1) (xs.take k ++ [a]) rfl HO2.out _ _ _ (xs.drop k) rfl (ar_drop (H.out.next HB2.out) hk (fun h => by first | rfl | omega | rw [Option.map_some, add_plain, Nat.mul_one])) (by omega) (by omega) HB2.out.size ?_; intro v3 w3 hown3 hb3)
          rw [← HPT.out] at hown3
          rw [show k + 1 + (n - k) = P.length by rw [HPT.out]; simp; omega] at hown3
          obtain ⟨A9, c9, e9, hc9, har9, _⟩ := own_forma hown3 (fun y hy => by
            rw [HPT.out, List.mem_append, List.mem_append] at hy
            rcases hy with (hy | hy) | hy
            · exact H.out.isAs y (List.mem_of_mem_take hy)
            · simp at hy; subst hy; exact HI.out
            · exact H.out.isAs y (List.mem_of_mem_drop hy))
          subst e9
          go_ret
          have hb9 := HB2.out.trans hb3
          first | exact ⟨A9, ⟨c9, rfl⟩, har9, hc9, hb9⟩ | exact ⟨A9, c9, rfl, har9, hc9, hb9⟩
    · obtain rfl : k = n := by omega
      have hi0 : ¬ (k : Int) < (k : Int) := by omega
      have hK : putI xs a = k := putI_at HJ.out (fun y hy => by have := (List.getElem?_eq_some_iff.1 hy).1; omega)
      have hput : P = xs.take k ++ [a] ++ [] := by
        have := HP.out.symm.trans (putP_new hK (fun y hy => by have := (List.getElem?_eq_some_iff.1 hy).1; omega))
        rw [List.drop_of_length_le (by omega)] at this
        exact this
      have HPT := Lib.hid hput
      have hk1 : (k : Int) ≤ (c : Int) := by omega
      have hk2 : (0 : Int) ≤ (k : Int) := by omega
      have HRA := Lib.hid (raddrs_any A k c (xs.take k) w (ar_head H.out (Nat.le_refl _)) (by omega))
      clear HJ hput hK
      by_cases hne : c = k
      · have hcn := hne.symm
        subst hcn
        go_upto_region 7 with (first
          | (go_at_call 116; (with_reducible refine HRA.out.mono ?_); rintro e w1 ⟨v1, rfl, hown1, hb1⟩)
          | (at_builtin; refine wpList_appA rfl _ _ rfl w.heap.size v1 k (xs.take k) rfl (hown1.alloc _) _ 1 1 [a] rfl (ar_lit (Blk.new w1 _ _) HI.out) (by omega) (by decide) (hb1.alloc hb1.size _).size ?_; intro v2 w2 hown2 hb2))
        have HB2 := Lib.hid ((hb1.alloc hb1.size _).trans hb2)
        have HO2 := Lib.hid hown2
        clear hown1 hown2 hb1 hb2
        go_wp2_with (at_builtin; refine wpList_appA rfl _ _ rfl w.heap.size v2 (k + 1) (xs.take k ++ [a]) rfl HO2.out _ _ _ [] rfl (AR.none_ _ _) (by omega) (by decide) HB2.out.size ?_; intro v3 w3 hown3 hb3)
        rw [← HPT.out] at hown3
        rw [show k + 1 + 0 = P.length by rw [HPT.out]; simp; omega] at hown3
        obtain ⟨A9, c9, e9, hc9, har9, _⟩ := own_forma hown3 (fun y hy => by
          rw [HPT.out, List.mem_append, List.mem_append] at hy
          rcases hy with (hy | hy) | hy
          · exact H.out.isAs y (List.mem_of_mem_take hy)
          · simp at hy; subst hy; exact HI.out
          · cases hy)
        subst e9
        go_ret
        have hb9 := HB2.out.trans hb3
        first | exact ⟨A9, ⟨c9, rfl⟩, har9, hc9, hb9⟩ | exact ⟨A9, c9, rfl, har9, hc9, hb9⟩
      · skip
        go_upto_region 7 with (first
          | (go_at_call 116; (with_reducible refine HRA.out.mono ?_); rintro e w1 ⟨v1, rfl, hown1, hb1⟩)
          | (at_builtin; refine wpList_appA rfl _ _ rfl w.heap.size v1 k (xs.take k) rfl (hown1.alloc _) _ 1 1 [a] rfl (ar_lit (Blk.new w1 _ _) HI.out) (by omega) (by decide) (hb1.alloc hb1.size _).size ?_; intro v2 w2 hown2 hb2))
        have HB2 := Lib.hid ((hb1.alloc hb1.size _).trans hb2)
        have HO2 := Lib.hid hown2
        clear hown1 hown2 hb1 hb2
        go_wp2_with (at_builtin; refine wpList_appA rfl _ _ rfl w.heap.size v2 (k + 1) (xs.take k ++ [a]) rfl HO2.out _ _ _ [] rfl (AR.none_ _ _) (by omega) (by decide) HB2.out.size ?_; intro v3 w3 hown3 hb3)
        rw [← HPT.out] at hown3
        rw [show k + 1 + 0 = P.length by rw [HPT.out]; simp; omega] at hown3
        obtain ⟨A9, c9, e9, hc9, har9, _⟩ := own_forma hown3 (fun y hy => by
          rw [HPT.out, List.mem_append, List.mem_append] at hy
          rcases hy with (hy | hy) | hy
          · exact H.out.isAs y (List.mem_of_mem_take hy)
          · simp at hy; subst hy; exact HI.out
          · cases hy)
        subst e9
        go_ret
        have hb9 := HB2.out.trans hb3
        first | exact ⟨A9, ⟨c9, rfl⟩, har9, hc9, hb9⟩ | exact ⟨A9, c9, rfl, har9, hc9, hb9⟩
end Go.Proofs.YtgicmgljllaliaaGreatDoor
namespace Go.Proofs.YtgicmgljllaliaaGreatDoor
open Go.ChangeShapes Go.WideShapes Go.ChangeAt Go.RowKit Sm Go.Maps
def putIK (xs : List (Int × Int)) (a : Int × Int) : Nat := (xs.takeWhile (fun x => decide (ltPK x a))).length
def putPK (xs : List (Int × Int)) (a : Int × Int) : List (Int × Int) := if xs[putIK xs a]? = some a then xs else xs.take (putIK xs a) ++ [a] ++ xs.drop (putIK xs a)
theorem putI_atK {xs : List (Int × Int)} {a : Int × Int} : ∀ {k : Nat}, (∀ j, j < k → ∃ x, xs[j]? = some x ∧ ltPK x a) → (∀ x, xs[k]? = some x → ¬ ltPK x a) → putIK xs a = k := by
  unfold putIK
  induction xs with
  | nil =>
    intro k h1 _
    rcases Nat.eq_zero_or_pos k with h | h
    · subst h; rfl
    · obtain ⟨x, hx, _⟩ := h1 0 h
      simp at hx
  | cons y xs ih =>
    intro k h1 h2
    cases k with
    | zero =>
      have := h2 y rfl
      rw [List.takeWhile_cons, if_neg (by simpa using this)]
      rfl
    | succ k =>
      obtain ⟨x, hx, hlt⟩ := h1 0 (Nat.succ_pos _)
      simp at hx
      subst hx
      rw [List.takeWhile_cons, if_pos (by simpa using hlt), List.length_cons, ih (k := k) (fun j hj => by simpa using h1 (j + 1) (by omega)) (fun x hx => h2 x (by simpa using hx))]
theorem putI_leK (xs : List (Int × Int)) (a : Int × Int) : putIK xs a ≤ xs.length := by
  unfold putIK
  exact (List.takeWhile_sublist _).length_le
theorem put_memK {xs : List (Int × Int)} {a b : Int × Int} : b ∈ putPK xs a ↔ b ∈ xs ∨ b = a := by
  unfold putPK
  split
  · rename_i h
    constructor
    · exact .inl
    · rintro (hb | rfl)
      · exact hb
      · exact List.mem_of_getElem? h
  · constructor
    · intro hb
      rw [List.mem_append, List.mem_append] at hb
      rcases hb with (hb | hb) | hb
      · exact .inl (List.mem_of_mem_take hb)
      · exact .inr (by simpa using hb)
      · exact .inl (List.mem_of_mem_drop hb)
    · rintro (hb | rfl)
      · rw [← List.take_append_drop (putIK xs a) xs] at hb
        rcases List.mem_append.1 hb with hb | hb
        · exact List.mem_append_left _ (List.mem_append_left _ hb)
        · exact List.mem_append_right _ hb
      · exact List.mem_append_left _ (List.mem_append_right _ (by simp))
theorem put_lenK (xs : List (Int × Int)) (a : Int × Int) : (putPK xs a).length ≤ xs.length + 1 := by
  unfold putPK
  have := putI_leK xs a
  split
  · omega
  · simp
    omega
theorem takeWhile_allK {p : Int × Int → Bool} : ∀ {xs : List (Int × Int)} {x : Int × Int}, x ∈ xs.take (xs.takeWhile p).length → p x = true
  | [], x, h => by simp at h
  | y :: xs, x, h => by
    rw [List.takeWhile_cons] at h
    by_cases hy : p y = true
    · rw [if_pos hy, List.length_cons, List.take_succ_cons, List.mem_cons] at h
      rcases h with rfl | h
      · exact hy
      · exact takeWhile_allK h
    · rw [if_neg hy] at h
      simp at h
theorem takeWhile_nextK {p : Int × Int → Bool} : ∀ {xs : List (Int × Int)} {x : Int × Int}, xs[(xs.takeWhile p).length]? = some x → p x = false
  | [], x, h => by simp at h
  | y :: xs, x, h => by
    rw [List.takeWhile_cons] at h
    by_cases hy : p y = true
    · rw [if_pos hy, List.length_cons, List.getElem?_cons_succ] at h
      exact takeWhile_nextK h
    · rw [if_neg hy] at h
      simp at h
      subst h
      simpa using hy
theorem ltPK_or {p q : Int × Int} (h : ¬ ltPK p q) (hne : p ≠ q) : ltPK q p := by
  have h2 : ¬ (p.1 = q.1 ∧ p.2 = q.2) := fun e => hne (Prod.ext e.1 e.2)
  unfold ltPK at *
  omega
theorem put_ltK {xs : List (Int × Int)} {a : Int × Int} (h : xs.Pairwise ltPK) : (putPK xs a).Pairwise ltPK := by
  unfold putPK
  split
  · exact h
  · rename_i hne
    have h1 : ∀ x ∈ xs.take (putIK xs a), ltPK x a := fun x hx => by simpa using takeWhile_allK hx
    have h2 : ∀ x ∈ xs.drop (putIK xs a), ltPK a x := by
      intro x hx
      have hlen := putI_leK xs a
      obtain ⟨j, hj, rfl⟩ := List.mem_iff_getElem.1 hx
      rw [List.length_drop] at hj
      have h0 : xs[putIK xs a]? = some (xs[putIK xs a]'(by omega)) := List.getElem?_eq_getElem _
      have h3 := takeWhile_nextK h0
      simp at h3
      have h4 : xs[putIK xs a]'(by omega) ≠ a := fun e => hne (by rw [h0, e])
      have h5 := ltPK_or h3 h4
      rw [List.getElem_drop]
      rcases Nat.eq_zero_or_pos j with hz | hz
      · subst hz
        simp only [Nat.add_zero]
        exact h5
      · exact ltPK_trans h5 (List.pairwise_iff_getElem.1 h (putIK xs a) (putIK xs a + j) (by omega) (by omega) (by omega))
    rw [List.pairwise_append]
    refine ⟨?_, h.sublist (List.drop_sublist _ _), ?_⟩
    · rw [List.pairwise_append]
      refine ⟨h.sublist (List.take_sublist _ _), List.pairwise_singleton _ _, fun x hx y hy => ?_⟩
      simp at hy
      subst hy
      exact h1 x hx
    · intro x hx y hy
      rcases List.mem_append.1 hx with hx | hx
      · exact ltPK_trans (h1 x hx) (h2 y hy)
      · simp at hx
        subst hx
        exact h2 y hy
theorem putPK_new {xs : List (Int × Int)} {a : Int × Int} {k : Nat} (hk : putIK xs a = k) (hn : ∀ x, xs[k]? = some x → x ≠ a) : putPK xs a = xs.take k ++ [a] ++ xs.drop k := by
  unfold putPK
  rw [hk, if_neg]
  intro h
  exact hn a h rfl
theorem dlessV (p q : Int × Int) {V : Bool} (h : decide (ltPK p q) = V) (w : World) :
    Calls Tryz.prog 15 #[.agg #[.int .u32 p.1, .int .u32 p.2], .agg #[.int .u32 q.1, .int .u32 q.2]] w fun e w' => e = .returned (.bool V) ∧ Below w.heap.size w w' := by
  obtain ⟨s, g⟩ := p
  obtain ⟨s', g'⟩ := q
  subst h
  dsimp only
  have HH : decide (ltPK (s, g) (s', g')) = (decide (g < g') || ((g == g') && decide (s < s'))) := by rw [Bool.eq_iff_iff, decide_eq_true_eq]; simp [ltPK]
  rw [HH]
  clear HH
  obtain ⟨b1, e1⟩ : ∃ r, decide (g < g') = r := ⟨_, rfl⟩
  obtain ⟨b2, e2⟩ : ∃ r, (g == g') = r := ⟨_, rfl⟩
  obtain ⟨b3, e3⟩ : ∃ r, decide (s < s') = r := ⟨_, rfl⟩
  rw [e1, e2, e3]
  cases b1 <;> cases b2
  all_goals
    go_enter Tryz.func15, Tryz.ntmps15
    go_wp2
    go_ret
    exact ⟨ret_bool (by simp), ((Below.refl _ _).alloc (Nat.le_refl _) _).alloc (by simp) _⟩
set_option maxHeartbeats 2000000 in
theorem rkeys_any (A : Option Addr) (n c : Nat) (xs : List (Int × Int)) (w : World) (h : RI CKy 2 w A n xs) (hn : n ≤ 1000000) :
    Calls Tryz.prog 63 #[.slice A n c] w fun e w' => ∃ v, e = .returned v ∧ w'.ownsRow w.heap.size 44 2 v n (xs.flatMap CKy) ∧ Below w.heap.size w w' := by
  obtain ⟨i0, hi, hz0, hz1, hz2⟩ := info_parts (show (Tryz.prog.info? 44).map (fun i => (i.zero, i.size, i.bytes)) = some (some (.agg #[.int .u32 0, .int .u32 0]), 2, 8) by kernel_rfl)
  have hl := h.len
  have H := Lib.hid h
  clear h
  go_enter Tryz.func63, Tryz.ntmps63
  go_wp2_with (at_make; refine wpList_make_own _ rfl _ _ 38 rfl w.heap.size 44 i0 (.agg #[.int .u32 0, .int .u32 0]) 2 Tryz.underlying38 hi hz0 hz1 .i64 .i64 _ n rfl rfl rfl (by rw [hz2]; omega) (by unfold maxLen; omega) (Nat.le_refl _) ?_; intro w0 hown0 hgrow0)
  have HB0 := Lib.hid ((Below.refl _ _).grown hgrow0 (Nat.le_refl _) (by intro k hk; cases hk))
  have HO0 : Hid (w0.ownsRow w.heap.size 44 2 (.slice (some ⟨w.heap.size, 0, none⟩) 0 n) 0 ((xs.take 0).flatMap CKy)) := Lib.hid (by simpa using hown0)
  clear hown0 hgrow0
  go_loopw [3, 4] (fun v iv wr => ∃ k : Nat, k ≤ n ∧ iv = .int .i64 (k : Int) ∧ Hid (wr.ownsRow w.heap.size 44 2 v k ((xs.take k).flatMap CKy)) ∧ Hid (Below w.heap.size w wr)) (fun _ iv _ => n - (intOf iv).toNat)
  case atStart => exact ⟨0, Nat.zero_le _, rfl, HO0, HB0⟩
  case round =>
    obtain ⟨k, hk, rfl, HO, HB⟩ := hrel
    generalize u3 = v3 at *
    rcases Nat.lt_or_ge k n with hlt | hge
    · obtain ⟨b, o, ⟨x1, x2⟩, rfl, hbl, hx, hc⟩ := (H.out.next HB.out).at_ hlt
      have q0 : wr.cell? ⟨b, o + k * 2, none⟩ = some (.int .u32 x1) := hc 0 _ rfl
      have q1 : wr.cell? ⟨b, o + k * 2 + 1, none⟩ = some (.int .u32 x2) := hc 1 _ rfl
      have HT : Hid (xs.take (k + 1) = xs.take k ++ [(x1, x2)]) := Lib.hid (by rw [List.take_add_one, hx]; rfl)
      have hi0 : (k : Int) < (n : Int) := by omega
      have hi1 : (0 : Int) ≤ (k : Int) := by omega
      have HO1 := Lib.hid (HO.out.alloc (.cells #[.int .u32 x1, .int .u32 x2] 44))
      have HB1 := Lib.hid (HB.out.alloc HB.out.size (.cells #[.int .u32 x1, .int .u32 x2] 44))
      clear HO hx hbl hc
      go_wp2_with (at_builtin; refine wpList_items elemK rfl _ _ rfl w.heap.size v3 k (xs.take k) rfl HO1.out _ 1 1 [(x1, x2)] rfl (RI.new _ _ (x1, x2) (by simp) rfl) (by omega) (by omega) HB1.out.size ?_; intro v6 w6 hown6 hb6 _)
      have HO6 : Hid (w6.ownsRow w.heap.size 44 2 v6 (k + 1) ((xs.take (k + 1)).flatMap CKy)) := Lib.hid (by rw [HT.out]; exact hown6)
      have HB6 := Lib.hid (HB1.out.trans hb6)
      clear hown6 hb6 HO1 HB1 HB q0 q1
      go_wp2
      go_roundw
      case rel => exact ⟨k + 1, by omega, by go_num, HO6, HB6⟩
      case measure => simp [intOf]; omega
    · obtain rfl : k = n := by omega
      have q1 : ¬ (k : Int) < (k : Int) := by omega
      rw [List.take_of_length_le (by omega)] at HO
      go_wp2
      go_ret
      exact ⟨v3, rfl, HO.out, HB.out⟩
theorem putPK_has {xs : List (Int × Int)} {a x : Int × Int} {k : Nat} (hk : putIK xs a = k) (hx : xs[k]? = some x) (he : ((x.1 == a.1) && (x.2 == a.2)) = true) : putPK xs a = xs := by
  simp only [Bool.and_eq_true, beq_iff_eq] at he
  have : x = a := Prod.ext he.1 he.2
  subst this
  unfold putPK
  rw [hk, hx, if_pos rfl]
theorem key_ne {x a : Int × Int} (he : ((x.1 == a.1) && (x.2 == a.2)) = false) : x ≠ a := by
  rintro rfl
  simp at he
set_option maxRecDepth 100000 in
set_option maxHeartbeats 4000000 in
theorem kput_any (A : Option Addr) (n c : Nat) (xs : List (Int × Int)) (a : Int × Int) (w : World) (h : RI CKy 2 w A n xs) (hn : n ≤ 1000000) (hc : n ≤ c) :
    Calls Tryz.prog 35 #[.slice A n c, .agg #[.int .u32 a.1, .int .u32 a.2]] w fun e w' => ∃ (A' : Option Addr) (c' : Nat), e = .returned (.slice A' (putPK xs a).length c') ∧ RI CKy 2 w' A' (putPK xs a).length (putPK xs a) ∧ (putPK xs a).length ≤ c' ∧ Below w.heap.size w w' := by
  have hl := h.len
  obtain ⟨P, hP⟩ : ∃ P, putPK xs a = P := ⟨_, rfl⟩
  rw [hP]
  have HP := Lib.hid hP
  clear hP
  have HB0 := Lib.hid ((Below.refl w.heap.size w).alloc (Nat.le_refl _) (.cells #[.int .u32 a.1, .int .u32 a.2] 44))
  have hkb := Blk.new w 44 #[.int .u32 a.1, .int .u32 a.2]
  have H := Lib.hid (h.next HB0.out)
  clear h
  go_enter Tryz.func35, Tryz.ntmps35
  go_upto_region 1 with fail
  generalize w.alloc (.cells #[.int .u32 a.1, .int .u32 a.2] 44) = W1 at *
  have HK := Lib.hid hkb
  clear hkb
  go_wp2_with fail
  go_loopw [5] (fun iv wr => ∃ k : Nat, k ≤ n ∧ iv = .int .i64 (k : Int) ∧ Hid (∀ j, j < k → ∃ x, xs[j]? = some x ∧ ltPK x a) ∧ Hid (Below W1.heap.size W1 wr)) (fun iv _ => n - (intOf iv).toNat)
  case atStart => exact ⟨0, Nat.zero_le _, rfl, Lib.hid (fun j h => absurd h (Nat.not_lt_zero _)), Lib.hid (Below.refl _ _)⟩
  case round =>
    obtain ⟨k, hk, rfl, HJ, HB⟩ := hrel
    have z0 : ∀ p : Snc wr, p.W.cell? ⟨w.heap.size, 0, none⟩ = some (.int .u32 a.1) := fun p => ((HK.out.next HB.out).next p.b).cell 0
    have z1 : ∀ p : Snc wr, p.W.cell? ⟨w.heap.size, 1, none⟩ = some (.int .u32 a.2) := fun p => ((HK.out.next HB.out).next p.b).cell 1
    rcases Nat.lt_or_ge k n with hlt | hge
    · obtain ⟨b, o, x, rfl, hgk, hxc⟩ := key_cells (H.out.next HB.out) hlt
      have q0 := fun p => (hxc p).1
      have q1 := fun p => (hxc p).2
      have hi0 : (k : Int) < (n : Int) := by omega
      have hi1 : (0 : Int) ≤ (k : Int) := by omega
      have HX := Lib.hid hgk
      clear hxc hgk
      have HV := Lib.hid (rfl : decide (ltPK x a) = decide (ltPK x a))
      obtain ⟨V, hV⟩ : ∃ V, decide (ltPK x a) = V := ⟨_, rfl⟩
      have HVV := Lib.hid hV
      have G1 : ∀ p : Snc wr, Calls Tryz.prog 15 #[.agg #[.int .u32 x.1, .int .u32 x.2], .agg #[.int .u32 a.1, .int .u32 a.2]] p.W fun e w' => e = .returned (.bool V) ∧ ∃ Q : Snc wr, w' = Q.W := fun p => Calls.since (dlessV x a hV p.W)
      clear hV HV
      cases V with
      | true =>
        go_wp2_with fail
        refine wp_region_since (by kernel_rfl) (by kernel_rfl) ?_
        repeat (go_big_quiet_step (first | (go_at_call 15; with_reducible exact G1 _)))
        refine wpQuiet_nil ?_
        rintro w5 ⟨P5, rfl⟩
        have HB5 := Lib.hid (HB.out.trans (P5.b.mono HB.out.size))
        have HJ2 : Hid (∀ j, j < k + 1 → ∃ x, xs[j]? = some x ∧ ltPK x a) := Lib.hid (fun j hj => by
          rcases Nat.lt_or_ge j k with h | h
          · exact HJ.out j h
          · obtain rfl : j = k := by omega
            exact ⟨x, HX.out, by simpa using HVV.out⟩)
        clear q0 q1 z0 z1 G1 HB HJ
        generalize P5.W = W5 at *
        go_wp2
        go_roundw
        case rel => exact ⟨k + 1, by omega, by go_num, HJ2, HB5⟩
        case measure => simp [intOf]; omega
      | false =>
        go_wp2_with fail
        refine wp_region_since (by kernel_rfl) (by kernel_rfl) ?_
        repeat (go_big_quiet_step (first | (go_at_call 15; with_reducible exact G1 _)))
        refine wpQuiet_nil ?_
        rintro w5 ⟨P5, rfl⟩
        have HB5 := Lib.hid (HB.out.trans (P5.b.mono HB.out.size))
        have HKI : Hid (putIK xs a = k) := Lib.hid (putI_atK HJ.out (fun y hy => by rw [HX.out] at hy; cases hy; simpa using HVV.out))
        clear q0 q1 z0 z1 G1 HB HJ
        generalize P5.W = W5 at *
        have z0 : ∀ p : Snc W5, p.W.cell? ⟨w.heap.size, 0, none⟩ = some (.int .u32 a.1) := fun p => ((HK.out.next HB5.out).next p.b).cell 0
        have z1 : ∀ p : Snc W5, p.W.cell? ⟨w.heap.size, 1, none⟩ = some (.int .u32 a.2) := fun p => ((HK.out.next HB5.out).next p.b).cell 1
        obtain ⟨b', o', x', hA', hx', hxc⟩ := key_cells (H.out.next HB5.out) hlt
        cases hA'
        obtain rfl : x = x' := Option.some.inj (HX.out.symm.trans hx')
        have q0 := fun p => (hxc p).1
        have q1 := fun p => (hxc p).2
        clear hx' hxc
        obtain ⟨V2, hV2⟩ : ∃ V2, ((x.1 == a.1) && (x.2 == a.2)) = V2 := ⟨_, rfl⟩
        have HV2 := Lib.hid hV2
        have G2 : ∀ p : Snc W5, Calls Tryz.prog 12 #[.agg #[.int .u32 x.1, .int .u32 x.2], .agg #[.int .u32 a.1, .int .u32 a.2]] p.W fun e w' => e = .returned (.bool V2) ∧ ∃ Q : Snc W5, w' = Q.W := fun p => Calls.since (skeyV x a hV2 p.W)
        clear hV2
        go_upto_region 4 with fail
        cases V2 with
        | true =>
          refine wp_region_since (by kernel_rfl) (by kernel_rfl) ?_
          repeat (go_big_quiet_step (first | (go_at_call 12; with_reducible exact G2 _)))
          refine wpQuiet_nil ?_
          rintro w6 ⟨P6, rfl⟩
          have HB6 := Lib.hid (HB5.out.trans (P6.b.mono HB5.out.size))
          have hput : P = xs := HP.out.symm.trans (putPK_has HKI.out HX.out HV2.out)
          clear q0 q1 z0 z1 G2 HB5
          generalize P6.W = W6 at *
          go_wp2
          go_ret
          rw [hput, hl]
          have hb9 := HB0.out.trans (HB6.out.mono HB0.out.size)
          first | exact ⟨some ⟨b, o, none⟩, ⟨c, rfl⟩, H.out.next HB6.out, hc, hb9⟩ | exact ⟨some ⟨b, o, none⟩, c, rfl, H.out.next HB6.out, hc, hb9⟩
        | false =>
          refine wp_region_since (by kernel_rfl) (by kernel_rfl) ?_
          repeat (go_big_quiet_step (first | (go_at_call 12; with_reducible exact G2 _)))
          refine wpQuiet_nil ?_
          rintro w6 ⟨P6, rfl⟩
          have HBQ := Lib.hid (HB5.out.trans (P6.b.mono HB5.out.size))
          have HPT : Hid (P = xs.take k ++ [a] ++ xs.drop k) := Lib.hid (HP.out.symm.trans (putPK_new HKI.out (fun y hy => by rw [HX.out] at hy; cases hy; exact key_ne HV2.out)))
          clear q0 q1 z0 z1 G2 HB5
          generalize P6.W = WQ at *
          have H9 := Lib.hid (H.out.next HBQ.out)
          have z0 : ∀ W, Below WQ.heap.size WQ W → W.cell? ⟨w.heap.size, 0, none⟩ = some (.int .u32 a.1) := fun W hW => ((HK.out.next HBQ.out).next hW).cell 0
          have z1 : ∀ W, Below WQ.heap.size WQ W → W.cell? ⟨w.heap.size, 1, none⟩ = some (.int .u32 a.2) := fun W hW => ((HK.out.next HBQ.out).next hW).cell 1
          have HRA : ∀ W, Below WQ.heap.size WQ W → Calls Tryz.prog 63 #[.slice (some ⟨b, o, none⟩) k c] W fun e w' => ∃ v, e = .returned v ∧ w'.ownsRow WQ.heap.size 44 2 v k ((xs.take k).flatMap CKy) ∧ Below W.heap.size W w' := fun W hW => (rkeys_any (some ⟨b, o, none⟩) k c (xs.take k) W ((H9.out.next hW).take hk) (by omega)).mono fun e w' ⟨v, h1, h2, h3⟩ => ⟨v, h1, ownk_up h2 hW.size, h3⟩
          have hk1 : (k : Int) ≤ (c : Int) := by omega
          have hk2 : (n : Int) ≤ (c : Int) := by omega
          have hk3 : (k : Int) ≤ (n : Int) := by omega
          have hne : ¬ c = k := by omega
          have hk4 : k ≤ c := by omega
          go_upto_region 6 with fail
          go_region_held3 (fun w' => Below WQ.heap.size WQ w')
            (first | assumption | exact (Below.refl _ _).drew | exact Below.refl _ _ | exact ((Below.refl _ _).alloc (Nat.le_refl _) _).drew | exact hB1 | exact hB1.alloc hB1.size _ | exact hB2)
            (first
            | (go_at_call 63; refine (HRA _ (by first | assumption | exact (Below.refl _ _).drew | exact ((Below.refl _ _).alloc (Nat.le_refl _) _).drew | exact (Below.refl _ _).alloc (Nat.le_refl _) _)).mono ?_; rintro e w1 ⟨v1, rfl, hown1, hb1⟩; have hB1 : Below WQ.heap.size WQ w1 := (by first | exact hb1 | exact ((Below.refl _ _).drew).trans hb1 | exact (((Below.refl _ _).alloc (Nat.le_refl _) _).drew).trans (hb1.mono (by simp)) | exact ((Below.refl _ _).alloc (Nat.le_refl _) _).trans (hb1.mono (by simp))); (first | have hli := (Blk.new WQ 44 #[.int .u32 a.1, .int .u32 a.2]).drew.next hb1 | have hli := (Blk.new WQ 44 #[.int .u32 a.1, .int .u32 a.2]).next hb1 | skip))
            | (refine step_items elemK (by rfl) _ _ (by rfl) WQ.heap.size v1 k (xs.take k) (by rfl) (by first | exact hown1 | exact hown1.alloc _) _ 1 1 [a] (by rfl) (by first | exact RI.new _ _ a rfl rfl | exact RI.lit hli) (by omega) (by decide) (by first | exact hB1.size | exact (hB1.alloc hB1.size _).size) ?_
               intro v2 w2 hown2 hb2 hg2; clear hg2; have hB2 : Below WQ.heap.size WQ w2 := (by first | exact hB1.trans hb2 | exact (hB1.alloc hB1.size _).trans hb2)))
          all_goals
            have HB2 := Lib.hid hB2
            have HO2 := Lib.hid hown2
            clear hown1 hown2 hb1 hb2 hB1 hB2 HRA
            go_wp2_with (at_builtin; refine wpList_items elemK rfl _ _ rfl WQ.heap.size v2 (k + 1) (xs.take k ++ [a]) rfl HO2.out _ _ _ (xs.drop k) rfl (RI.drop (H9.out.next HB2.out) hk (fun h => by first | rfl | omega | rw [Option.map_some, add_plain])) (by omega) (by omega) HB2.out.size ?_; intro v3 w3 hown3 hb3 _)
            rw [← HPT.out] at hown3
            rw [show k + 1 + (n - k) = P.length by rw [HPT.out]; simp; omega] at hown3
            obtain ⟨A9, c9, rfl, hc9, hr9⟩ := RI.of_own (enc := CKy) (k := 2) (fun _ => rfl) hown3
            have hb9 := HB0.out.trans (HBQ.out.trans ((HB2.out.trans hb3).mono HBQ.out.size) |>.mono HB0.out.size)
            go_ret
            first | exact ⟨A9, ⟨c9, rfl⟩, hr9, hc9, hb9⟩ | exact ⟨A9, c9, rfl, hr9, hc9, hb9⟩
    · obtain rfl : k = n := by omega
      have hi0 : ¬ (k : Int) < (k : Int) := by omega
      have hd : decide ((k : Int) < (k : Int)) = false := by simp
      have HPT : Hid (P = xs.take k ++ [a] ++ []) := Lib.hid ((HP.out.symm.trans (putPK_new (putI_atK HJ.out (fun y hy => by have := (List.getElem?_eq_some_iff.1 hy).1; omega)) (fun y hy => by have := (List.getElem?_eq_some_iff.1 hy).1; omega))).trans (by rw [List.drop_of_length_le (by omega)]))
      clear HJ
      go_wp2_with fail
      refine wp_region_since (by kernel_rfl) (by kernel_rfl) ?_
      repeat (go_big_quiet_step (first | fail))
      refine wpQuiet_nil ?_
      rintro w5 ⟨P5, rfl⟩
      have HB5 := Lib.hid (HB.out.trans (P5.b.mono HB.out.size))
      clear z0 z1 HB
      generalize P5.W = W5 at *
      go_upto_region 4 with fail
      refine wp_region_since (by kernel_rfl) (by kernel_rfl) ?_
      repeat (go_big_quiet_step (first | fail))
      refine wpQuiet_nil ?_
      rintro w6 ⟨P6, rfl⟩
      have HBQ := Lib.hid (HB5.out.trans (P6.b.mono HB5.out.size))
      clear HB5
      generalize P6.W = WQ at *
      have H9 := Lib.hid (H.out.next HBQ.out)
      have z0 : ∀ W, Below WQ.heap.size WQ W → W.cell? ⟨w.heap.size, 0, none⟩ = some (.int .u32 a.1) := fun W hW => ((HK.out.next HBQ.out).next hW).cell 0
      have z1 : ∀ W, Below WQ.heap.size WQ W → W.cell? ⟨w.heap.size, 1, none⟩ = some (.int .u32 a.2) := fun W hW => ((HK.out.next HBQ.out).next hW).cell 1
      have HRA : ∀ W, Below WQ.heap.size WQ W → Calls Tryz.prog 63 #[.slice A k c] W fun e w' => ∃ v, e = .returned v ∧ w'.ownsRow WQ.heap.size 44 2 v k ((xs.take k).flatMap CKy) ∧ Below W.heap.size W w' := fun W hW => (rkeys_any A k c (xs.take k) W ((H9.out.next hW).take hk) (by omega)).mono fun e w' ⟨v, h1, h2, h3⟩ => ⟨v, h1, ownk_up h2 hW.size, h3⟩
      have hk1 : (k : Int) ≤ (c : Int) := by omega
      have hk2 : (0 : Int) ≤ (k : Int) := by omega
      go_upto_region 6 with fail
      by_cases hne : c = k
      · have hcn := hne.symm
        subst hcn
        go_region_held3 (fun w' => Below WQ.heap.size WQ w')
          (first | assumption | exact (Below.refl _ _).drew | exact Below.refl _ _ | exact ((Below.refl _ _).alloc (Nat.le_refl _) _).drew | exact hB1 | exact hB1.alloc hB1.size _ | exact hB2)
          (first
          | (go_at_call 63; refine (HRA _ (by first | assumption | exact (Below.refl _ _).drew | exact ((Below.refl _ _).alloc (Nat.le_refl _) _).drew | exact (Below.refl _ _).alloc (Nat.le_refl _) _)).mono ?_; rintro e w1 ⟨v1, rfl, hown1, hb1⟩; have hB1 : Below WQ.heap.size WQ w1 := (by first | exact hb1 | exact ((Below.refl _ _).drew).trans hb1 | exact (((Below.refl _ _).alloc (Nat.le_refl _) _).drew).trans (hb1.mono (by simp)) | exact ((Below.refl _ _).alloc (Nat.le_refl _) _).trans (hb1.mono (by simp))); (first | have hli := (Blk.new WQ 44 #[.int .u32 a.1, .int .u32 a.2]).drew.next hb1 | have hli := (Blk.new WQ 44 #[.int .u32 a.1, .int .u32 a.2]).next hb1 | skip))
          | (refine step_items elemK (by rfl) _ _ (by rfl) WQ.heap.size v1 k (xs.take k) (by rfl) (by first | exact hown1 | exact hown1.alloc _) _ 1 1 [a] (by rfl) (by first | exact RI.new _ _ a rfl rfl | exact RI.lit hli) (by omega) (by decide) (by first | exact hB1.size | exact (hB1.alloc hB1.size _).size) ?_
             intro v2 w2 hown2 hb2 hg2; clear hg2; have hB2 : Below WQ.heap.size WQ w2 := (by first | exact hB1.trans hb2 | exact (hB1.alloc hB1.size _).trans hb2)))
        all_goals
          have HB2 := Lib.hid hB2
          have HO2 := Lib.hid hown2
          clear hown1 hown2 hb1 hb2 hB1 hB2 HRA
          go_wp2_with (at_builtin; refine wpList_items elemK rfl _ _ rfl WQ.heap.size v2 (k + 1) (xs.take k ++ [a]) rfl HO2.out _ _ _ [] rfl (RI.none_ _ _ _ _) (by omega) (by omega) HB2.out.size ?_; intro v3 w3 hown3 hb3 _)
          rw [← HPT.out] at hown3
          rw [show k + 1 + 0 = P.length by rw [HPT.out]; simp; omega] at hown3
          obtain ⟨A9, c9, rfl, hc9, hr9⟩ := RI.of_own (enc := CKy) (k := 2) (fun _ => rfl) hown3
          have hb9 := HB0.out.trans (HBQ.out.trans ((HB2.out.trans hb3).mono HBQ.out.size) |>.mono HB0.out.size)
          go_ret
          first | exact ⟨A9, ⟨c9, rfl⟩, hr9, hc9, hb9⟩ | exact ⟨A9, c9, rfl, hr9, hc9, hb9⟩
      · skip
        go_region_held3 (fun w' => Below WQ.heap.size WQ w')
          (first | assumption | exact (Below.refl _ _).drew | exact Below.refl _ _ | exact ((Below.refl _ _).alloc (Nat.le_refl _) _).drew | exact hB1 | exact hB1.alloc hB1.size _ | exact hB2)
          (first
          | (go_at_call 63; refine (HRA _ (by first | assumption | exact (Below.refl _ _).drew | exact ((Below.refl _ _).alloc (Nat.le_refl _) _).drew | exact (Below.refl _ _).alloc (Nat.le_refl _) _)).mono ?_; rintro e w1 ⟨v1, rfl, hown1, hb1⟩; have hB1 : Below WQ.heap.size WQ w1 := (by first | exact hb1 | exact ((Below.refl _ _).drew).trans hb1 | exact (((Below.refl _ _).alloc (Nat.le_refl _) _).drew).trans (hb1.mono (by simp)) | exact ((Below.refl _ _).alloc (Nat.le_refl _) _).trans (hb1.mono (by simp))); (first | have hli := (Blk.new WQ 44 #[.int .u32 a.1, .int .u32 a.2]).drew.next hb1 | have hli := (Blk.new WQ 44 #[.int .u32 a.1, .int .u32 a.2]).next hb1 | skip))
          | (refine step_items elemK (by rfl) _ _ (by rfl) WQ.heap.size v1 k (xs.take k) (by rfl) (by first | exact hown1 | exact hown1.alloc _) _ 1 1 [a] (by rfl) (by first | exact RI.new _ _ a rfl rfl | exact RI.lit hli) (by omega) (by decide) (by first | exact hB1.size | exact (hB1.alloc hB1.size _).size) ?_
             intro v2 w2 hown2 hb2 hg2; clear hg2; have hB2 : Below WQ.heap.size WQ w2 := (by first | exact hB1.trans hb2 | exact (hB1.alloc hB1.size _).trans hb2)))
        all_goals
          have HB2 := Lib.hid hB2
          have HO2 := Lib.hid hown2
          clear hown1 hown2 hb1 hb2 hB1 hB2 HRA
          go_wp2_with (at_builtin; refine wpList_items elemK rfl _ _ rfl WQ.heap.size v2 (k + 1) (xs.take k ++ [a]) rfl HO2.out _ _ _ [] rfl (RI.none_ _ _ _ _) (by omega) (by omega) HB2.out.size ?_; intro v3 w3 hown3 hb3 _)
          rw [← HPT.out] at hown3
          rw [show k + 1 + 0 = P.length by rw [HPT.out]; simp; omega] at hown3
          obtain ⟨A9, c9, rfl, hc9, hr9⟩ := RI.of_own (enc := CKy) (k := 2) (fun _ => rfl) hown3
          have hb9 := HB0.out.trans (HBQ.out.trans ((HB2.out.trans hb3).mono HBQ.out.size) |>.mono HB0.out.size)
          go_ret
          first | exact ⟨A9, ⟨c9, rfl⟩, hr9, hc9, hb9⟩ | exact ⟨A9, c9, rfl, hr9, hc9, hb9⟩
end Go.Proofs.YtgicmgljllaliaaGreatDoor
namespace Go.Proofs.YtgicmgljllaliaaGreatDoor
open Go.ChangeShapes Go.WideShapes Go.ChangeAt Go.RowKit Lx Sm Go.Maps
theorem keysS_snoc (L : List (Int × Int)) (a : Int × Int) : keysS (L ++ [a]) = putPK (keysS L) a :=
  rises_uniqueK (keysS_rises _) (put_ltK (keysS_rises _)) fun b => by rw [keysS_mem, put_memK, keysS_mem]; simp
theorem keysS_nil : keysS [] = [] := List.eq_nil_of_length_eq_zero (Nat.le_zero.1 (keysS_len []))
theorem groupsL_snoc (L : List Int) (a : Int) : groupsL (L ++ [a]) = putP (groupsL L) a :=
  lt_unique (grp_lt _) (put_lt (grp_lt _)) fun b => by rw [grp_mem, put_mem, grp_mem]; simp
theorem groupsL_nil : groupsL [] = [] := List.eq_nil_of_length_eq_zero (Nat.le_zero.1 (grp_len []))
theorem keysS_take {L : List (Int × Int)} {k : Nat} {a : Int × Int} (h : L[k]? = some a) : keysS (L.take (k + 1)) = putPK (keysS (L.take k)) a := by
  rw [← keysS_snoc, List.take_add_one, h]; rfl
theorem groupsL_take {L : List Int} {k : Nat} {a : Int} (h : L[k]? = some a) : groupsL (L.take (k + 1)) = putP (groupsL (L.take k)) a := by
  rw [← groupsL_snoc, List.take_add_one, h]; rfl
theorem take_le (L : List (Int × Int)) (k : Nat) : (keysS (L.take k)).length ≤ L.length := Nat.le_trans (keysS_len _) (by rw [List.length_take]; omega)
theorem takeG_le (L : List Int) (k : Nat) : (groupsL (L.take k)).length ≤ L.length := Nat.le_trans (grp_len _) (by rw [List.length_take]; omega)
set_option maxRecDepth 100000 in
set_option maxHeartbeats 4000000 in
theorem dsort_any (A : Option Addr) (n c : Nat) (xs : List (Int × Int)) (w : World) (h : RI CKy 2 w A n xs) (hn : n ≤ 100000) :
    Calls Tryz.prog 18 #[.slice A n c] w fun e w' => ∃ (A' : Option Addr) (c' : Nat), e = .returned (.slice A' (keysS xs).length c') ∧ RI CKy 2 w' A' (keysS xs).length (keysS xs) ∧ (keysS xs).length ≤ c' ∧ Below w.heap.size w w' := by
  have hl := h.len
  have H := Lib.hid h
  clear h
  go_enter Tryz.func18, Tryz.ntmps18
  go_wp2_with fail
  go_loopw [3, 4] (fun v iv wr => ∃ (k : Nat) (A' : Option Addr) (c' : Nat), k ≤ n ∧ iv = .int .i64 (k : Int) ∧ v = .slice A' (keysS (xs.take k)).length c' ∧ Hid (RI CKy 2 wr A' (keysS (xs.take k)).length (keysS (xs.take k)) ∧ (keysS (xs.take k)).length ≤ c' ∧ Below w.heap.size w wr)) (fun _ iv _ => n - (intOf iv).toNat)
  case atStart => exact ⟨0, none, 0, Nat.zero_le _, rfl, by rw [List.take_zero, keysS_nil]; rfl, Lib.hid (by rw [List.take_zero, keysS_nil]; exact ⟨RI.none_ _ _ _ _, Nat.le_refl _, Below.refl _ _⟩)⟩
  case round =>
    obtain ⟨k, A', c', hk, rfl, rfl, HR⟩ := hrel
    rcases Nat.lt_or_ge k n with hlt | hge
    · obtain ⟨b, oo, ⟨x1, x2⟩, rfl, hbl, hx, hc⟩ := (H.out.next HR.out.2.2).at_ hlt
      have q0 : wr.cell? ⟨b, oo + k * 2, none⟩ = some (.int .u32 x1) := hc 0 _ rfl
      have q1 : wr.cell? ⟨b, oo + k * 2 + 1, none⟩ = some (.int .u32 x2) := hc 1 _ rfl
      have HT := Lib.hid (keysS_take hx)
      have hi0 : (k : Int) < (n : Int) := by omega
      have hi1 : (0 : Int) ≤ (k : Int) := by omega
      have hb := take_le xs k
      have HPt := Lib.hid (kput_any A' _ c' _ (x1, x2) wr HR.out.1 (by omega) HR.out.2.1)
      rw [← HT.out] at HPt
      have HBr := Lib.hid HR.out.2.2
      generalize keysS (xs.take k) = Q at *
      clear hx hbl hc HR
      go_wp2_with (go_at_call 35; (with_reducible refine HPt.out.mono ?_); rintro e w5 ⟨A7, c7, rfl, hr7, hc7, hb7⟩; have HR7 := Lib.hid (And.intro hr7 (And.intro hc7 (below_next HBr.out hb7))); clear hr7 hc7 hb7)
      go_roundw
      case rel => exact ⟨k + 1, A7, c7, by omega, by go_num, rfl, HR7⟩
      case measure => simp [intOf]; omega
    · obtain rfl : k = n := by omega
      have q1 : decide ((k : Int) < (k : Int)) = false := by simp
      rw [List.take_of_length_le (by omega)] at HR ⊢
      go_wp2
      go_ret
      first | exact ⟨A', ⟨c', rfl⟩, HR.out.1, HR.out.2.1, HR.out.2.2⟩ | exact ⟨A', c', rfl, HR.out.1, HR.out.2.1, HR.out.2.2⟩
theorem sentP_at {x : Cfg} {k : Nat} {y : Int × Int × Int} (h : x.ss[k]? = some y) : (sentP x)[k]? = some (y.2.1, y.2.2) := by
  unfold sentP; rw [List.getElem?_map, h]; rfl
set_option maxRecDepth 100000 in
set_option maxHeartbeats 4000000 in
theorem dsent_any (M : Cm) (x : Cfg) (w : World) (h : CW w M x) (k : LtOK x) :
    Calls Tryz.prog 20 #[.agg #[.slice M.r.A M.r.n M.r.c, .slice M.l.A M.l.n M.l.c, .slice M.p.A M.p.n M.p.c, .slice M.o.A M.o.n M.o.c, .slice M.g.A M.g.n M.g.c, .slice M.s.A M.s.n M.s.c, .slice M.m.A M.m.n M.m.c]] w fun e w' => ∃ (A' : Option Addr) (c' : Nat), e = .returned (.slice A' (keysS (sentP x)).length c') ∧ RI CKy 2 w' A' (keysS (sentP x)).length (keysS (sentP x)) ∧ (keysS (sentP x)).length ≤ c' ∧ Below w.heap.size w w' := by
  have hl := h.s.len
  have hs5 : M.s.n ≤ 5 := by have := k.sl; omega
  have hsl : (sentP x).length ≤ 5 := by rw [sentP_len]; exact k.sl
  have HB0 := Lib.hid ((Below.refl w.heap.size w).alloc (Nat.le_refl _) (.cells #[.slice M.r.A M.r.n M.r.c, .slice M.l.A M.l.n M.l.c, .slice M.p.A M.p.n M.p.c, .slice M.o.A M.o.n M.o.c, .slice M.g.A M.g.n M.g.c, .slice M.s.A M.s.n M.s.c, .slice M.m.A M.m.n M.m.c] 30))
  have HK := Lib.hid (Blk.new w 30 #[.slice M.r.A M.r.n M.r.c, .slice M.l.A M.l.n M.l.c, .slice M.p.A M.p.n M.p.c, .slice M.o.A M.o.n M.o.c, .slice M.g.A M.g.n M.g.c, .slice M.s.A M.s.n M.s.c, .slice M.m.A M.m.n M.m.c])
  have HI := Lib.hid (IR.next h.s HB0.out)
  clear h k
  go_enter Tryz.func20, Tryz.ntmps20
  go_upto_region 1 with fail
  generalize w.alloc (.cells #[.slice M.r.A M.r.n M.r.c, .slice M.l.A M.l.n M.l.c, .slice M.p.A M.p.n M.p.c, .slice M.o.A M.o.n M.o.c, .slice M.g.A M.g.n M.g.c, .slice M.s.A M.s.n M.s.c, .slice M.m.A M.m.n M.m.c] 30) = W1 at *
  go_wp2_with fail
  go_loopw [3, 4] (fun v iv wr => ∃ (k : Nat) (A' : Option Addr) (c' : Nat), k ≤ M.s.n ∧ iv = .int .i64 (k : Int) ∧ v = .slice A' (keysS ((sentP x).take k)).length c' ∧ Hid (RI CKy 2 wr A' (keysS ((sentP x).take k)).length (keysS ((sentP x).take k)) ∧ (keysS ((sentP x).take k)).length ≤ c' ∧ Below W1.heap.size W1 wr)) (fun _ iv _ => M.s.n - (intOf iv).toNat)
  case atStart => exact ⟨0, none, 0, Nat.zero_le _, rfl, by rw [List.take_zero, keysS_nil]; rfl, Lib.hid (by rw [List.take_zero, keysS_nil]; exact ⟨RI.none_ _ _ _ _, Nat.le_refl _, Below.refl _ _⟩)⟩
  case round =>
    obtain ⟨k, A', c', hk, rfl, rfl, HR⟩ := hrel
    have y5 : wr.cell? ⟨w.heap.size, 5, none⟩ = some (.slice M.s.A M.s.n M.s.c) := (HK.out.next HR.out.2.2).cell 5
    rcases Nat.lt_or_ge k M.s.n with hlt | hge
    · obtain ⟨bq, oq, ⟨l1, s1, g1⟩, hA, hbl, hx, c0, c1, c2⟩ := ISource.cells (IR.next HI.out HR.out.2.2) hlt
      have HT := Lib.hid (keysS_take (sentP_at hx))
      have hi0 : (k : Int) < (M.s.n : Int) := by omega
      have hi1 : (0 : Int) ≤ (k : Int) := by omega
      have hb := take_le (sentP x) k
      have HPt := Lib.hid (kput_any A' _ c' _ (s1, g1) wr HR.out.1 (by omega) HR.out.2.1)
      rw [← HT.out] at HPt
      have HBr := Lib.hid HR.out.2.2
      rw [hA] at y5
      generalize keysS ((sentP x).take k) = Q at *
      clear hx hbl HR hA
      go_wp2_with (go_at_call 35; (with_reducible refine HPt.out.mono ?_); rintro e w5 ⟨A7, c7, rfl, hr7, hc7, hb7⟩; have HR7 := Lib.hid (And.intro hr7 (And.intro hc7 (below_next HBr.out hb7))); clear hr7 hc7 hb7)
      go_roundw
      case rel => exact ⟨k + 1, A7, c7, by omega, by go_num, rfl, HR7⟩
      case measure => simp [intOf]; omega
    · obtain rfl : k = M.s.n := by omega
      have q1 : decide ((M.s.n : Int) < (M.s.n : Int)) = false := by simp
      rw [List.take_of_length_le (by rw [sentP_len]; omega)] at HR ⊢
      go_wp2
      go_ret
      have hb9 := HB0.out.trans (HR.out.2.2.mono HB0.out.size)
      first | exact ⟨A', ⟨c', rfl⟩, HR.out.1, HR.out.2.1, hb9⟩ | exact ⟨A', c', rfl, HR.out.1, HR.out.2.1, hb9⟩
theorem grpL_s {x : Cfg} {k : Nat} {y : Int × Int × Int} (h : x.ss[k]? = some y) : (x.ss.map (·.2.2))[k]? = some y.2.2 := by
  rw [List.getElem?_map, h]; rfl
theorem grpL_m {x : Cfg} {k : Nat} {y : Mb} (h : x.ms[k]? = some y) : (grpL x)[x.ss.length + k]? = some y.g := by
  unfold grpL
  rw [List.getElem?_append_right (by rw [List.length_map]; omega), List.length_map, Nat.add_sub_cancel_left, List.getElem?_map, h]; rfl
theorem grpL_l (x : Cfg) : (grpL x).length = x.ss.length + x.ms.length := by unfold grpL; simp
set_option maxRecDepth 100000 in
set_option maxHeartbeats 4000000 in
theorem ddgroups_any (M : Cm) (x : Cfg) (w : World) (h : CW w M x) (k : LtOK x) :
    Calls Tryz.prog 36 #[.agg #[.slice M.r.A M.r.n M.r.c, .slice M.l.A M.l.n M.l.c, .slice M.p.A M.p.n M.p.c, .slice M.o.A M.o.n M.o.c, .slice M.g.A M.g.n M.g.c, .slice M.s.A M.s.n M.s.c, .slice M.m.A M.m.n M.m.c]] w fun e w' => ∃ (A' : Option Addr) (c' : Nat), e = .returned (.slice A' (groupsL (grpL x)).length c') ∧ AR w' A' (groupsL (grpL x)).length (groupsL (grpL x)) ∧ (groupsL (grpL x)).length ≤ c' ∧ Below w.heap.size w w' := by
  have hl := h.s.len
  have hlm := h.m.len
  have hs5 : M.s.n ≤ 5 := by have := k.sl; omega
  have hm10 : M.m.n ≤ 10 := by have := k.ml; omega
  have hgl : (grpL x).length ≤ 15 := by rw [grpL_l]; omega
  have hsl : (x.ss.map (·.2.2)).length ≤ 5 := by rw [List.length_map]; omega
  have HB0 := Lib.hid ((Below.refl w.heap.size w).alloc (Nat.le_refl _) (.cells #[.slice M.r.A M.r.n M.r.c, .slice M.l.A M.l.n M.l.c, .slice M.p.A M.p.n M.p.c, .slice M.o.A M.o.n M.o.c, .slice M.g.A M.g.n M.g.c, .slice M.s.A M.s.n M.s.c, .slice M.m.A M.m.n M.m.c] 30))
  have HK := Lib.hid (Blk.new w 30 #[.slice M.r.A M.r.n M.r.c, .slice M.l.A M.l.n M.l.c, .slice M.p.A M.p.n M.p.c, .slice M.o.A M.o.n M.o.c, .slice M.g.A M.g.n M.g.c, .slice M.s.A M.s.n M.s.c, .slice M.m.A M.m.n M.m.c])
  have HI := Lib.hid (IR.next h.s HB0.out)
  have HJ := Lib.hid (IR.next h.m HB0.out)
  have HU : Hid (∀ y ∈ x.ss, isA y.2.2) := Lib.hid (fun y hy => ⟨(h.ok.2.2.2.2.1 y hy).2.1, (h.ok.2.2.2.2.1 y hy).2.2⟩)
  have HV : Hid (∀ y ∈ x.ms, isA y.g) := Lib.hid (fun y hy => ⟨(h.ok.2.2.2.2.2 y hy).1, (h.ok.2.2.2.2.2 y hy).2⟩)
  clear h k
  go_enter Tryz.func36, Tryz.ntmps36
  go_upto_region 1 with fail
  generalize w.alloc (.cells #[.slice M.r.A M.r.n M.r.c, .slice M.l.A M.l.n M.l.c, .slice M.p.A M.p.n M.p.c, .slice M.o.A M.o.n M.o.c, .slice M.g.A M.g.n M.g.c, .slice M.s.A M.s.n M.s.c, .slice M.m.A M.m.n M.m.c] 30) = W1 at *
  go_wp2_with fail
  go_loopw [3, 4] (fun v iv wr => ∃ (k : Nat) (A' : Option Addr) (c' : Nat), k ≤ M.s.n ∧ iv = .int .i64 (k : Int) ∧ v = .slice A' (groupsL ((x.ss.map (·.2.2)).take k)).length c' ∧ Hid (AR wr A' (groupsL ((x.ss.map (·.2.2)).take k)).length (groupsL ((x.ss.map (·.2.2)).take k)) ∧ (groupsL ((x.ss.map (·.2.2)).take k)).length ≤ c' ∧ Below W1.heap.size W1 wr)) (fun _ iv _ => M.s.n - (intOf iv).toNat)
  case atStart => exact ⟨0, none, 0, Nat.zero_le _, rfl, by rw [List.take_zero, groupsL_nil]; rfl, Lib.hid (by rw [List.take_zero, groupsL_nil]; exact ⟨AR.none_ _ _, Nat.le_refl _, Below.refl _ _⟩)⟩
  case round =>
    obtain ⟨k, A', c', hk, rfl, rfl, HR⟩ := hrel
    have y5 : wr.cell? ⟨w.heap.size, 5, none⟩ = some (.slice M.s.A M.s.n M.s.c) := (HK.out.next HR.out.2.2).cell 5
    rcases Nat.lt_or_ge k M.s.n with hlt | hge
    · obtain ⟨bq, oq, ⟨l1, s1, g1⟩, hA, hbl, hx, c0, c1, c2⟩ := ISource.cells (IR.next HI.out HR.out.2.2) hlt
      have HT := Lib.hid (groupsL_take (grpL_s hx))
      have hi0 : (k : Int) < (M.s.n : Int) := by omega
      have hi1 : (0 : Int) ≤ (k : Int) := by omega
      have hb := takeG_le (x.ss.map (·.2.2)) k
      have HPt := Lib.hid (put_any A' _ c' _ g1 wr HR.out.1 (by omega) HR.out.2.1 (HU.out _ (List.mem_of_getElem? hx)))
      rw [← HT.out] at HPt
      have HBr := Lib.hid HR.out.2.2
      rw [hA] at y5
      generalize groupsL ((x.ss.map (·.2.2)).take k) = Q at *
      clear hx hbl HR hA
      go_wp2_with (go_at_call 64; (with_reducible refine HPt.out.mono ?_); rintro e w5 ⟨A7, c7, rfl, hr7, hc7, hb7⟩; have HR7 := Lib.hid (And.intro hr7 (And.intro hc7 (below_next HBr.out hb7))); clear hr7 hc7 hb7)
      go_roundw
      case rel => exact ⟨k + 1, A7, c7, by omega, by go_num, rfl, HR7⟩
      case measure => simp [intOf]; omega
    · obtain rfl : k = M.s.n := by omega
      have q1 : decide ((M.s.n : Int) < (M.s.n : Int)) = false := by simp
      have e1 : (x.ss.map (·.2.2)).take M.s.n = (grpL x).take (x.ss.length + 0) := by
        unfold grpL
        rw [List.take_append_of_le_length (by rw [List.length_map]; omega), show x.ss.length + 0 = M.s.n by omega]
      rw [e1] at HR ⊢
      clear hl e1
      go_wp2_with fail
      go_loopw [3, 5] (fun v iv wr => ∃ (k : Nat) (A' : Option Addr) (c' : Nat), k ≤ M.m.n ∧ iv = .int .i64 (k : Int) ∧ v = .slice A' (groupsL ((grpL x).take (x.ss.length + k))).length c' ∧ Hid (AR wr A' (groupsL ((grpL x).take (x.ss.length + k))).length (groupsL ((grpL x).take (x.ss.length + k))) ∧ (groupsL ((grpL x).take (x.ss.length + k))).length ≤ c' ∧ Below W1.heap.size W1 wr)) (fun _ iv _ => M.m.n - (intOf iv).toNat)
      case atStart => exact ⟨0, A', c', Nat.zero_le _, rfl, rfl, HR⟩
      case round =>
        clear HR y5
        obtain ⟨k, A', c', hk, rfl, rfl, HR⟩ := hrel
        have y6 : wr.cell? ⟨w.heap.size, 6, none⟩ = some (.slice M.m.A M.m.n M.m.c) := (HK.out.next HR.out.2.2).cell 6
        rcases Nat.lt_or_ge k M.m.n with hlt | hge
        · obtain ⟨bq, oq, ⟨l1, g1, o1, A1, n1, c1, ys1⟩, hA, hbl, hx, c0, c1', c2', c3'⟩ := IMember.cells (IR.next HJ.out HR.out.2.2) hlt
          have HT : Hid (groupsL ((grpL x).take (x.ss.length + (k + 1))) = putP (groupsL ((grpL x).take (x.ss.length + k))) g1) := Lib.hid (by rw [← Nat.add_assoc]; exact groupsL_take (grpL_m hx))
          have hi0 : (k : Int) < (M.m.n : Int) := by omega
          have hi1 : (0 : Int) ≤ (k : Int) := by omega
          have hb := takeG_le (grpL x) (x.ss.length + k)
          have HPt := Lib.hid (put_any A' _ c' _ g1 wr HR.out.1 (by omega) HR.out.2.1 (HV.out _ (List.mem_of_getElem? hx)))
          rw [← HT.out] at HPt
          have HBr := Lib.hid HR.out.2.2
          rw [hA] at y6
          generalize groupsL ((grpL x).take (x.ss.length + k)) = Q at *
          clear hx hbl HR hA
          go_wp2_with (go_at_call 64; (with_reducible refine HPt.out.mono ?_); rintro e w5 ⟨A7, c7, rfl, hr7, hc7, hb7⟩; have HR7 := Lib.hid (And.intro hr7 (And.intro hc7 (below_next HBr.out hb7))); clear hr7 hc7 hb7)
          go_roundw
          case rel => exact ⟨k + 1, A7, c7, by omega, by go_num, rfl, HR7⟩
          case measure => simp [intOf]; omega
        · obtain rfl : k = M.m.n := by omega
          have q1 : decide ((M.m.n : Int) < (M.m.n : Int)) = false := by simp
          rw [List.take_of_length_le (by rw [grpL_l]; omega)] at HR ⊢
          go_wp2
          go_ret
          have hb9 := HB0.out.trans (HR.out.2.2.mono HB0.out.size)
          first | exact ⟨A', ⟨c', rfl⟩, HR.out.1, HR.out.2.1, hb9⟩ | exact ⟨A', c', rfl, HR.out.1, HR.out.2.1, hb9⟩
set_option maxRecDepth 100000 in
set_option maxHeartbeats 4000000 in
theorem dknown_any (M : Cm) (x : Cfg) (q : Int × Int) (w : World) (h : CW w M x) (k : LtOK x) :
    Calls Tryz.prog 21 #[.agg #[.slice M.r.A M.r.n M.r.c, .slice M.l.A M.l.n M.l.c, .slice M.p.A M.p.n M.p.c, .slice M.o.A M.o.n M.o.c, .slice M.g.A M.g.n M.g.c, .slice M.s.A M.s.n M.s.c, .slice M.m.A M.m.n M.m.c], .agg #[.int .u32 q.1, .int .u32 q.2]] w fun e w' => e = .returned (.bool (decide (q ∈ sentP x))) ∧ Below w.heap.size w w' := by
  have hl := h.s.len
  have hs5 : M.s.n ≤ 5 := by have := k.sl; omega
  have HB0 := Lib.hid (((Below.refl w.heap.size w).alloc (Nat.le_refl _) (.cells #[.slice M.r.A M.r.n M.r.c, .slice M.l.A M.l.n M.l.c, .slice M.p.A M.p.n M.p.c, .slice M.o.A M.o.n M.o.c, .slice M.g.A M.g.n M.g.c, .slice M.s.A M.s.n M.s.c, .slice M.m.A M.m.n M.m.c] 30)).alloc (by simp) (.cells #[.int .u32 q.1, .int .u32 q.2] 44))
  have HK := Lib.hid ((Blk.new w 30 #[.slice M.r.A M.r.n M.r.c, .slice M.l.A M.l.n M.l.c, .slice M.p.A M.p.n M.p.c, .slice M.o.A M.o.n M.o.c, .slice M.g.A M.g.n M.g.c, .slice M.s.A M.s.n M.s.c, .slice M.m.A M.m.n M.m.c]).alloc (.cells #[.int .u32 q.1, .int .u32 q.2] 44))
  have hkq := Blk.new (w.alloc (.cells #[.slice M.r.A M.r.n M.r.c, .slice M.l.A M.l.n M.l.c, .slice M.p.A M.p.n M.p.c, .slice M.o.A M.o.n M.o.c, .slice M.g.A M.g.n M.g.c, .slice M.s.A M.s.n M.s.c, .slice M.m.A M.m.n M.m.c] 30)) 44 #[.int .u32 q.1, .int .u32 q.2]
  rw [sz_alloc] at hkq
  have HQ := Lib.hid hkq
  have HI := Lib.hid (IR.next h.s HB0.out)
  clear h k hkq
  go_enter Tryz.func21, Tryz.ntmps21
  go_upto_region 1 with fail
  generalize (w.alloc (.cells #[.slice M.r.A M.r.n M.r.c, .slice M.l.A M.l.n M.l.c, .slice M.p.A M.p.n M.p.c, .slice M.o.A M.o.n M.o.c, .slice M.g.A M.g.n M.g.c, .slice M.s.A M.s.n M.s.c, .slice M.m.A M.m.n M.m.c] 30)).alloc (.cells #[.int .u32 q.1, .int .u32 q.2] 44) = W1 at *
  go_wp2_with fail
  go_loopw [5] (fun iv wr => ∃ k : Nat, k ≤ M.s.n ∧ iv = .int .i64 (k : Int) ∧ Hid (∀ j, j < k → ∀ y, (sentP x)[j]? = some y → y ≠ q) ∧ Hid (Below W1.heap.size W1 wr)) (fun iv _ => M.s.n - (intOf iv).toNat)
  case atStart => exact ⟨0, Nat.zero_le _, rfl, Lib.hid (fun j h => absurd h (Nat.not_lt_zero _)), Lib.hid (Below.refl _ _)⟩
  case round =>
    obtain ⟨k, hk, rfl, HJ, HB⟩ := hrel
    rcases Nat.lt_or_ge k M.s.n with hlt | hge
    · obtain ⟨bq, oq, ⟨l1, s1, g1⟩, hA, hbl, hx, c0, c1, c2⟩ := ISource.cells (IR.next HI.out HB.out) hlt
      have y5 : ∀ p : Snc wr, p.W.cell? ⟨w.heap.size, 5, none⟩ = some (.slice M.s.A M.s.n M.s.c) := fun p => ((HK.out.next HB.out).next p.b).cell 5
      have z0 : ∀ p : Snc wr, p.W.cell? ⟨w.heap.size + 1, 0, none⟩ = some (.int .u32 q.1) := fun p => ((HQ.out.next HB.out).next p.b).cell 0
      have z1 : ∀ p : Snc wr, p.W.cell? ⟨w.heap.size + 1, 1, none⟩ = some (.int .u32 q.2) := fun p => ((HQ.out.next HB.out).next p.b).cell 1
      have x5 : wr.cell? ⟨w.heap.size, 5, none⟩ = some (.slice M.s.A M.s.n M.s.c) := (HK.out.next HB.out).cell 5
      have d1 : ∀ p : Snc wr, p.W.cell? ⟨bq, oq + k * 3 + 1, none⟩ = some (.int .u32 s1) := fun p => (p.b.cell (p := ⟨bq, oq + k * 3 + 1, none⟩) hbl).trans c1
      have d2 : ∀ p : Snc wr, p.W.cell? ⟨bq, oq + k * 3 + 2, none⟩ = some (.int .u32 g1) := fun p => (p.b.cell (p := ⟨bq, oq + k * 3 + 2, none⟩) hbl).trans c2
      have HX := Lib.hid (sentP_at hx)
      dsimp only at HX
      have hi0 : (k : Int) < (M.s.n : Int) := by omega
      have hi1 : (0 : Int) ≤ (k : Int) := by omega
      obtain ⟨V, hV⟩ : ∃ V, ((s1 == q.1) && (g1 == q.2)) = V := ⟨_, rfl⟩
      have HV := Lib.hid hV
      have G1 : ∀ p : Snc wr, Calls Tryz.prog 12 #[.agg #[.int .u32 s1, .int .u32 g1], .agg #[.int .u32 q.1, .int .u32 q.2]] p.W fun e w' => e = .returned (.bool V) ∧ ∃ Q : Snc wr, w' = Q.W := fun p => Calls.since (skeyV (s1, g1) q hV p.W)
      rw [hA] at y5 x5
      clear hx hbl hA c0 c1 c2 hV
      cases V with
      | true =>
        go_upto_region 4 with fail
        refine wp_region_since (by kernel_rfl) (by kernel_rfl) ?_
        repeat (go_big_quiet_step (first | (go_at_call 12; with_reducible exact G1 _)))
        refine wpQuiet_nil ?_
        rintro w6 ⟨P6, rfl⟩
        have HB6 := Lib.hid (HB.out.trans (P6.b.mono HB.out.size))
        clear y5 z0 z1 x5 d1 d2 G1 HB
        generalize P6.W = W6 at *
        have hm : decide (q ∈ sentP x) = true := by
          have h1 := HV.out
          simp only [Bool.and_eq_true, beq_iff_eq] at h1
          rw [decide_eq_true_eq]
          have h2 : (s1, g1) = q := Prod.ext h1.1 h1.2
          rw [← h2]
          exact List.mem_of_getElem? HX.out
        go_wp2
        go_ret
        exact ⟨ret_bool hm.symm, HB0.out.trans (HB6.out.mono HB0.out.size)⟩
      | false =>
        go_upto_region 4 with fail
        refine wp_region_since (by kernel_rfl) (by kernel_rfl) ?_
        repeat (go_big_quiet_step (first | (go_at_call 12; with_reducible exact G1 _)))
        refine wpQuiet_nil ?_
        rintro w6 ⟨P6, rfl⟩
        have HB6 := Lib.hid (HB.out.trans (P6.b.mono HB.out.size))
        clear y5 z0 z1 x5 d1 d2 G1 HB
        generalize P6.W = W6 at *
        have HJ2 : Hid (∀ j, j < k + 1 → ∀ y, (sentP x)[j]? = some y → y ≠ q) := Lib.hid (fun j hj y hy => by
          rcases Nat.lt_or_ge j k with h | h
          · exact HJ.out j h y hy
          · obtain rfl : j = k := by omega
            rw [HX.out] at hy
            cases hy
            exact key_ne HV.out)
        go_wp2
        go_roundw
        case rel => exact ⟨k + 1, by omega, by go_num, HJ2, HB6⟩
        case measure => simp [intOf]; omega
    · obtain rfl : k = M.s.n := by omega
      have x5 : wr.cell? ⟨w.heap.size, 5, none⟩ = some (.slice M.s.A M.s.n M.s.c) := (HK.out.next HB.out).cell 5
      have q1 : decide ((M.s.n : Int) < (M.s.n : Int)) = false := by simp
      have hm : decide (q ∈ sentP x) = false := by
        rw [decide_eq_false_iff_not]
        intro hm
        obtain ⟨j, hj⟩ := List.getElem?_of_mem hm
        have := (List.getElem?_eq_some_iff.1 hj).1
        rw [sentP_len] at this
        exact HJ.out j (by omega) q hj rfl
      go_wp2
      go_ret
      exact ⟨ret_bool hm.symm, HB0.out.trans (HB.out.mono HB0.out.size)⟩
end Go.Proofs.YtgicmgljllaliaaGreatDoor
namespace Go.Proofs.YtgicmgljllaliaaGreatDoor
open Go.ChangeShapes Go.WideShapes Go.ChangeAt Go.RowKit Lx Sm Go.Maps
theorem allP_s (x : Cfg) (G : List Int) : (allP x G).take (sentP x).length = sentP x := by
  unfold allP; rw [List.append_assoc, List.take_left']; rfl
theorem allP_g {x : Cfg} {G : List Int} {k : Nat} {g : Int} (h : G[k]? = some g) : (allP x G)[(sentP x).length + k]? = some (0, g) := by
  have := (List.getElem?_eq_some_iff.1 h).1
  unfold allP
  rw [List.append_assoc, List.getElem?_append_right (by omega), Nat.add_sub_cancel_left, List.getElem?_append_left (by rw [List.length_map]; exact this), List.getElem?_map, h]; rfl
/-- what goes ahead of the k-th member's j-th -/
def preM (x : Cfg) (G : List Int) (k : Nat) : List (Int × Int) := sentP x ++ G.map (fun g => ((0 : Int), g)) ++ (x.ms.take k).flatMap askedM
theorem preM_zero (x : Cfg) (G : List Int) : (allP x G).take ((sentP x).length + G.length) = preM x G 0 := by
  unfold allP preM
  rw [List.take_left' (by simp)]; simp
theorem preM_next {x : Cfg} {G : List Int} {k : Nat} {m : Mb} (h : x.ms[k]? = some m) : preM x G (k + 1) = preM x G k ++ askedM m := by
  unfold preM
  rw [flat_take1 h]; simp
theorem preM_all (x : Cfg) (G : List Int) {k : Nat} (h : x.ms.length ≤ k) : preM x G k = allP x G := by
  unfold preM allP
  rw [List.take_of_length_le h]
theorem preM_len {x : Cfg} (k9 : LtOK x) (G : List Int) (k : Nat) : (preM x G k).length ≤ 45 + G.length := by
  unfold preM
  have h1 := asked_lens (x.ms.take k) (fun y hy => k9.xl y (List.mem_of_mem_take hy))
  have h2 : (x.ms.take k).length ≤ 10 := by rw [List.length_take]; have := k9.ml; omega
  have h3 := k9.sl
  rw [List.length_append, List.length_append, List.length_map, sentP_len]
  omega
theorem keysS_more (L : List (Int × Int)) {Q : List (Int × Int)} {k : Nat} {a : Int × Int} (h : Q[k]? = some a) : keysS (L ++ Q.take (k + 1)) = putPK (keysS (L ++ Q.take k)) a := by
  rw [← keysS_snoc, List.take_add_one, h, ← List.append_assoc]; rfl
theorem asked_at {xs : List Int} {g : Int} {k : Nat} {a : Int} (h : xs[k]? = some a) : (xs.map fun a => (a, g))[k]? = some (a, g) := by
  rw [List.getElem?_map, h]; rfl
set_option maxRecDepth 100000 in
set_option maxHeartbeats 8000000 in
theorem dall_any (M : Cm) (x : Cfg) (w : World) (h : CW w M x) (k : LtOK x) :
    Calls Tryz.prog 19 #[.agg #[.slice M.r.A M.r.n M.r.c, .slice M.l.A M.l.n M.l.c, .slice M.p.A M.p.n M.p.c, .slice M.o.A M.o.n M.o.c, .slice M.g.A M.g.n M.g.c, .slice M.s.A M.s.n M.s.c, .slice M.m.A M.m.n M.m.c]] w fun e w' => ∃ (A' : Option Addr) (c' : Nat), e = .returned (.slice A' (keysS (allP x (groupsL (grpL x)))).length c') ∧ RI CKy 2 w' A' (keysS (allP x (groupsL (grpL x)))).length (keysS (allP x (groupsL (grpL x)))) ∧ (keysS (allP x (groupsL (grpL x)))).length ≤ c' ∧ Below w.heap.size w w' := by
  have hlm := h.m.len
  have hm10 : M.m.n ≤ 10 := by have := k.ml; omega
  have hgl : (groupsL (grpL x)).length ≤ 15 := Nat.le_trans (grp_len _) (by rw [grpL_l]; have := k.sl; have := k.ml; omega)
  have hsl : (sentP x).length ≤ 5 := by rw [sentP_len]; exact k.sl
  have HB0 := Lib.hid ((Below.refl w.heap.size w).alloc (Nat.le_refl _) (.cells #[.slice M.r.A M.r.n M.r.c, .slice M.l.A M.l.n M.l.c, .slice M.p.A M.p.n M.p.c, .slice M.o.A M.o.n M.o.c, .slice M.g.A M.g.n M.g.c, .slice M.s.A M.s.n M.s.c, .slice M.m.A M.m.n M.m.c] 30))
  have HK := Lib.hid (Blk.new w 30 #[.slice M.r.A M.r.n M.r.c, .slice M.l.A M.l.n M.l.c, .slice M.p.A M.p.n M.p.c, .slice M.o.A M.o.n M.o.c, .slice M.g.A M.g.n M.g.c, .slice M.s.A M.s.n M.s.c, .slice M.m.A M.m.n M.m.c])
  have HC := Lib.hid (h.next HB0.out)
  have HOK := Lib.hid k
  clear h k
  go_enter Tryz.func19, Tryz.ntmps19
  go_upto_region 1 with fail
  generalize w.alloc (.cells #[.slice M.r.A M.r.n M.r.c, .slice M.l.A M.l.n M.l.c, .slice M.p.A M.p.n M.p.c, .slice M.o.A M.o.n M.o.c, .slice M.g.A M.g.n M.g.c, .slice M.s.A M.s.n M.s.c, .slice M.m.A M.m.n M.m.c] 30) = W1 at *
  have y0 : W1.cell? ⟨w.heap.size, 0, none⟩ = some (.slice M.r.A M.r.n M.r.c) := (HK.out).cell 0
  have y1 : W1.cell? ⟨w.heap.size, 1, none⟩ = some (.slice M.l.A M.l.n M.l.c) := (HK.out).cell 1
  have y2 : W1.cell? ⟨w.heap.size, 2, none⟩ = some (.slice M.p.A M.p.n M.p.c) := (HK.out).cell 2
  have y3 : W1.cell? ⟨w.heap.size, 3, none⟩ = some (.slice M.o.A M.o.n M.o.c) := (HK.out).cell 3
  have y4 : W1.cell? ⟨w.heap.size, 4, none⟩ = some (.slice M.g.A M.g.n M.g.c) := (HK.out).cell 4
  have y5 : W1.cell? ⟨w.heap.size, 5, none⟩ = some (.slice M.s.A M.s.n M.s.c) := (HK.out).cell 5
  have y6 : W1.cell? ⟨w.heap.size, 6, none⟩ = some (.slice M.m.A M.m.n M.m.c) := (HK.out).cell 6
  have HS := Lib.hid (dsent_any M x W1 HC.out HOK.out)
  go_wp2_with fail
  refine HS.out.mono ?_
  rintro e w2 ⟨A2, c2, rfl, hr2, hc2, hb2⟩
  have HR2 := Lib.hid (And.intro hr2 hc2)
  have HB2 := Lib.hid hb2
  clear y0 y1 y2 y3 y4 y5 y6 hr2 hc2 hb2 HS
  have y0 : w2.cell? ⟨w.heap.size, 0, none⟩ = some (.slice M.r.A M.r.n M.r.c) := (HK.out.next HB2.out).cell 0
  have y1 : w2.cell? ⟨w.heap.size, 1, none⟩ = some (.slice M.l.A M.l.n M.l.c) := (HK.out.next HB2.out).cell 1
  have y2 : w2.cell? ⟨w.heap.size, 2, none⟩ = some (.slice M.p.A M.p.n M.p.c) := (HK.out.next HB2.out).cell 2
  have y3 : w2.cell? ⟨w.heap.size, 3, none⟩ = some (.slice M.o.A M.o.n M.o.c) := (HK.out.next HB2.out).cell 3
  have y4 : w2.cell? ⟨w.heap.size, 4, none⟩ = some (.slice M.g.A M.g.n M.g.c) := (HK.out.next HB2.out).cell 4
  have y5 : w2.cell? ⟨w.heap.size, 5, none⟩ = some (.slice M.s.A M.s.n M.s.c) := (HK.out.next HB2.out).cell 5
  have y6 : w2.cell? ⟨w.heap.size, 6, none⟩ = some (.slice M.m.A M.m.n M.m.c) := (HK.out.next HB2.out).cell 6
  have HG := Lib.hid (ddgroups_any M x w2 (HC.out.next HB2.out) HOK.out)
  go_wp2_with fail
  refine HG.out.mono ?_
  rintro e w3 ⟨A3, c3, rfl, hr3, hc3, hb3⟩
  have HB3 := Lib.hid (below_next HB2.out hb3)
  have HR3 := Lib.hid (And.intro (HR2.out.1.next hb3) HR2.out.2)
  have HG3 := Lib.hid hr3
  clear y0 y1 y2 y3 y4 y5 y6 hr3 hc3 hb3 HG HR2 HB2
  have hal : Hid (∀ G : List Int, (allP x G).length ≤ 45 + G.length) := Lib.hid (fun G => by rw [← preM_all x G (Nat.le_refl _)]; exact preM_len HOK.out G _)
  have HG0 : Hid (∃ G, groupsL (grpL x) = G) := Lib.hid ⟨_, rfl⟩
  obtain ⟨G, hG⟩ := HG0.out
  clear HG0
  rw [hG] at HG3 hgl ⊢
  have HGG := Lib.hid hG
  clear hG
  replace hal := hal.out G
  have e0 : keysS (sentP x) = keysS ((allP x G).take ((sentP x).length + 0)) := by rw [Nat.add_zero, allP_s]
  rw [e0] at HR3 ⊢
  clear e0
  go_wp2_with fail
  go_loopw [3, 5] (fun v iv wr => ∃ (k : Nat) (A' : Option Addr) (c' : Nat), k ≤ G.length ∧ iv = .int .i64 (k : Int) ∧ v = .slice A' (keysS ((allP x G).take ((sentP x).length + k))).length c' ∧ Hid (RI CKy 2 wr A' (keysS ((allP x G).take ((sentP x).length + k))).length (keysS ((allP x G).take ((sentP x).length + k))) ∧ (keysS ((allP x G).take ((sentP x).length + k))).length ≤ c' ∧ Below w3.heap.size w3 wr)) (fun _ iv _ => G.length - (intOf iv).toNat)
  case atStart => exact ⟨0, A2, c2, Nat.zero_le _, rfl, rfl, Lib.hid ⟨HR3.out.1, HR3.out.2, Below.refl _ _⟩⟩
  case round =>
    clear HR3
    obtain ⟨k, A', c', hk, rfl, rfl, HR⟩ := hrel
    rcases Nat.lt_or_ge k G.length with hlt | hge
    · obtain ⟨b, oo, rfl, hbl, hx⟩ := (HG3.out.next HR.out.2.2).at_ hlt
      have hgk : G[k]? = some (G.getD k 0) := by rw [List.getD_eq_getElem?_getD, List.getElem?_eq_getElem (by omega)]; rfl
      generalize G.getD k 0 = g at *
      have HT : Hid (keysS ((allP x G).take ((sentP x).length + (k + 1))) = putPK (keysS ((allP x G).take ((sentP x).length + k))) (0, g)) := Lib.hid (by rw [← Nat.add_assoc]; exact keysS_take (allP_g hgk))
      have hi0 : (k : Int) < (G.length : Int) := by omega
      have hi1 : (0 : Int) ≤ (k : Int) := by omega
      have hb := take_le (allP x G) ((sentP x).length + k)
      have HPt := Lib.hid (kput_any A' _ c' _ (0, g) wr HR.out.1 (by omega) HR.out.2.1)
      rw [← HT.out] at HPt
      have HBr := Lib.hid HR.out.2.2
      generalize keysS ((allP x G).take ((sentP x).length + k)) = Q at *
      clear hgk hbl HR hb
      go_wp2_with (go_at_call 35; (with_reducible refine HPt.out.mono ?_); rintro e w5 ⟨A7, c7, rfl, hr7, hc7, hb7⟩; have HR7 := Lib.hid (And.intro hr7 (And.intro hc7 (below_next HBr.out hb7))); clear hr7 hc7 hb7)
      go_roundw
      case rel => exact ⟨k + 1, A7, c7, by omega, by go_num, rfl, HR7⟩
      case measure => simp [intOf]; omega
    · obtain rfl : k = G.length := by omega
      have q1 : decide ((G.length : Int) < (G.length : Int)) = false := by simp
      rw [preM_zero] at HR ⊢
      clear hal
      go_wp2_with fail
      clear q1
      go_loopw [3, 6] (fun v iv wr => ∃ (k : Nat) (A' : Option Addr) (c' : Nat), k ≤ M.m.n ∧ iv = .int .i64 (k : Int) ∧ v = .slice A' (keysS (preM x G k)).length c' ∧ Hid (RI CKy 2 wr A' (keysS (preM x G k)).length (keysS (preM x G k)) ∧ (keysS (preM x G k)).length ≤ c' ∧ Below w3.heap.size w3 wr)) (fun _ iv _ => M.m.n - (intOf iv).toNat)
      case atStart => exact ⟨0, A', c', Nat.zero_le _, rfl, rfl, HR⟩
      case round =>
        clear HR
        obtain ⟨k, A', c', hk, rfl, rfl, HR⟩ := hrel
        generalize wr = W5 at *
        have HK5 := Lib.hid (HK.out.next (below_next HB3.out HR.out.2.2))
        have y6 : W5.cell? ⟨w.heap.size, 6, none⟩ = some (.slice M.m.A M.m.n M.m.c) := HK5.out.cell 6
        rcases Nat.lt_or_ge k M.m.n with hlt | hge
        · have HCr := Lib.hid (HC.out.next (below_next HB3.out HR.out.2.2))
          obtain ⟨bq, oq, ⟨l1, g1, o1, A1, n1, c1, ys1⟩, hA, hbl, hx, d0, d1, d2, d3⟩ := IMember.cells HCr.out.m hlt
          have hy := List.mem_of_getElem? hx
          have hsrc := (HCr.out.src _ hy).1
          have hxl := HOK.out.xl _ hy
          dsimp only at hsrc hxl
          have hn1 : n1 ≤ 4 := by have := hsrc.len; omega
          have HSR := Lib.hid hsrc
          have HTk := Lib.hid (preM_next (G := G) hx)
          have hpl := preM_len HOK.out G k
          have hi0 : (k : Int) < (M.m.n : Int) := by omega
          have hi1 : (0 : Int) ≤ (k : Int) := by omega
          have D1 := Lib.hid (fun W (hW : Below W5.heap.size W5 W) => (hW.cell (p := ⟨bq, oq + k * 4 + 1, none⟩) hbl).trans d1)
          have D2 := Lib.hid (fun W (hW : Below W5.heap.size W5 W) => (hW.cell (p := ⟨bq, oq + k * 4 + 2, none⟩) hbl).trans d2)
          have D3 := Lib.hid (fun W (hW : Below W5.heap.size W5 W) => (hW.cell (p := ⟨bq, oq + k * 4 + 3, none⟩) hbl).trans d3)
          have Y6 := Lib.hid (fun W (hW : Below W5.heap.size W5 W) => (HK5.out.next hW).cell 6)
          clear hx hsrc hy HCr d0 d1 d2 d3 hbl
          rw [hA] at y6 Y6
          clear hA
          cases o1 with
          | false =>
            have HTz : Hid (preM x G (k + 1) = preM x G k) := Lib.hid (HTk.out.trans (List.append_nil _))
            clear HTk
            go_wp2_with fail
            clear y6
            go_loopw [3, 7] (fun v jv wr => v = .slice A' (keysS (preM x G k)).length c' ∧ jv = .int .i64 0 ∧ W5 = wr) (fun _ _ _ => 0)
            case atStart => exact ⟨rfl, rfl, rfl⟩
            case round =>
              obtain ⟨rfl, rfl, rfl⟩ := hrel
              have y6 : W5.cell? ⟨w.heap.size, 6, none⟩ = some (.slice (some ⟨bq, oq, none⟩) M.m.n M.m.c) := Y6.out W5 (Below.refl _ _)
              have d2 := D2.out W5 (Below.refl _ _)
              have d3 := D3.out W5 (Below.refl _ _)
              rcases Nat.eq_zero_or_pos n1 with h0 | h0
              · subst h0
                go_wp2
                go_roundw
                case rel => exact ⟨k + 1, A', c', hlt, by go_num, by rw [HTz.out], by rw [HTz.out]; exact HR⟩
                case measure => simp [intOf]; omega
              · have h1 : (0 : Int) < (n1 : Int) := by omega
                go_wp2
                go_roundw
                case rel => exact ⟨k + 1, A', c', hlt, by go_num, by rw [HTz.out], by rw [HTz.out]; exact HR⟩
                case measure => simp [intOf]; omega
          | true =>
            have HTz : Hid (preM x G (k + 1) = preM x G k ++ ys1.map fun a => (a, g1)) := Lib.hid HTk.out
            clear HTk
            have hpz : keysS (preM x G k) = keysS (preM x G k ++ (ys1.map fun a => (a, g1)).take 0) := by rw [List.take_zero, List.append_nil]
            rw [hpz] at HR ⊢
            clear hpz
            go_wp2_with fail
            clear y6
            go_loopw [3, 7] (fun v jv wr => ∃ (j : Nat) (A' : Option Addr) (c' : Nat), j ≤ n1 ∧ jv = .int .i64 (j : Int) ∧ v = .slice A' (keysS (preM x G k ++ (ys1.map fun a => (a, g1)).take j)).length c' ∧ Hid (RI CKy 2 wr A' (keysS (preM x G k ++ (ys1.map fun a => (a, g1)).take j)).length (keysS (preM x G k ++ (ys1.map fun a => (a, g1)).take j)) ∧ (keysS (preM x G k ++ (ys1.map fun a => (a, g1)).take j)).length ≤ c' ∧ Below W5.heap.size W5 wr)) (fun _ jv _ => n1 - (intOf jv).toNat)
            case atStart => exact ⟨0, A', c', Nat.zero_le _, rfl, rfl, Lib.hid ⟨HR.out.1, HR.out.2.1, Below.refl _ _⟩⟩
            case round =>
              have HBo := Lib.hid HR.out.2.2
              clear HR
              obtain ⟨j, A', c', hj, rfl, rfl, HR⟩ := hrel
              have y6 : wr.cell? ⟨w.heap.size, 6, none⟩ = some (.slice (some ⟨bq, oq, none⟩) M.m.n M.m.c) := Y6.out wr HR.out.2.2
              have d2 := D2.out wr HR.out.2.2
              have d3 := D3.out wr HR.out.2.2
              rcases Nat.lt_or_ge j n1 with hjl | hjg
              · obtain ⟨b2, o2, rfl, hbl2, hx2⟩ := (HSR.out.next HR.out.2.2).at_ hjl
                have hgj : ys1[j]? = some (ys1.getD j 0) := by rw [List.getD_eq_getElem?_getD, List.getElem?_eq_getElem (by have := HSR.out.len; omega)]; rfl
                generalize ys1.getD j 0 = a at *
                have HT := Lib.hid (keysS_more (preM x G k) (asked_at (g := g1) hgj))
                have hj0 : (j : Int) < (n1 : Int) := by omega
                have hj1 : (0 : Int) ≤ (j : Int) := by omega
                have hb : (keysS (preM x G k ++ (ys1.map fun a => (a, g1)).take j)).length ≤ 100 := Nat.le_trans (keysS_len _) (by
                  rw [List.length_append, List.length_take, List.length_map]; omega)
                have HPt : ∀ W, Below wr.heap.size wr W → Calls Tryz.prog 35 #[.slice A' (keysS (preM x G k ++ (ys1.map fun a => (a, g1)).take j)).length c', .agg #[.int .u32 a, .int .u32 g1]] W fun e w' => ∃ (A7 : Option Addr) (c7 : Nat), e = .returned (.slice A7 (keysS (preM x G k ++ (ys1.map fun a => (a, g1)).take (j + 1))).length c7) ∧ RI CKy 2 w' A7 (keysS (preM x G k ++ (ys1.map fun a => (a, g1)).take (j + 1))).length (keysS (preM x G k ++ (ys1.map fun a => (a, g1)).take (j + 1))) ∧ (keysS (preM x G k ++ (ys1.map fun a => (a, g1)).take (j + 1))).length ≤ c7 ∧ Below W.heap.size W w' := fun W hW => by
                  rw [HT.out]
                  exact kput_any A' _ c' _ (a, g1) W (HR.out.1.next hW) (by omega) HR.out.2.1
                have HBr := Lib.hid HR.out.2.2
                have v6 := fun W (hW : Below wr.heap.size wr W) => Y6.out W (below_next HBr.out hW)
                have v1 := fun W (hW : Below wr.heap.size wr W) => D1.out W (below_next HBr.out hW)
                have v3 := fun W (hW : Below wr.heap.size wr W) => D3.out W (below_next HBr.out hW)
                have v4 := fun W (hW : Below wr.heap.size wr W) => (hW.cell (p := ⟨b2, o2 + j, none⟩) hbl2).trans hx2
                generalize keysS (preM x G k ++ (ys1.map fun a => (a, g1)).take j) = Q at *
                clear HT hgj HR hb hbl2
                go_upto_region 13 with fail
                clear y6 d2 d3 hx2
                go_region_held3 (fun w' => Below wr.heap.size wr w')
                  (first | assumption | exact (Below.refl _ _).drew | exact Below.refl _ _ | exact hB7)
                  (first
                  | (go_at_call 35; refine (HPt _ (by first | assumption | exact (Below.refl _ _).drew | exact Below.refl _ _)).mono ?_; rintro e w7 ⟨A7, c7, rfl, hr7, hc7, hb7⟩; have hB7 : Below wr.heap.size wr w7 := (by first | exact hb7 | exact ((Below.refl _ _).drew).trans hb7)))
                all_goals
                  have HR7 := Lib.hid (And.intro hr7 (And.intro hc7 (below_next HBr.out hB7)))
                  clear hr7 hc7 hb7 hB7 v6 v1 v3 v4 HPt
                  go_wp2
                  go_roundw
                  case rel => first | exact ⟨j + 1, A7, c7, by omega, by go_num, rfl, HR7⟩ | ((repeat apply Exists.intro); exact ⟨⟨j + 1, A7, c7, by omega, by go_num, rfl, HR7⟩, rfl⟩)
                  case measure => simp [intOf]; omega
              · obtain rfl : j = n1 := by omega
                have q1 : decide ((j : Int) < (j : Int)) = false := by simp
                have e1 : preM x G k ++ (ys1.map fun a => (a, g1)).take j = preM x G (k + 1) := by
                  rw [HTz.out, List.take_of_length_le (by rw [List.length_map]; have := HSR.out.len; omega)]
                rw [e1] at HR ⊢
                go_wp2
                go_roundw
                case rel => exact ⟨k + 1, A', c', hlt, by go_num, rfl, Lib.hid ⟨HR.out.1, HR.out.2.1, below_next HBo.out HR.out.2.2⟩⟩
                case measure => simp [intOf]; omega
        · obtain rfl : k = M.m.n := by omega
          have q1 : decide ((M.m.n : Int) < (M.m.n : Int)) = false := by simp
          rw [preM_all x G (by omega)] at HR ⊢
          go_wp2
          go_ret
          rw [HGG.out]
          have hb9 := HB0.out.trans ((below_next HB3.out HR.out.2.2).mono HB0.out.size)
          first | exact ⟨A', ⟨c', rfl⟩, HR.out.1, HR.out.2.1, hb9⟩ | exact ⟨A', c', rfl, HR.out.1, HR.out.2.1, hb9⟩
end Go.Proofs.YtgicmgljllaliaaGreatDoor
namespace Go.Proofs.YtgicmgljllaliaaGreatDoor
open Go.RowKit Lx Sm Go.Maps
set_option maxHeartbeats 40000000 in
set_option maxRecDepth 100000 in
theorem law_ksay (ads : List Addr) (A : Option Addr) (n c : Nat) (xs : List (Int × Int)) (M : Cm) (x : Cfg) (a b : Int × Int) (w : World) (hE : EnvC ads w) (hr : RI CKy 2 w A n xs) (hu : ∀ y ∈ xs, UK y) (hL : LW w M x) (ha : UK a) :
    Calls Tryz.prog 4 #[.slice A n c, .agg #[.slice M.r.A M.r.n M.r.c, .slice M.l.A M.l.n M.l.c, .slice M.p.A M.p.n M.p.c, .slice M.o.A M.o.n M.o.c, .slice M.g.A M.g.n M.g.c, .slice M.s.A M.s.n M.s.c, .slice M.m.A M.m.n M.m.c], .agg #[.int .u32 a.1, .int .u32 a.2], .agg #[.int .u32 b.1, .int .u32 b.2]] w fun e w' => e = .returned (.bool true) ∧ Below w.heap.size w w' := by
  have HB0 := Lib.hid ((((Below.refl w.heap.size w).alloc (Nat.le_refl _) (.cells #[.slice M.r.A M.r.n M.r.c, .slice M.l.A M.l.n M.l.c, .slice M.p.A M.p.n M.p.c, .slice M.o.A M.o.n M.o.c, .slice M.g.A M.g.n M.g.c, .slice M.s.A M.s.n M.s.c, .slice M.m.A M.m.n M.m.c] 30)).alloc (by simp) (.cells #[.int .u32 a.1, .int .u32 a.2] 44)).alloc (by simp; omega) (.cells #[.int .u32 b.1, .int .u32 b.2] 44))
  have HK0 : Hid (Blk (((w.alloc (.cells #[.slice M.r.A M.r.n M.r.c, .slice M.l.A M.l.n M.l.c, .slice M.p.A M.p.n M.p.c, .slice M.o.A M.o.n M.o.c, .slice M.g.A M.g.n M.g.c, .slice M.s.A M.s.n M.s.c, .slice M.m.A M.m.n M.m.c] 30)).alloc (.cells #[.int .u32 a.1, .int .u32 a.2] 44)).alloc (.cells #[.int .u32 b.1, .int .u32 b.2] 44)) w.heap.size 30 #[.slice M.r.A M.r.n M.r.c, .slice M.l.A M.l.n M.l.c, .slice M.p.A M.p.n M.p.c, .slice M.o.A M.o.n M.o.c, .slice M.g.A M.g.n M.g.c, .slice M.s.A M.s.n M.s.c, .slice M.m.A M.m.n M.m.c]) := Lib.hid (((Blk.new _ _ _).alloc _).alloc _)
  have HQ0 : Hid (Blk (((w.alloc (.cells #[.slice M.r.A M.r.n M.r.c, .slice M.l.A M.l.n M.l.c, .slice M.p.A M.p.n M.p.c, .slice M.o.A M.o.n M.o.c, .slice M.g.A M.g.n M.g.c, .slice M.s.A M.s.n M.s.c, .slice M.m.A M.m.n M.m.c] 30)).alloc (.cells #[.int .u32 a.1, .int .u32 a.2] 44)).alloc (.cells #[.int .u32 b.1, .int .u32 b.2] 44)) (w.heap.size + 1) 44 #[.int .u32 a.1, .int .u32 a.2]) := Lib.hid (by
    have := (Blk.new (w.alloc (.cells #[.slice M.r.A M.r.n M.r.c, .slice M.l.A M.l.n M.l.c, .slice M.p.A M.p.n M.p.c, .slice M.o.A M.o.n M.o.c, .slice M.g.A M.g.n M.g.c, .slice M.s.A M.s.n M.s.c, .slice M.m.A M.m.n M.m.c] 30)) 44 #[.int .u32 a.1, .int .u32 a.2]).alloc (.cells #[.int .u32 b.1, .int .u32 b.2] 44)
    simpa using this)
  have HP0 : Hid (Blk (((w.alloc (.cells #[.slice M.r.A M.r.n M.r.c, .slice M.l.A M.l.n M.l.c, .slice M.p.A M.p.n M.p.c, .slice M.o.A M.o.n M.o.c, .slice M.g.A M.g.n M.g.c, .slice M.s.A M.s.n M.s.c, .slice M.m.A M.m.n M.m.c] 30)).alloc (.cells #[.int .u32 a.1, .int .u32 a.2] 44)).alloc (.cells #[.int .u32 b.1, .int .u32 b.2] 44)) (w.heap.size + 2) 44 #[.int .u32 b.1, .int .u32 b.2]) := Lib.hid (by
    have := Blk.new ((w.alloc (.cells #[.slice M.r.A M.r.n M.r.c, .slice M.l.A M.l.n M.l.c, .slice M.p.A M.p.n M.p.c, .slice M.o.A M.o.n M.o.c, .slice M.g.A M.g.n M.g.c, .slice M.s.A M.s.n M.s.c, .slice M.m.A M.m.n M.m.c] 30)).alloc (.cells #[.int .u32 a.1, .int .u32 a.2] 44)) 44 #[.int .u32 b.1, .int .u32 b.2]
    simpa using this)
  have HF := Lib.hid (first16_any ads _ (hE.below HB0.out))
  have HE := Lib.hid hE
  have HL := Lib.hid hL
  have HR0 := Lib.hid (hr.next HB0.out)
  have HU := Lib.hid hu
  have HA := Lib.hid ha
  clear hE hL hr hu ha
  go_enter Tryz.func4, Tryz.ntmps4
  go_upto_region 1 with fail
  generalize ((w.alloc (.cells #[.slice M.r.A M.r.n M.r.c, .slice M.l.A M.l.n M.l.c, .slice M.p.A M.p.n M.p.c, .slice M.o.A M.o.n M.o.c, .slice M.g.A M.g.n M.g.c, .slice M.s.A M.s.n M.s.c, .slice M.m.A M.m.n M.m.c] 30)).alloc (.cells #[.int .u32 a.1, .int .u32 a.2] 44)).alloc (.cells #[.int .u32 b.1, .int .u32 b.2] 44) = W0 at *
  go_wp2_with fail
  refine HF.out.mono ?_
  rintro e w1 ⟨rfl, hb1⟩
  have HB1 := Lib.hid (below_next HB0.out hb1)
  have HK1 := Lib.hid (HK0.out.next hb1)
  have HQ1 := Lib.hid (HQ0.out.next hb1)
  have HP1 := Lib.hid (HP0.out.next hb1)
  have HR1 := Lib.hid (HR0.out.next hb1)
  have y0 : w1.cell? ⟨w.heap.size, 0, none⟩ = some (.slice M.r.A M.r.n M.r.c) := HK1.out.cell 0
  have y1 : w1.cell? ⟨w.heap.size, 1, none⟩ = some (.slice M.l.A M.l.n M.l.c) := HK1.out.cell 1
  have y2 : w1.cell? ⟨w.heap.size, 2, none⟩ = some (.slice M.p.A M.p.n M.p.c) := HK1.out.cell 2
  have y3 : w1.cell? ⟨w.heap.size, 3, none⟩ = some (.slice M.o.A M.o.n M.o.c) := HK1.out.cell 3
  have y4 : w1.cell? ⟨w.heap.size, 4, none⟩ = some (.slice M.g.A M.g.n M.g.c) := HK1.out.cell 4
  have y5 : w1.cell? ⟨w.heap.size, 5, none⟩ = some (.slice M.s.A M.s.n M.s.c) := HK1.out.cell 5
  have y6 : w1.cell? ⟨w.heap.size, 6, none⟩ = some (.slice M.m.A M.m.n M.m.c) := HK1.out.cell 6
  have HG := Lib.hid (light_any M x 8 w1 (HL.out.next HB1.out) (by omega))
  clear hb1 HF HR0 HP0
  by_cases hbig : 30 < n
  · have hd : decide ((30 : Int) < (n : Int)) = true := by simp; omega
    go_wp2
    go_ret
    exact ⟨rfl, HB1.out⟩
  have hd : decide ((30 : Int) < (n : Int)) = false := by simp; omega
  go_wp2_with fail
  refine HG.out.mono ?_
  rintro e w2 ⟨rfl, hb2⟩
  have HB2 := Lib.hid (below_next HB1.out hb2)
  have HK2 := Lib.hid (HK1.out.next hb2)
  have HQ2 := Lib.hid (HQ1.out.next hb2)
  have HB12 := Lib.hid hb2
  clear y0 y1 y2 y3 y4 y5 y6 HG hb2
  cases hlp : lightP x 8 with
  | false =>
    go_wp2
    go_ret
    exact ⟨rfl, HB2.out⟩
  | true =>
    have HOK := Lib.hid (lt_ok hlp (by omega))
    have HRL := Lib.hid (lt_rl hlp)
    have HC2 := Lib.hid ((HL.out.next HB2.out).cw HOK.out)
    have HN := Lib.hid (new_light ads M x w2 (HE.out.below HB2.out) HC2.out HOK.out)
    have y0 : w2.cell? ⟨w.heap.size, 0, none⟩ = some (.slice M.r.A M.r.n M.r.c) := HK2.out.cell 0
    have y1 : w2.cell? ⟨w.heap.size, 1, none⟩ = some (.slice M.l.A M.l.n M.l.c) := HK2.out.cell 1
    have y2 : w2.cell? ⟨w.heap.size, 2, none⟩ = some (.slice M.p.A M.p.n M.p.c) := HK2.out.cell 2
    have y3 : w2.cell? ⟨w.heap.size, 3, none⟩ = some (.slice M.o.A M.o.n M.o.c) := HK2.out.cell 3
    have y4 : w2.cell? ⟨w.heap.size, 4, none⟩ = some (.slice M.g.A M.g.n M.g.c) := HK2.out.cell 4
    have y5 : w2.cell? ⟨w.heap.size, 5, none⟩ = some (.slice M.s.A M.s.n M.s.c) := HK2.out.cell 5
    have y6 : w2.cell? ⟨w.heap.size, 6, none⟩ = some (.slice M.m.A M.m.n M.m.c) := HK2.out.cell 6
    clear hlp HL HB1 HK1 HB0 HK0 HQ1 HQ0
    have HP2 := Lib.hid (HP1.out.next HB12.out)
    have HR2 := Lib.hid (HR1.out.next HB12.out)
    go_wp2_with fail
    refine HN.out.mono ?_
    rintro e w4 ⟨T, x', rfl, hT, hal, hb4⟩
    have HT := Lib.hid hT
    have HAL := Lib.hid hal
    have HB4 := Lib.hid (below_next HB2.out hb4)
    have HK4 := Lib.hid (HK2.out.next hb4)
    have HC4 := Lib.hid (HC2.out.next hb4)
    have HQ4 := Lib.hid (HQ2.out.next hb4)
    have HB24 := Lib.hid hb4
    clear y0 y1 y2 y3 y4 y5 y6 HN hT hal hb4 HC2 HK2
    have qr : M.r.n ≤ 16 := by have := HC4.out.r.len; have := HOK.out.rl; omega
    have ql : M.l.n ≤ 12 := by have := HC4.out.l.len; have := HOK.out.ll; omega
    have qp : M.p.n ≤ 24 := by have := HC4.out.p.len; have := HOK.out.pl; omega
    have qo : M.o.n ≤ 30 := by have := HC4.out.o.len; have := HOK.out.ol; omega
    have qg : M.g.n ≤ 4 := by have := HC4.out.g.len; have := HOK.out.gl; omega
    have qs : M.s.n ≤ 5 := by have := HC4.out.s.len; have := HOK.out.sl; omega
    have qm : M.m.n ≤ 10 := by have := HC4.out.m.len; have := HOK.out.ml; omega
    have HP4 := Lib.hid (HP2.out.next HB24.out)
    have HR4 := Lib.hid (HR2.out.next HB24.out)
    have HOK' := Lib.hid (HOK.out.alike HAL.out (by rw [vcode_alike HAL.out]; exact HOK.out.v))
    have hgl : (groupsL (grpL x)).length ≤ 15 := Nat.le_trans (grp_len _) (by rw [grpL_len]; have := HOK.out.sl; have := HOK.out.ml; omega)
    have HGU : Hid (∀ a ∈ groupsL (grpL x), U32 a) := Lib.hid (fun a ha => grpL_u HC4.out a ((grp_mem _ _).1 ha))
    have hes : sentP x' = sentP x := by unfold sentP; rw [HAL.out.s]
    have hea : allP x' (groupsL (grpL x)) = allP x (groupsL (grpL x)) := by unfold allP; rw [hes, asked_alike HAL.out.m]
    have hal : (keysS (allP x (groupsL (grpL x)))).length ≤ 1000000 := Nat.le_trans (keysS_len _) (by rw [← preM_all x (groupsL (grpL x)) (Nat.le_refl _)]; have := preM_len HOK.out (groupsL (grpL x)) x.ms.length; omega)
    have hsl : (keysS (sentP x)).length ≤ 1000000 := Nat.le_trans (keysS_len _) (by rw [sentP_len]; have := HOK.out.sl; omega)
    have hxl : (keysS xs).length ≤ 1000000 := Nat.le_trans (keysS_len _) (by have := HR4.out.len; omega)
    have S1 := fun W (hW : Below w4.heap.size w4 W) => ksort_any A n c xs W (HR4.out.next hW) HU.out (by omega)
    have S2 := fun W (hW : Below w4.heap.size w4 W) => dsort_any A n c xs W (HR4.out.next hW) (by omega)
    have A1 := fun W (hW : Below w4.heap.size w4 W) => all_any W (HT.out.next hW) HOK'.out HGU.out (by omega)
    have A2 := fun W (hW : Below w4.heap.size w4 W) => dall_any M x W (HC4.out.next hW) HOK.out
    have N1 := fun W (hW : Below w4.heap.size w4 W) => sentS_any W (HT.out.next hW) HOK'.out
    have N2 := fun W (hW : Below w4.heap.size w4 W) => dsent_any M x W (HC4.out.next hW) HOK.out
    have K1 := fun W (hW : Below w4.heap.size w4 W) => known_any a HA.out W (HT.out.next hW) HOK'.out
    have K2 := fun W (hW : Below w4.heap.size w4 W) => dknown_any M x a W (HC4.out.next hW) HOK.out
    rw [hea] at A1
    rw [hes] at N1 K1
    obtain ⟨V, hV⟩ : ∃ V, decide (ltPK a b) = V := ⟨_, rfl⟩
    have F1 := fun W => klessV a b hV W
    have F2 := fun W => dlessV a b hV W
    generalize decide (a ∈ sentP x) = V2 at *
    have hVV : (V == V) = true := by cases V <;> rfl
    have hV2 : (V2 == V2) = true := by cases V2 <;> rfl
    have S3 := fun B D k d W (h : RI CKy 2 W B _ (keysS xs)) (h2 : RI CKy 2 W D _ (keysS xs)) => skeys_any B D (keysS xs).length k d (keysS xs) W h h2 hxl
    have A3 := fun B D k d W (h : RI CKy 2 W B _ (keysS (allP x (groupsL (grpL x))))) (h2 : RI CKy 2 W D _ (keysS (allP x (groupsL (grpL x))))) => skeys_any B D _ k d _ W h h2 hal
    have N3 := fun B D k d W (h : RI CKy 2 W B _ (keysS (sentP x))) (h2 : RI CKy 2 W D _ (keysS (sentP x))) => skeys_any B D _ k d _ W h h2 hsl
    generalize keysS xs = ks at *
    generalize keysS (sentP x) = se at *
    generalize keysS (allP x (groupsL (grpL x))) = al at *
    clear hes hea hal hsl hxl hgl hV
    have y0 := fun W (hW : Below w4.heap.size w4 W) => (HK4.out.next hW).cell 0
    have y1 := fun W (hW : Below w4.heap.size w4 W) => (HK4.out.next hW).cell 1
    have y2 := fun W (hW : Below w4.heap.size w4 W) => (HK4.out.next hW).cell 2
    have y3 := fun W (hW : Below w4.heap.size w4 W) => (HK4.out.next hW).cell 3
    have y4 := fun W (hW : Below w4.heap.size w4 W) => (HK4.out.next hW).cell 4
    have y5 := fun W (hW : Below w4.heap.size w4 W) => (HK4.out.next hW).cell 5
    have y6 := fun W (hW : Below w4.heap.size w4 W) => (HK4.out.next hW).cell 6
    have q0 := fun W (hW : Below w4.heap.size w4 W) => (HQ4.out.next hW).cell 0
    have p0 := fun W (hW : Below w4.heap.size w4 W) => (HP4.out.next hW).cell 0
    have q1 := fun W (hW : Below w4.heap.size w4 W) => (HQ4.out.next hW).cell 1
    have p1 := fun W (hW : Below w4.heap.size w4 W) => (HP4.out.next hW).cell 1
    clear qr ql qp qo qg qs qm
    go_upto_region 9 with fail
    have hS0 : Below w4.heap.size w4 w4.drew := (Below.refl _ _).drew
    have hS1 : Below w4.heap.size w4 w4 := Below.refl _ _
    go_region_held3 (fun W => Below w4.heap.size w4 W) (first | with_reducible assumption | exact hS0)
      (first
      | (go_at_call 14; refine (F1 _).mono ?_; rintro e v1 ⟨rfl, hb⟩; have hv1 := below_next (by with_reducible assumption : Below w4.heap.size w4 _) hb; clear hb)
      | (go_at_call 15; refine (F2 _).mono ?_; rintro e v2 ⟨rfl, hb⟩; have hv2 := below_next (by with_reducible assumption : Below w4.heap.size w4 _) hb; clear hb)
      | (go_at_call 17; refine (S1 _ (by with_reducible assumption)).mono ?_; rintro e v3 ⟨A3', c3', rfl, hr3, hb3⟩; have hv3 := below_next (by with_reducible assumption : Below w4.heap.size w4 _) hb3)
      | (go_at_call 18; refine (S2 _ (by with_reducible assumption)).mono ?_; rintro e v4 ⟨A4', c4', rfl, hr4, _, hb4⟩; have hv4 := below_next (by with_reducible assumption : Below w4.heap.size w4 _) hb4)
      | (go_at_call 11; refine (A1 _ (by with_reducible assumption)).mono ?_; rintro e v5 ⟨A5', c5', rfl, hr5, hb5⟩; have hv5 := below_next (by with_reducible assumption : Below w4.heap.size w4 _) hb5)
      | (go_at_call 19; refine (A2 _ (by with_reducible assumption)).mono ?_; rintro e v6 ⟨A6', c6', rfl, hr6, _, hb6⟩; have hv6 := below_next (by with_reducible assumption : Below w4.heap.size w4 _) hb6)
      | (go_at_call 10; refine (N1 _ (by with_reducible assumption)).mono ?_; rintro e v7 ⟨A7', c7', rfl, hr7, hb7⟩; have hv7 := below_next (by with_reducible assumption : Below w4.heap.size w4 _) hb7)
      | (go_at_call 20; refine (N2 _ (by with_reducible assumption)).mono ?_; rintro e v8 ⟨A8', c8', rfl, hr8, _, hb8⟩; have hv8 := below_next (by with_reducible assumption : Below w4.heap.size w4 _) hb8)
      | (go_at_call 13; refine (K1 _ (by with_reducible assumption)).mono ?_; rintro e v9 ⟨rfl, hb⟩; have hv9 := below_next (by with_reducible assumption : Below w4.heap.size w4 _) hb; clear hb)
      | (go_at_call 21; refine (K2 _ (by with_reducible assumption)).mono ?_; rintro e v10 ⟨rfl, hb⟩; have hv10 := below_next (by with_reducible assumption : Below w4.heap.size w4 _) hb; clear hb)
      | (go_at_call 16; (with_reducible refine (S3 _ _ _ _ _ (by first | exact hr3 | exact hr3.next hb4) (by first | exact hr4 | exact hr4.next hb3)).mono ?_); rintro e v11 ⟨rfl, hb⟩; have hv11 := below_next (by with_reducible assumption : Below w4.heap.size w4 _) hb; clear hb hr3 hr4 hb3 hb4)
      | (go_at_call 16; (with_reducible refine (A3 _ _ _ _ _ (by first | exact hr5 | exact hr5.next hb6) (by first | exact hr6 | exact hr6.next hb5)).mono ?_); rintro e v12 ⟨rfl, hb⟩; have hv12 := below_next (by with_reducible assumption : Below w4.heap.size w4 _) hb; clear hb hr5 hr6 hb5 hb6)
      | (go_at_call 16; (with_reducible refine (N3 _ _ _ _ _ (by first | exact hr7 | exact hr7.next hb8) (by first | exact hr8 | exact hr8.next hb7)).mono ?_); rintro e v13 ⟨rfl, hb⟩; have hv13 := below_next (by with_reducible assumption : Below w4.heap.size w4 _) hb; clear hb hr7 hr8 hb7 hb8))
    all_goals
      go_wp2
      go_ret
      first | exact ⟨rfl, HB4.out.trans (hv9.mono HB4.out.size)⟩ | exact ⟨rfl, HB4.out.trans (hv10.mono HB4.out.size)⟩
end Go.Proofs.YtgicmgljllaliaaGreatDoor

