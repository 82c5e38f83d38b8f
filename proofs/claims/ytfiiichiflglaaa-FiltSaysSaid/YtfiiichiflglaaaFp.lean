/- The document's Addrs, PutAddr, kept, SameKeys; over the seat's program; and plain: an address put into addresses that rise. -/
import Derived.Test.YtfiiichiflglaaaFiltKeys
import Derived.Test.YtfiiichiflglaaaApI
import Derived.Deep.DeepAppendRoom
import Derived.Lib.SliceRun
namespace Go.Proofs.Ytfiiichiflglaaa
open Go.ChangeShapes Go.WideShapes Go.ChangeAt Go.RowKit Sm Go.Maps
/-! plain -/
def putI (xs : List Int) (a : Int) : Nat := (xs.takeWhile (fun x => decide (x < a))).length
def putP (xs : List Int) (a : Int) : List Int := if xs[putI xs a]? = some a then xs else xs.take (putI xs a) ++ [a] ++ xs.drop (putI xs a)
theorem putI_at {xs : List Int} {a : Int} : ∀ {k : Nat}, (∀ j, j < k → ∃ x, xs[j]? = some x ∧ x < a) → (∀ x, xs[k]? = some x → ¬ x < a) → putI xs a = k := by
  unfold putI
  induction xs with
  | nil =>
    intro k h1 _
    rcases Nat.eq_zero_or_pos k with h | h
    · subst h; rfl
    · obtain ⟨x, hx, _⟩ := h1 0 h
      simp at hx
  | cons y xs ih =>
    intro k h1 h2
    cases k with
    | zero =>
      have := h2 y rfl
      rw [List.takeWhile_cons, if_neg (by simpa using this)]
      rfl
    | succ k =>
      obtain ⟨x, hx, hlt⟩ := h1 0 (Nat.succ_pos _)
      simp at hx
      subst hx
      rw [List.takeWhile_cons, if_pos (by simpa using hlt), List.length_cons, ih (k := k) (fun j hj => by simpa using h1 (j + 1) (by omega)) (fun x hx => h2 x (by simpa using hx))]
theorem putI_le (xs : List Int) (a : Int) : putI xs a ≤ xs.length := by
  unfold putI
  exact (List.takeWhile_sublist _).length_le
theorem put_mem {xs : List Int} {a b : Int} : b ∈ putP xs a ↔ b ∈ xs ∨ b = a := by
  unfold putP
  split
  · rename_i h
    constructor
    · exact .inl
    · rintro (hb | rfl)
      · exact hb
      · exact List.mem_of_getElem? h
  · constructor
    · intro hb
      rw [List.mem_append, List.mem_append] at hb
      rcases hb with (hb | hb) | hb
      · exact .inl (List.mem_of_mem_take hb)
      · exact .inr (by simpa using hb)
      · exact .inl (List.mem_of_mem_drop hb)
    · rintro (hb | rfl)
      · rw [← List.take_append_drop (putI xs a) xs] at hb
        rcases List.mem_append.1 hb with hb | hb
        · exact List.mem_append_left _ (List.mem_append_left _ hb)
        · exact List.mem_append_right _ hb
      · exact List.mem_append_left _ (List.mem_append_right _ (by simp))
theorem put_len (xs : List Int) (a : Int) : (putP xs a).length ≤ xs.length + 1 := by
  unfold putP
  have := putI_le xs a
  split
  · omega
  · simp
    omega
theorem takeWhile_all {p : Int → Bool} : ∀ {xs : List Int} {x : Int}, x ∈ xs.take (xs.takeWhile p).length → p x = true
  | [], x, h => by simp at h
  | y :: xs, x, h => by
    rw [List.takeWhile_cons] at h
    by_cases hy : p y = true
    · rw [if_pos hy, List.length_cons, List.take_succ_cons, List.mem_cons] at h
      rcases h with rfl | h
      · exact hy
      · exact takeWhile_all h
    · rw [if_neg hy] at h
      simp at h
theorem takeWhile_next {p : Int → Bool} : ∀ {xs : List Int} {x : Int}, xs[(xs.takeWhile p).length]? = some x → p x = false
  | [], x, h => by simp at h
  | y :: xs, x, h => by
    rw [List.takeWhile_cons] at h
    by_cases hy : p y = true
    · rw [if_pos hy, List.length_cons, List.getElem?_cons_succ] at h
      exact takeWhile_next h
    · rw [if_neg hy] at h
      simp at h
      subst h
      simpa using hy
theorem put_lt {xs : List Int} {a : Int} (h : xs.Pairwise (· < ·)) : (putP xs a).Pairwise (· < ·) := by
  unfold putP
  split
  · exact h
  · rename_i hne
    have h1 : ∀ x ∈ xs.take (putI xs a), x < a := fun x hx => by simpa using takeWhile_all hx
    have h2 : ∀ x ∈ xs.drop (putI xs a), a < x := by
      intro x hx
      have hlen := putI_le xs a
      obtain ⟨j, hj, rfl⟩ := List.mem_iff_getElem.1 hx
      rw [List.length_drop] at hj
      have h0 : xs[putI xs a]? = some (xs[putI xs a]'(by omega)) := List.getElem?_eq_getElem _
      have h3 := takeWhile_next h0
      simp at h3
      have h4 : xs[putI xs a]'(by omega) ≠ a := fun e => hne (by rw [h0, e])
      rw [List.getElem_drop]
      rcases Nat.eq_zero_or_pos j with hz | hz
      · subst hz
        simp only [Nat.add_zero]
        omega
      · have := List.pairwise_iff_getElem.1 h (putI xs a) (putI xs a + j) (by omega) (by omega) (by omega)
        omega
    rw [List.pairwise_append]
    refine ⟨?_, h.sublist (List.drop_sublist _ _), ?_⟩
    · rw [List.pairwise_append]
      refine ⟨h.sublist (List.take_sublist _ _), List.pairwise_singleton _ _, fun x hx y hy => ?_⟩
      simp at hy
      subst hy
      exact h1 x hx
    · intro x hx y hy
      rcases List.mem_append.1 hx with hx | hx
      · have := h1 x hx
        have := h2 y hy
        omega
      · simp at hx
        subst hx
        exact h2 y hy
def keptP (ms : List Mb) (a : Int) : Bool := ms.all (fun m => m.xs.contains a != m.o)
theorem kept_take {ms : List Mb} {k : Nat} {m : Mb} {a : Int} (h : ms[k]? = some m) : keptP (ms.take (k + 1)) a = (keptP (ms.take k) a && (m.xs.contains a != m.o)) := by
  unfold keptP
  rw [List.take_add_one, h, List.all_append]
  simp
theorem kept_not {ms : List Mb} {k : Nat} {m : Mb} {a : Int} (h : ms[k]? = some m) (he : (m.xs.contains a == m.o) = true) : keptP ms a = false := by
  unfold keptP
  rw [List.all_eq_false]
  refine ⟨m, List.mem_of_getElem? h, ?_⟩
  rw [beq_iff_eq.1 he]
  simp
/-! the document's -/
set_option maxHeartbeats 2000000 in
theorem raddrs_any (A : Option Addr) (n c : Nat) (xs : List Int) (w : World) (h : AR w A n xs) (hn : n ≤ 1000000) :
    Calls Try.prog 38 #[.slice A n c] w fun e w' => ∃ v, e = .returned v ∧ w'.ownsRow w.heap.size 27 1 v n (A32 xs) ∧ Below w.heap.size w w' := by
  obtain ⟨i0, hi, hz0, hz1, hz2⟩ := infoA'
  have hl := h.len
  have H := Lib.hid h
  clear h
  go_enter Try.func38, Try.ntmps38
  go_wp2_with (at_make; refine wpList_make_own _ rfl _ _ 23 rfl w.heap.size 27 i0 (.int .u32 0) 1 Try.underlying23 hi hz0 hz1 .i64 .i64 _ n rfl rfl rfl (by rw [hz2]; omega) (by unfold maxLen; omega) (Nat.le_refl _) ?_; intro w0 hown0 hgrow0)
  have HB0 := Lib.hid ((Below.refl _ _).grown hgrow0 (Nat.le_refl _) (by intro k hk; cases hk))
  have HO0 : Hid (w0.ownsRow w.heap.size 27 1 (.slice (some ⟨w.heap.size, 0, none⟩) 0 n) 0 (A32 (xs.take 0))) := Lib.hid (by simpa [A32] using hown0)
  clear hown0 hgrow0
  go_loopw [3, 4] (fun v iv wr => ∃ k : Nat, k ≤ n ∧ iv = .int .i64 (k : Int) ∧ Hid (wr.ownsRow w.heap.size 27 1 v k (A32 (xs.take k))) ∧ Hid (Below w.heap.size w wr)) (fun _ iv _ => n - (intOf iv).toNat)
  case atStart => exact ⟨0, Nat.zero_le _, rfl, HO0, HB0⟩
  case round =>
    obtain ⟨k, hk, rfl, HO, HB⟩ := hrel
    generalize u3 = v3 at *
    rcases Nat.lt_or_ge k n with hlt | hge
    · obtain ⟨b, o, rfl, hb, hx⟩ := (H.out.next HB.out).at_ hlt
      have hgk : xs[k]? = some (xs.getD k 0) := by rw [List.getD_eq_getElem?_getD, List.getElem?_eq_getElem (by omega)]; rfl
      have hia : isA (xs.getD k 0) := H.out.isAs _ (List.mem_of_getElem? hgk)
      have HT : Hid (xs.take k ++ [xs.getD k 0] = xs.take (k + 1)) := Lib.hid (by rw [List.take_add_one, hgk]; rfl)
      generalize xs.getD k 0 = u at *
      have hi0 : (k : Int) < (n : Int) := by omega
      have HO1 := Lib.hid (HO.out.alloc (.cells #[.int .u32 u] 27))
      have HB1 := Lib.hid (HB.out.alloc HB.out.size (.cells #[.int .u32 u] 27))
      clear HO hgk hb
      go_wp2_with (at_builtin; refine wpList_appA rfl _ _ rfl w.heap.size v3 k (xs.take k) rfl HO1.out _ 1 1 [u] rfl (ar_lit (Blk.new wr _ _) hia) (by omega) (by decide) HB1.out.size ?_; intro v6 w6 hown6 hb6)
      have HO6 : Hid (w6.ownsRow w.heap.size 27 1 v6 (k + 1) (A32 (xs.take (k + 1)))) := Lib.hid (by rw [← HT.out]; exact hown6)
      have HB6 := Lib.hid (HB1.out.trans hb6)
      clear hown6 hb6 HO1 HB1 HB hx
      go_wp2
      go_roundw
      case rel => exact ⟨k + 1, by omega, by go_num, HO6, HB6⟩
      case measure => simp [intOf]; omega
    · obtain rfl : k = n := by omega
      have q1 : ¬ (k : Int) < (k : Int) := by omega
      rw [List.take_of_length_le (by omega)] at HO
      go_wp2
      go_ret
      exact ⟨v3, rfl, HO.out, HB.out⟩
theorem ar_take {W : World} {A : Option Addr} {n k : Nat} {xs : List Int} (h : AR W A n xs) (hk : k ≤ n) : AR W A k (xs.take k) := by
  refine ⟨by rw [List.length_take, h.len]; omega, fun x hx => h.isAs x (List.mem_of_mem_take hx), fun hp => ?_⟩
  obtain ⟨b, o, e, hl, hc⟩ := h.2.2 (by omega)
  refine ⟨b, o, e, hl, fun i hi => ?_⟩
  rw [hc i (by omega), List.getD_eq_getElem?_getD, List.getD_eq_getElem?_getD, List.getElem?_take, if_pos hi]
theorem ar_drop {W : World} {A B : Option Addr} {n k : Nat} {xs : List Int} (h : AR W A n xs) (hk : k ≤ n) (hB : k < n → B = A.map (·.add (k * 1))) : AR W B (n - k) (xs.drop k) := by
  refine ⟨by rw [List.length_drop, h.len], fun x hx => h.isAs x (List.mem_of_mem_drop hx), fun hp => ?_⟩
  obtain ⟨b, o, rfl, hl, hc⟩ := h.2.2 (by omega)
  refine ⟨b, o + k, by rw [hB (by omega), Option.map_some, add_plain, Nat.mul_one], hl, fun i hi => ?_⟩
  have := hc (k + i) (by omega)
  rw [show o + k + i = o + (k + i) by omega, this, List.getD_eq_getElem?_getD, List.getD_eq_getElem?_getD, List.getElem?_drop]
theorem putP_new {xs : List Int} {a : Int} {k : Nat} (hk : putI xs a = k) (hn : ∀ x, xs[k]? = some x → x ≠ a) : putP xs a = xs.take k ++ [a] ++ xs.drop k := by
  unfold putP
  rw [hk, if_neg]
  intro h
  exact hn a h rfl
set_option maxRecDepth 100000 in
set_option maxHeartbeats 4000000 in
theorem put_any (A : Option Addr) (n c : Nat) (xs : List Int) (a : Int) (w : World) (h : AR w A n xs) (hn : n ≤ 1000000) (hc : n ≤ c) (ha : isA a) :
    Calls Try.prog 27 #[.slice A n c, .int .u32 a] w fun e w' => ∃ (A' : Option Addr) (c' : Nat), e = .returned (.slice A' (putP xs a).length c') ∧ AR w' A' (putP xs a).length (putP xs a) ∧ (putP xs a).length ≤ c' ∧ Below w.heap.size w w' := by
  have hl := h.len
  obtain ⟨P, hP⟩ : ∃ P, putP xs a = P := ⟨_, rfl⟩
  rw [hP]
  have HP := Lib.hid hP
  clear hP
  have H := Lib.hid h
  have HI := Lib.hid ha
  clear h
  go_enter Try.func27, Try.ntmps27
  go_wp2_with fail
  go_loopw [5] (fun iv wr => ∃ k : Nat, k ≤ n ∧ iv = .int .i64 (k : Int) ∧ Hid (∀ j, j < k → ∃ x, xs[j]? = some x ∧ x < a) ∧ w = wr) (fun iv _ => n - (intOf iv).toNat)
  case atStart => exact ⟨0, Nat.zero_le _, rfl, Lib.hid (fun j h => absurd h (Nat.not_lt_zero _)), rfl⟩
  case round =>
    obtain ⟨k, hk, rfl, HJ, rfl⟩ := hrel
    rcases Nat.lt_or_ge k n with hlt | hge
    · obtain ⟨b, o, rfl, hb, hx⟩ := H.out.at_ hlt
      have hgk : xs[k]? = some (xs.getD k 0) := by rw [List.getD_eq_getElem?_getD, List.getElem?_eq_getElem (by omega)]; rfl
      generalize xs.getD k 0 = x at *
      have hi0 : (k : Int) < (n : Int) := by omega
      have hi1 : (0 : Int) ≤ (k : Int) := by omega
      cases hd : decide (x < a) with
      | true =>
        have HJ2 : Hid (∀ j, j < k + 1 → ∃ x, xs[j]? = some x ∧ x < a) := Lib.hid (fun j hj => by
          rcases Nat.lt_or_ge j k with h | h
          · exact HJ.out j h
          · obtain rfl : j = k := by omega
            exact ⟨x, hgk, by simpa using hd⟩)
        clear HJ hgk hb
        go_wp2
        go_roundw
        case rel => exact ⟨k + 1, by omega, by go_num, HJ2, trivial⟩
        case measure => simp [intOf]; omega
      | false =>
        have hK : putI xs a = k := putI_at HJ.out (fun y hy => by rw [hgk] at hy; cases hy; simpa using hd)
        cases he : (x == a) with
        | true =>
          have hput : P = xs := by
            rw [← HP.out]
            unfold putP
            rw [hK, hgk, if_pos (by rw [beq_iff_eq.1 he])]
          clear hgk HJ
          go_wp2
          go_ret
          rw [hput, hl]
          first | exact ⟨some ⟨b, o, none⟩, ⟨c, rfl⟩, H.out, hc, Below.refl _ _⟩ | exact ⟨some ⟨b, o, none⟩, c, rfl, H.out, hc, Below.refl _ _⟩
        | false =>
          have hput : P = xs.take k ++ [a] ++ xs.drop k := HP.out.symm.trans (putP_new hK (fun y hy => by rw [hgk] at hy; cases hy; intro e; rw [e] at he; simp at he))
          have HPT := Lib.hid hput
          have hne : ¬ c = k := by omega
          have hk1 : (k : Int) ≤ (c : Int) := by omega
          have hk2 : (n : Int) ≤ (c : Int) := by omega
          have hk3 : (k : Int) ≤ (n : Int) := by omega
          have hk4 : k ≤ c := by omega
          have HRA := Lib.hid (raddrs_any (some ⟨b, o, none⟩) k c (xs.take k) w (ar_take H.out hk) (by omega))
          clear hgk HJ hput hK
          go_upto_region 7 with (first
            | (go_at_call 38; (with_reducible refine HRA.out.mono ?_); rintro e w1 ⟨v1, rfl, hown1, hb1⟩)
            | (at_builtin; refine wpList_appA rfl _ _ rfl w.heap.size v1 k (xs.take k) rfl (hown1.alloc _) _ 1 1 [a] rfl (ar_lit (Blk.new w1 _ _) HI.out) (by omega) (by decide) (hb1.alloc hb1.size _).size ?_; intro v2 w2 hown2 hb2))
          have HB2 := Lib.hid ((hb1.alloc hb1.size _).trans hb2)
          have HO2 := Lib.hid hown2
          clear hown1 hown2 hb1 hb2
          go_wp2_with (at_builtin; refine wpList_appA rfl _ _ rfl w.heap.size v2 (k + 1) (xs.take k ++ [a]) rfl HO2.out _ _ _ (xs.drop k) rfl (ar_drop (H.out.next HB2.out) hk (fun h => by first | rfl | omega | rw [Option.map_some, add_plain, Nat.mul_one])) (by omega) (by omega) HB2.out.size ?_; intro v3 w3 hown3 hb3)
          rw [← HPT.out] at hown3
          rw [show k + 1 + (n - k) = P.length by rw [HPT.out]; simp; omega] at hown3
          obtain ⟨A9, c9, e9, hc9, har9, _⟩ := own_forma hown3 (fun y hy => by
            rw [HPT.out, List.mem_append, List.mem_append] at hy
            rcases hy with (hy | hy) | hy
            · exact H.out.isAs y (List.mem_of_mem_take hy)
            · simp at hy; subst hy; exact HI.out
            · exact H.out.isAs y (List.mem_of_mem_drop hy))
          subst e9
          go_ret
          have hb9 := HB2.out.trans hb3
          first | exact ⟨A9, ⟨c9, rfl⟩, har9, hc9, hb9⟩ | exact ⟨A9, c9, rfl, har9, hc9, hb9⟩
    · obtain rfl : k = n := by omega
      have hi0 : ¬ (k : Int) < (k : Int) := by omega
      have hK : putI xs a = k := putI_at HJ.out (fun y hy => by have := (List.getElem?_eq_some_iff.1 hy).1; omega)
      have hput : P = xs.take k ++ [a] ++ [] := by
        have := HP.out.symm.trans (putP_new hK (fun y hy => by have := (List.getElem?_eq_some_iff.1 hy).1; omega))
        rw [List.drop_of_length_le (by omega)] at this
        exact this
      have HPT := Lib.hid hput
      have hk1 : (k : Int) ≤ (c : Int) := by omega
      have hk2 : (0 : Int) ≤ (k : Int) := by omega
      have HRA := Lib.hid (raddrs_any A k c (xs.take k) w (ar_take H.out (Nat.le_refl _)) (by omega))
      clear HJ hput hK
      by_cases hne : c = k
      · have hcn := hne.symm
        subst hcn
        go_upto_region 7 with (first
          | (go_at_call 38; (with_reducible refine HRA.out.mono ?_); rintro e w1 ⟨v1, rfl, hown1, hb1⟩)
          | (at_builtin; refine wpList_appA rfl _ _ rfl w.heap.size v1 k (xs.take k) rfl (hown1.alloc _) _ 1 1 [a] rfl (ar_lit (Blk.new w1 _ _) HI.out) (by omega) (by decide) (hb1.alloc hb1.size _).size ?_; intro v2 w2 hown2 hb2))
        have HB2 := Lib.hid ((hb1.alloc hb1.size _).trans hb2)
        have HO2 := Lib.hid hown2
        clear hown1 hown2 hb1 hb2
        go_wp2_with (at_builtin; refine wpList_appA rfl _ _ rfl w.heap.size v2 (k + 1) (xs.take k ++ [a]) rfl HO2.out _ _ _ [] rfl (AR.none_ _ _) (by omega) (by decide) HB2.out.size ?_; intro v3 w3 hown3 hb3)
        rw [← HPT.out] at hown3
        rw [show k + 1 + 0 = P.length by rw [HPT.out]; simp; omega] at hown3
        obtain ⟨A9, c9, e9, hc9, har9, _⟩ := own_forma hown3 (fun y hy => by
          rw [HPT.out, List.mem_append, List.mem_append] at hy
          rcases hy with (hy | hy) | hy
          · exact H.out.isAs y (List.mem_of_mem_take hy)
          · simp at hy; subst hy; exact HI.out
          · cases hy)
        subst e9
        go_ret
        have hb9 := HB2.out.trans hb3
        first | exact ⟨A9, ⟨c9, rfl⟩, har9, hc9, hb9⟩ | exact ⟨A9, c9, rfl, har9, hc9, hb9⟩
      · skip
        go_upto_region 7 with (first
          | (go_at_call 38; (with_reducible refine HRA.out.mono ?_); rintro e w1 ⟨v1, rfl, hown1, hb1⟩)
          | (at_builtin; refine wpList_appA rfl _ _ rfl w.heap.size v1 k (xs.take k) rfl (hown1.alloc _) _ 1 1 [a] rfl (ar_lit (Blk.new w1 _ _) HI.out) (by omega) (by decide) (hb1.alloc hb1.size _).size ?_; intro v2 w2 hown2 hb2))
        have HB2 := Lib.hid ((hb1.alloc hb1.size _).trans hb2)
        have HO2 := Lib.hid hown2
        clear hown1 hown2 hb1 hb2
        go_wp2_with (at_builtin; refine wpList_appA rfl _ _ rfl w.heap.size v2 (k + 1) (xs.take k ++ [a]) rfl HO2.out _ _ _ [] rfl (AR.none_ _ _) (by omega) (by decide) HB2.out.size ?_; intro v3 w3 hown3 hb3)
        rw [← HPT.out] at hown3
        rw [show k + 1 + 0 = P.length by rw [HPT.out]; simp; omega] at hown3
        obtain ⟨A9, c9, e9, hc9, har9, _⟩ := own_forma hown3 (fun y hy => by
          rw [HPT.out, List.mem_append, List.mem_append] at hy
          rcases hy with (hy | hy) | hy
          · exact H.out.isAs y (List.mem_of_mem_take hy)
          · simp at hy; subst hy; exact HI.out
          · cases hy)
        subst e9
        go_ret
        have hb9 := HB2.out.trans hb3
        first | exact ⟨A9, ⟨c9, rfl⟩, har9, hc9, hb9⟩ | exact ⟨A9, c9, rfl, har9, hc9, hb9⟩
end Go.Proofs.Ytfiiichiflglaaa

