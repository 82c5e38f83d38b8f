/- Small functions on addresses: the document's Has and SameAddrs, slices.Contains and Equal; filt.Of, Lets, Admits, Same; the document's like; over the seat's program. -/
import Derived.Test.YtfiiichiflglaaaRf
import Derived.Test.YtfiiichiflglaaaQb
namespace Go.Proofs.Ytfiiichiflglaaa
open Go.RowKit Sm Go.Maps
theorem sameA_any (A B : Option Addr) (n m c d : Nat) (xs ys : List Int) (w : World) (h : AR w A n xs) (g : AR w B m ys) (hn : n ≤ 1048576) (hm : m ≤ 1048576) :
    Calls Try.prog 12 #[.slice A n c, .slice B m d] w fun e w' => e = .returned (.bool (decide (xs = ys))) ∧ Below w.heap.size w w' := by
  have hl := h.len
  have gl := g.len
  by_cases he : n = m
  · subst he
    have hne : ((n : Int) != (n : Int)) = false := by simp
    go_enter Try.func12, Try.ntmps12
    go_wp2_with fail
    go_loopw [5] (fun i wr => ∃ k : Nat, k ≤ n ∧ i = .int .i64 k ∧ Below w.heap.size w wr ∧ xs.take k = ys.take k) (fun i _ => n - (intOf i).toNat)
    case atStart => exact ⟨0, Nat.zero_le _, rfl, Below.refl _ _, rfl⟩
    case round =>
      obtain ⟨k, hk, rfl, hbw, hs⟩ := hrel
      rcases Nat.lt_or_ge k n with hlt | hge
      · obtain ⟨b, o, rfl, _, hc0⟩ := (h.next hbw).at_ hlt
        obtain ⟨b', o', rfl, _, hc1⟩ := (g.next hbw).at_ hlt
        have HT := Lib.hid (take_succ_getD xs k (by omega))
        have GT := Lib.hid (take_succ_getD ys k (by omega))
        have hi0 : (k : Int) < n := by omega
        have HB := Lib.hid hbw
        have HS := Lib.hid hs
        by_cases hv : xs.getD k 0 = ys.getD k 0
        · have hve : (xs.getD k 0 == ys.getD k 0) = true := by simpa using hv
          have HV := Lib.hid hv
          clear hbw hs hv
          generalize xs.getD k 0 = u at *
          generalize ys.getD k 0 = v at *
          go_wp2_with fail
          go_quiet (fail)
          go_wp2
          go_roundw
          case rel => exact ⟨k + 1, by omega, by go_num, below_drewN HB.out _, by rw [HT.out, GT.out, HS.out, HV.out]⟩
          case measure => simp [intOf]; omega
        · have hve : (xs.getD k 0 == ys.getD k 0) = false := by simpa using hv
          have HV := Lib.hid (show decide (xs = ys) = false by
            rw [decide_eq_false_iff_not]; rintro rfl; exact hv rfl)
          clear hbw hs hv
          generalize xs.getD k 0 = u at *
          generalize ys.getD k 0 = v at *
          go_wp2_with fail
          go_quiet (fail)
          go_wp2
          go_ret
          exact ⟨ret_bool HV.out.symm, below_drewN HB.out _⟩
      · obtain rfl : k = n := by omega
        rw [List.take_of_length_le (by omega), List.take_of_length_le (by omega)] at hs
        go_wp2
        go_ret
        exact ⟨ret_bool (by simp [hs]), hbw⟩
  · have hne : ((n : Int) != (m : Int)) = true := by simp; omega
    go_enter Try.func12, Try.ntmps12
    go_wp2
    go_ret
    exact ⟨ret_bool (by rw [eq_comm, decide_eq_false_iff_not]; rintro rfl; omega), Below.refl _ _⟩
theorem equalA_any (A B : Option Addr) (n m c d : Nat) (xs ys : List Int) (w : World) (h : AR w A n xs) (g : AR w B m ys) (hn : n ≤ 1048576) (hm : m ≤ 1048576) :
    Calls Try.prog 30 #[.slice A n c, .slice B m d] w fun e w' => e = .returned (.bool (decide (xs = ys))) ∧ Below w.heap.size w w' := by
  have hl := h.len
  have gl := g.len
  by_cases he : n = m
  · subst he
    have hne : ((n : Int) != (n : Int)) = false := by simp
    go_enter Try.func30, Try.ntmps30
    go_wp2_with fail
    go_loopw [13] (fun i wr => ∃ k : Nat, k ≤ n ∧ i = .int .i64 k ∧ Below w.heap.size w wr ∧ xs.take k = ys.take k) (fun i _ => n - (intOf i).toNat)
    case atStart => exact ⟨0, Nat.zero_le _, rfl, Below.refl _ _, rfl⟩
    case round =>
      obtain ⟨k, hk, rfl, hbw, hs⟩ := hrel
      rcases Nat.lt_or_ge k n with hlt | hge
      · obtain ⟨b, o, rfl, _, hc0⟩ := (h.next hbw).at_ hlt
        obtain ⟨b', o', rfl, _, hc1⟩ := (g.next hbw).at_ hlt
        have HT := Lib.hid (take_succ_getD xs k (by omega))
        have GT := Lib.hid (take_succ_getD ys k (by omega))
        have hi0 : (k : Int) < n := by omega
        have HB := Lib.hid hbw
        have HS := Lib.hid hs
        by_cases hv : xs.getD k 0 = ys.getD k 0
        · have hve : (xs.getD k 0 != ys.getD k 0) = false := by simpa using hv
          have HV := Lib.hid hv
          clear hbw hs hv
          generalize xs.getD k 0 = u at *
          generalize ys.getD k 0 = v at *
          go_wp2_with fail
          go_quiet (fail)
          go_wp2
          go_roundw
          case rel => exact ⟨k + 1, by omega, by go_num, below_drewN HB.out _, by rw [HT.out, GT.out, HS.out, HV.out]⟩
          case measure => simp [intOf]; omega
        · have hve : (xs.getD k 0 != ys.getD k 0) = true := by simpa using hv
          have HV := Lib.hid (show decide (xs = ys) = false by
            rw [decide_eq_false_iff_not]; rintro rfl; exact hv rfl)
          clear hbw hs hv
          generalize xs.getD k 0 = u at *
          generalize ys.getD k 0 = v at *
          go_wp2_with fail
          go_quiet (fail)
          go_wp2
          go_ret
          exact ⟨ret_bool HV.out.symm, below_drewN HB.out _⟩
      · obtain rfl : k = n := by omega
        rw [List.take_of_length_le (by omega), List.take_of_length_le (by omega)] at hs
        go_wp2
        go_ret
        exact ⟨ret_bool (by simp [hs]), hbw⟩
  · have hne : ((n : Int) != (m : Int)) = true := by simp; omega
    go_enter Try.func30, Try.ntmps30
    go_wp2
    go_ret
    exact ⟨ret_bool (by rw [eq_comm, decide_eq_false_iff_not]; rintro rfl; omega), Below.refl _ _⟩
theorem conA_next {xs : List Int} {k : Nat} {a : Int} (h : k < xs.length) : (xs.take (k + 1)).contains a = ((xs.take k).contains a || (xs.getD k 0 == a)) := by
  have e : xs[k]? = some (xs.getD k 0) := by rw [List.getD_eq_getElem?_getD, List.getElem?_eq_getElem h]; rfl
  rw [List.take_add_one, e]
  generalize xs.getD k 0 = y
  simp only [Option.toList_some, List.contains_append, List.contains_cons, List.contains_nil, Bool.or_false]
  congr 1
  rw [Bool.eq_iff_iff]; simp only [beq_iff_eq]; exact eq_comm
set_option maxHeartbeats 2000000 in
theorem hasA_any (A : Option Addr) (n c : Nat) (xs : List Int) (a : Int) (w : World) (h : AR w A n xs) (hn : n ≤ 1000000) :
    Calls Try.prog 14 #[.slice A n c, .int .u32 a] w fun e w' => e = .returned (.bool (xs.contains a)) ∧ Below w.heap.size w w' := by
  have HR := Lib.hid h
  have HL := Lib.hid h.len
  clear h
  go_enter Try.func14, Try.ntmps14
  go_wp2_with fail
  go_loopw [5] (fun iv wr => ∃ k : Nat, k ≤ n ∧ iv = .int .i64 k ∧ Hid ((xs.take k).contains a = false) ∧ Hid (Below w.heap.size w wr)) (fun iv _ => n - (intOf iv).toNat)
  case atStart => exact ⟨0, by omega, rfl, Lib.hid (by simp), Lib.hid (Below.refl _ _)⟩
  case round =>
    obtain ⟨k, hk, rfl, HN, HB⟩ := hrel
    rcases Nat.lt_or_ge k n with hlt | hge
    · obtain ⟨b, o, rfl, _, hc⟩ := (HR.out.next HB.out).at_ hlt
      have HX := Lib.hid (conA_next (a := a) (xs := xs) (k := k) (by rw [HL.out]; exact hlt))
      have l1 : (k : Int) < (n : Int) := by omega
      have l2 : (0 : Int) ≤ (k : Int) := by omega
      have HG := Lib.hid (show (xs.getD k 0 == a) = true → xs.contains a = true from fun e => by
        rw [List.contains_iff_mem, ← beq_iff_eq.1 e, List.getD_eq_getElem?_getD, List.getElem?_eq_getElem (by rw [HL.out]; exact hlt)]
        exact List.getElem_mem _)
      generalize xs.getD k 0 = y at *
      cases he : (y == a) with
      | true =>
        have HR2 := Lib.hid (HG.out he)
        go_wp2
        first | go_ret2 | go_ret
        exact ⟨by rw [HR2.out]; rfl, HB.out⟩
      | false =>
        have HN2 : Hid ((xs.take (k + 1)).contains a = false) := Lib.hid (by rw [HX.out, HN.out, he]; rfl)
        go_wp2
        go_roundw
        case rel => exact ⟨k + 1, by omega, by go_num, HN2, HB⟩
        case measure => simp [intOf]; omega
    · obtain rfl : n = k := by omega
      have hd : decide ((n : Int) < (n : Int)) = false := by simp
      have HR2 : Hid (xs.contains a = false) := Lib.hid (by have := HN.out; rw [List.take_of_length_le (by rw [HL.out]; exact Nat.le_refl _)] at this; exact this)
      go_wp2
      first | go_ret2 | go_ret
      exact ⟨by rw [HR2.out]; rfl, HB.out⟩

theorem contains_any (A : Option Addr) (n c : Nat) (xs : List Int) (a : Int) (w : World) (h : AR w A n xs) (hn : n ≤ 1000000) :
    Calls Try.prog 28 #[.slice A n c, .int .u32 a] w fun e w' => e = .returned (.bool (xs.contains a)) ∧ w' = w := by
  rcases Nat.eq_zero_or_pos n with rfl | hp
  · obtain rfl : xs = [] := List.eq_nil_of_length_eq_zero h.len
    exact AnyE.slices_Contains_empty Try.containsA A c (.int .u32 a) w
  · obtain ⟨b, o, rfl, _, hc⟩ := h.2.2 hp
    have hl := h.len
    have := AnyE.slices_Contains Try.containsA (Value.int .u32) (fun x y => x == y) (EqlAt.int _ _ _) b o n c xs a w (by omega) (by omega) (fun j hj => by rw [hc j (by omega)]; simp [List.getD_eq_getElem?_getD, List.getElem?_eq_getElem hj])
    refine this.mono ?_
    rintro e w' ⟨rfl, rfl⟩
    refine ⟨?_, rfl⟩
    rw [List.take_of_length_le (by omega)]
    congr 2
    rw [Bool.eq_iff_iff, List.any_eq_true, List.contains_iff_mem]
    constructor
    · rintro ⟨y, hy, e⟩
      rw [beq_iff_eq.1 e]
      exact hy
    · intro hy
      exact ⟨a, hy, by simp⟩
/-! filt.Of -/
def anyM (ms : List Mb) : Bool := decide (0 < (but ms).length)
def ofL (ms : List Mb) : List Int := if 0 < (but ms).length then refL (but ms) (flat (onl ms)) else groupsL (flat (onl ms))
theorem flat_part (p : Mb → Bool) : ∀ ms : List Mb, (flat (ms.filter p)).length ≤ (flat ms).length
  | [] => Nat.le_refl _
  | m :: ms => by
    have ih := flat_part p ms
    unfold flat at *
    rw [List.filter_cons]
    split
    · simp only [List.flatMap_cons, List.length_append]; omega
    · simp only [List.flatMap_cons, List.length_append]; omega
theorem own_far {W : World} {b N i n : Nat} {t : TypeId} {v u : Value} {ys : List Value} (h : W.ownsRow b t 1 v n ys) (hN : N < b) : (W.setCell ⟨N, i, none⟩ u).ownsRow b t 1 v n ys :=
  h.kept (row := some N) ⟨rfl, rfl, rfl, by simp, fun k _ hne => Below.heap_setCell W ⟨N, i, none⟩ u k (fun e => hne (by rw [e]))⟩ (by
    cases hv : v.ownBlock with
    | none => exact .inl rfl
    | some g => exact .inr fun e => by cases e; have := (h.lt N hv).1; omega)
theorem ret_of (tm : Array Value) (N : Nat) (W : World) (v0 v1 : Value) (h2 : tm.getD 2 undef = .pointer (some ⟨N, 0, none⟩)) (c0 : W.cell? ⟨N, 0, none⟩ = some v0) (c1 : W.cell? ⟨N, 1, none⟩ = some v1) :
    (results Try.f10 tm).run Try.prog W = .ok (.agg #[v0, v1]) W := by
  have h2' : tm[2]?.getD undef = .pointer (some ⟨N, 0, none⟩) := by simpa using h2
  simp [results, Try.results10, go_sem, h2', c0, c1]
set_option maxHeartbeats 4000000 in
theorem of_any (A : Option Addr) (n c : Nat) (ms : List Mb) (w : World) (h : MR w A n ms) (hn : n ≤ 1000000) (hf : (flat ms).length ≤ 1000000) (hx : ∀ m ∈ ms, m.n ≤ 1000000) :
    Calls Try.prog 10 #[.slice A n c] w fun e w' => ∃ (A' : Option Addr) (c' : Nat), e = .returned (.agg #[.bool (anyM ms), .slice A' (ofL ms).length c']) ∧ w'.ownsRow w.heap.size 27 1 (.slice A' (ofL ms).length c') (ofL ms).length (A32 (ofL ms)) ∧ Below w.heap.size w w' := by
  have hb0 := (Below.refl w.heap.size w).alloc (Nat.le_refl _) (.cells #[.bool false, .slice none 0 0] 25)
  have hk0 := Blk.new w 25 #[.bool false, .slice none 0 0]
  have hm0 := h.next hb0
  have hU : ∀ a ∈ flat ms, isA a := fun a ha => by
    unfold flat at ha
    obtain ⟨m, hm, hg⟩ := List.mem_flatMap.1 ha
    exact (h.a m hm).isAs a hg
  have HF := Lib.hid (And.intro hf (And.intro hx hU))
  have HL : Hid ((onl ms).length ≤ 1000000 ∧ (but ms).length ≤ 1000000) := Lib.hid (by
    have h1 := List.length_filter_le (fun m : Mb => m.o) ms
    have h2 := List.length_filter_le (fun m : Mb => !m.o) ms
    have h3 := h.r.len
    unfold onl but
    exact ⟨by omega, by omega⟩)
  clear h hx hf hU
  go_enter Try.func10, Try.ntmps10
  go_upto_region 1 with fail
  generalize w.alloc (.cells #[.bool false, .slice none 0 0] 25) = W1 at *
  have HN : Hid (w.heap.size < W1.heap.size) := Lib.hid hk0.lt
  generalize hN : w.heap.size = N at *
  have HS := Lib.hid (split_any A n c ms W1 hm0 hn)
  have HB0 := Lib.hid hb0
  clear hm0 hb0
  go_upto_region 2 with (go_at_call 22; (with_reducible refine HS.out.mono ?_); rintro e w2 ⟨A1, A2, c1, c2, rfl, hm1, hm2, hb2⟩)
  have HC := Lib.hid (concat_any A1 (onl ms).length c1 (onl ms) w2 hm1 HL.out.1 (by unfold onl; exact Nat.le_trans (flat_part _ ms) HF.out.1))
  have HK2 := Lib.hid (hk0.next hb2)
  have HB2 := Lib.hid (HB0.out.trans (hb2.mono (Nat.le_of_lt HN.out)))
  have HN2 : Hid (N < w2.heap.size) := Lib.hid (Nat.lt_of_lt_of_le HN.out hb2.size)
  have HM2 := Lib.hid hm2
  clear hk0 hb2 hm1 hm2 HS HB0
  go_upto_region 3 with (go_at_call 23; (with_reducible refine HC.out.mono ?_); rintro e w3 ⟨A3, c3, rfl, hr3, hb3⟩)
  have HFo : Hid ((flat (onl ms)).length ≤ 1000000 ∧ IsAs (flat (onl ms))) := Lib.hid ⟨by unfold onl; exact Nat.le_trans (flat_part _ ms) HF.out.1, fun a ha => HF.out.2.2 a (by
    unfold flat onl at *
    obtain ⟨m, hm, hg⟩ := List.mem_flatMap.1 ha
    exact List.mem_flatMap.2 ⟨m, (List.mem_filter.1 hm).1, hg⟩)⟩
  obtain ⟨A4, c4, e4, _, har, _⟩ := own_forma hr3 HFo.out.2
  cases e4
  have HK3 := Lib.hid (HK2.out.next hb3)
  have HB3 := Lib.hid (HB2.out.trans (hb3.mono (Nat.le_of_lt HN2.out)))
  have HN3 : Hid (N < w3.heap.size) := Lib.hid (Nat.lt_of_lt_of_le HN2.out hb3.size)
  have HM3 := Lib.hid (HM2.out.next hb3)
  have HA3 := Lib.hid har
  clear hr3 hb3 har HC HK2 HB2 HM2
  rcases Nat.eq_zero_or_pos (but ms).length with hz | hz
  · have r1 : ((((but ms).length : Nat) : Int) == 0) = true := by rw [hz]; rfl
    have HR := Lib.hid (rising_any c3 (flat (onl ms)).length A3 (flat (onl ms)) w3 HA3.out HFo.out.1)
    have HE : Hid (anyM ms = false ∧ ofL ms = groupsL (flat (onl ms))) := Lib.hid ⟨by unfold anyM; rw [hz]; rfl, by unfold ofL; rw [if_neg (by omega)]⟩
    clear hz
    go_wp2_with (go_at_call 24; (with_reducible refine HR.out.mono ?_); rintro e w4 ⟨A5, c5, rfl, hr4, hb4⟩; have HK4 := Lib.hid (HK3.out.next hb4); have z0 := HK4.out.cell 0; have z1 := HK4.out.cell 1; have f0 := HK4.out.frozen 0; have f1 := HK4.out.frozen 1)
    have HB4 := Lib.hid (HB3.out.trans (hb4.mono (Nat.le_of_lt HN3.out)))
    have hk6 := (HK4.out.set_ 0 (.bool false)).set_ 1 (.slice A5 (groupsL (flat (onl ms))).length c5)
    have ho6 := ownk_up (b := N) (own_far (i := 1) (u := .slice A5 (groupsL (flat (onl ms))).length c5) (own_far (i := 0) (u := .bool false) hr4 HN3.out) HN3.out) (Nat.le_of_lt HN3.out)
    have hb6 := (HB4.out.setCell (p := ⟨N, 0, none⟩) (Nat.le_refl _) (.bool false)).setCell (p := ⟨N, 1, none⟩) (Nat.le_refl _) (.slice A5 (groupsL (flat (onl ms))).length c5)
    refine bodyPost_ret (ret_of _ N _ (.bool false) (.slice A5 (groupsL (flat (onl ms))).length c5) rfl (hk6.cell 0) (hk6.cell 1)) rfl ?_
    rw [HE.out.1, HE.out.2, hN]
    exact ⟨A5, c5, rfl, ho6, hb6⟩
  · have r1 : ((((but ms).length : Nat) : Int) == 0) = false := by rw [beq_eq_false_iff_ne]; omega
    have HR := Lib.hid (refused_any A2 A3 (but ms).length c2 (flat (onl ms)).length c3 (but ms) (flat (onl ms)) w3 HM3.out HA3.out HL.out.2 HFo.out.1 (by unfold but; exact Nat.le_trans (flat_part _ ms) HF.out.1) (fun m hm => HF.out.2.1 m (List.mem_filter.1 hm).1))
    have HE : Hid (anyM ms = true ∧ ofL ms = refL (but ms) (flat (onl ms))) := Lib.hid ⟨by unfold anyM; exact decide_eq_true hz, by unfold ofL; rw [if_pos hz]⟩
    clear hz
    go_wp2_with (go_at_call 25; (with_reducible refine HR.out.mono ?_); rintro e w4 ⟨A5, c5, rfl, hr4, hb4⟩; have HK4 := Lib.hid (HK3.out.next hb4); have z0 := HK4.out.cell 0; have z1 := HK4.out.cell 1; have f0 := HK4.out.frozen 0; have f1 := HK4.out.frozen 1)
    have HB4 := Lib.hid (HB3.out.trans (hb4.mono (Nat.le_of_lt HN3.out)))
    have hk6 := (HK4.out.set_ 0 (.bool true)).set_ 1 (.slice A5 (refL (but ms) (flat (onl ms))).length c5)
    have ho6 := ownk_up (b := N) (own_far (i := 1) (u := .slice A5 (refL (but ms) (flat (onl ms))).length c5) (own_far (i := 0) (u := .bool true) hr4 HN3.out) HN3.out) (Nat.le_of_lt HN3.out)
    have hb6 := (HB4.out.setCell (p := ⟨N, 0, none⟩) (Nat.le_refl _) (.bool true)).setCell (p := ⟨N, 1, none⟩) (Nat.le_refl _) (.slice A5 (refL (but ms) (flat (onl ms))).length c5)
    refine bodyPost_ret (ret_of _ N _ (.bool true) (.slice A5 (refL (but ms) (flat (onl ms))).length c5) rfl (hk6.cell 0) (hk6.cell 1)) rfl ?_
    rw [HE.out.1, HE.out.2, hN]
    exact ⟨A5, c5, rfl, ho6, hb6⟩
end Go.Proofs.Ytfiiichiflglaaa

