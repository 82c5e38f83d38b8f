/- A map of entries ranged over, whatever the order; package age's Tick, over the seat's program. -/
import Derived.Test.YtnnppoamdllebaaAj
import Derived.Maps.RangeRun
namespace Go.Proofs.Ytnnppoamdllebaa
open Go.RowKit Go.MapKept Go.ChangeMaps Sm Ag
/-- how many are still to come -/
def cnt (T : Row) (s : Array Nat) : Nat := (T.filter fun p => !s.contains p.1).length
theorem filter_less {α : Type} {q r : α → Bool} : ∀ {l : List α}, (∀ x ∈ l, q x = true → r x = true) → (∃ x ∈ l, r x = true ∧ q x = false) → (l.filter q).length < (l.filter r).length
  | [], _, h => by obtain ⟨x, hx, _⟩ := h; cases hx
  | a :: l, h1, h2 => by
    have hle : (l.filter q).length ≤ (l.filter r).length := by
      clear h2
      induction l with
      | nil => simp
      | cons b l ih =>
        have := h1 b (by simp)
        have ih' := ih (fun x hx => h1 x (by
          rcases List.mem_cons.1 hx with rfl | hx
          · simp
          · simp [hx]))
        by_cases hq : q b = true
        · rw [List.filter_cons_of_pos hq, List.filter_cons_of_pos (this hq)]
          simpa using ih'
        · rw [List.filter_cons_of_neg hq]
          by_cases hr : r b = true
          · rw [List.filter_cons_of_pos hr]; simp; omega
          · rw [List.filter_cons_of_neg hr]; exact ih'
    obtain ⟨x, hx, hr, hq⟩ := h2
    rcases List.mem_cons.1 hx with rfl | hx
    · rw [List.filter_cons_of_neg (by simp [hq]), List.filter_cons_of_pos hr]
      simp only [List.length_cons]
      omega
    · have ih := filter_less (fun y hy => h1 y (List.mem_cons_of_mem _ hy)) ⟨x, hx, hr, hq⟩
      by_cases hqa : q a = true
      · rw [List.filter_cons_of_pos hqa, List.filter_cons_of_pos (h1 a (by simp) hqa)]
        simpa using ih
      · rw [List.filter_cons_of_neg hqa]
        by_cases hra : r a = true
        · rw [List.filter_cons_of_pos hra]; simp; omega
        · rw [List.filter_cons_of_neg hra]; exact ih
theorem cnt_push {T : Row} {s : Array Nat} {p : Nat × Ex} (hp : p ∈ T) (hs : s.contains p.1 = false) : cnt T (s.push p.1) < cnt T s := by
  refine filter_less (fun q _ h => ?_) ⟨p, hp, by rw [hs]; rfl, by simp⟩
  simp at h ⊢
  exact h.1
theorem cnt_old (T : Row) (s : Array Nat) : cnt (T.filterMap (oldS s)) s = cnt T s := by
  unfold cnt
  induction T with
  | nil => rfl
  | cons p r ih =>
    rw [List.filterMap_cons]
    cases hs : s.contains p.1 with
    | false =>
      have e : oldS s p = some p := by unfold oldS; rw [hs]; rfl
      rw [e]
      simp only
      rw [List.filter_cons_of_pos (by rw [hs]; rfl), List.filter_cons_of_pos (by rw [hs]; rfl), List.length_cons, List.length_cons, ih]
    | true =>
      rw [List.filter_cons_of_neg (p := fun p => !s.contains p.1) (l := r) (by rw [hs]; simp)]
      cases ho : oldS s p with
      | none => exact ih
      | some q =>
        have := (oldS_t ho).1
        simp only
        rw [List.filter_cons_of_neg (by rw [this, hs]; simp)]
        exact ih
theorem oldS_mem {T : Row} {s : Array Nat} {p : Nat × Ex} (h : p ∈ T.filterMap (oldS s)) (hs : s.contains p.1 = false) : p ∈ T := by
  obtain ⟨q, hq, e⟩ := List.mem_filterMap.1 h
  have := (oldS_t e).1
  unfold oldS at e
  rw [← this, hs] at e
  cases e
  exact hq
/-- a range over the map, under way: these stamps have come -/
structure IT (w : World) (b r : Nat) (T : Row) (clock : Nat) (s : Array Nat) : Prop where
  am : AM w b T clock
  it : ∃ since c0, w.heap[r]? = some (.mapIter (some b) since s c0) ∧ (∀ p ∈ T, p.1 < since) ∧ since ≤ c0 ∧ since ≤ clock
section
variable {w w' : World} {b r clock : Nat} {T : Row} {s : Array Nat}
theorem left_cnt (T : Row) (s : Array Nat) : (leftOf (T.map mkE).toArray s).size = cnt T s := by
  unfold leftOf cnt
  rw [← Array.length_toList, Array.toList_filter]
  simp only
  rw [List.filter_map, List.length_map]
  rfl
theorem IT.left_eq (h : IT w b r T clock s) : w.rangeLeft b r = cnt T s := by
  obtain ⟨since, c0, hr, _⟩ := h.it
  simp only [World.rangeLeft, h.am.block, hr]
  exact left_cnt T s
theorem IT.ne (h : IT w b r T clock s) : r ≠ b := by
  obtain ⟨since, c0, hr, _⟩ := h.it
  rintro rfl
  rw [h.am.block] at hr
  cases hr
theorem IT.lt (h : IT w b r T clock s) : r < w.heap.size := by
  obtain ⟨since, c0, hr, _⟩ := h.it
  exact (Array.getElem?_eq_some_iff.1 hr).1
theorem IT.next (h : IT w b r T clock s) (hb : Below w.heap.size w w') : IT w' b r T clock s := by
  have hl := h.lt
  obtain ⟨since, c0, hr, rest⟩ := h.it
  exact ⟨h.am.next hb, since, c0, (hb.block r hl).trans hr, rest⟩
theorem AR.iter {A : Option Addr} {n : Nat} {xs : List Int} (h : AR w A n xs) {m : Option Nat} {i c : Nat} (hr : w.heap[r]? = some (.mapIter m i s c)) (hz : w.heap.size ≤ w'.heap.size) (hk : ∀ g, g ≠ r → w'.heap[g]? = w.heap[g]?) : AR w' A n xs :=
  h.of_blocks hz fun g o x _ hc => hk g (fun e => by
    subst e
    simp [World.cell?, hr] at hc)
/-- one step: nothing is left, or one that has not come comes -/
theorem IT.step (h : IT w b r T clock s) (ty : TypeId) : ((∀ p ∈ T, s.contains p.1 = true) ∧ (Instr.next (.pointer (some ⟨r, 0, none⟩)) false ty).run Try.prog w = .ok (.tuple #[.bool false]) w) ∨
    ∃ p w', p ∈ T ∧ s.contains p.1 = false ∧ (Instr.next (.pointer (some ⟨r, 0, none⟩)) false ty).run Try.prog w = .ok (.tuple #[.bool true, tv p.2.e.t, ev p.2]) w' ∧ IT w' b r T clock (s.push p.1) ∧ w.grownBy w' (some r) ∧ w'.heap.size = w.heap.size ∧
      ∀ W, W.heap[r]? = w'.heap[r]? → W.heap[b]? = w'.heap[b]? → (Instr.entry (.pointer (some ⟨r, 0, none⟩))).run Try.prog W = .ok (.tuple #[tv p.2.e.t, ev p.2]) W := by
  have hne := h.ne
  have ham := h.am
  obtain ⟨since, c0, hr, hold, hsc, hck⟩ := h.it
  have hold' : ∀ x ∈ (T.map mkE).toArray.toList, x.born < since := by
    intro x hx
    simp only [List.mem_map] at hx
    obtain ⟨p, hp, rfl⟩ := hx
    exact hold p hp
  rcases run_next_at (P := Try.prog) w ty r b since c0 s (T.map mkE).toArray clock hr ham.block hold' hsc with ⟨h0, hrun⟩ | ⟨e, he, w1, hal, hrun⟩
  · refine .inl ⟨fun p hp => ?_, hrun⟩
    rw [left_cnt] at h0
    cases hc : s.contains p.1 with
    | true => rfl
    | false =>
      have : p ∈ T.filter fun p => !s.contains p.1 := List.mem_filter.2 ⟨hp, by rw [hc]; rfl⟩
      unfold cnt at h0
      rw [List.length_eq_zero_iff.1 h0] at this
      cases this
  · obtain ⟨p, hp, hs, rfl⟩ : ∃ p ∈ T, s.contains p.1 = false ∧ mkE p = e := by
      unfold leftOf at he
      rw [Array.toList_filter, List.mem_filter] at he
      obtain ⟨h1, h2⟩ := he
      simp only [List.mem_map] at h1
      obtain ⟨p, hp, rfl⟩ := h1
      exact ⟨p, hp, by simpa [mkE] using h2, rfl⟩
    have hw1 : Below w.heap.size w w1 := by
      rcases hal with rfl | rfl
      · exact Below.refl _ _
      · exact (Below.refl _ _).drew
    have hr1 : w1.heap[r]? = some (.mapIter (some b) since s c0) := (hw1.block r h.lt).trans hr
    have hz : (setBlock w1 r (.mapIter (some b) since (s.push p.1) clock)).heap.size = w.heap.size := by
      have e1 : w1.heap.size = w.heap.size := by rcases hal with rfl | rfl <;> rfl
      rw [← e1]
      simp [setBlock]
    have hrl : r < w1.heap.size := (Array.getElem?_eq_some_iff.1 hr1).1
    have hkeep : ∀ g, g ≠ r → (setBlock w1 r (.mapIter (some b) since (s.push p.1) clock)).heap[g]? = w.heap[g]? := fun g hg => by
      have e1 : w1.heap[g]? = w.heap[g]? := by rcases hal with rfl | rfl <;> rfl
      rw [← e1]
      simp [setBlock, hg.symm]
    have hsame : (setBlock w1 r (.mapIter (some b) since (s.push p.1) clock)).heap[r]? = some (.mapIter (some b) since (s.push p.1) clock) := by
      simp [setBlock, hrl]
    have hb2 := (hkeep b hne.symm).trans ham.block
    refine .inr ⟨p, _, hp, hs, hrun, ⟨⟨hb2, ham.born, ham.once, ham.apart, fun q hq => ?_⟩, since, clock, hsame, hold, hck, hck⟩, ⟨?_, ?_, ?_, Nat.le_of_eq hz.symm, fun i _ hi => hkeep i (fun e => hi (by rw [e]))⟩, hz, fun W hW1 hW2 => ?_⟩
    · have := ham.each q hq
      exact ⟨this.1, this.2.1, this.2.2.1.iter hr (Nat.le_of_eq hz.symm) hkeep, this.2.2.2⟩
    · rcases hal with rfl | rfl <;> rfl
    · rcases hal with rfl | rfl <;> rfl
    · rcases hal with rfl | rfl <;> rfl
    · refine run_entry_at W r b since s (T.map mkE).toArray clock (mkE p) (hW1.trans hsame) (hW2.trans hb2) (by simp only [List.mem_map]; exact ⟨p, hp, rfl⟩) ?_
      have : (T.map mkE).toArray.toList.map (·.born) = T.map (·.1) := by simp [mkE, Function.comp]
      rw [this]
      exact ham.once
theorem AM.range_ (h : AM w b T clock) : (Instr.range 31 (.map (some b))).run Try.prog w = .ok (.pointer (some ⟨w.heap.size, 0, none⟩)) (w.alloc (.mapIter (some b) clock #[] clock)) ∧ IT (w.alloc (.mapIter (some b) clock #[] clock)) b w.heap.size T clock #[] := by
  refine ⟨run_range_map w _ _ _ b _ clock Try.underlying31 h.block, h.next ((Below.refl _ _).alloc (Nat.le_refl _) _), clock, clock, (MapKept.heap_alloc w _).1, h.born, Nat.le_refl _, Nat.le_refl _⟩
/-- all have come -/
def AllCame (T : Row) (s : Array Nat) : Prop := ∀ p ∈ T, s.contains p.1 = true
/-- one more has come -/
structure Came (w w' : World) (b r : Nat) (T : Row) (clock : Nat) (s : Array Nat) (q : Nat) (y : Ex) : Prop where
  mem : (q, y) ∈ T
  new : s.contains q = false
  it : IT w' b r T clock (s.push q)
  grown : w.grownBy w' (some r)
  size : w'.heap.size = w.heap.size
  entry : ∀ W, W.heap[r]? = w'.heap[r]? → W.heap[b]? = w'.heap[b]? → (Instr.entry (.pointer (some ⟨r, 0, none⟩))).run Try.prog W = .ok (.tuple #[tv y.e.t, ev y]) W
/-- the step, for the walk -/
theorem wpList_next_it {ops : Array Oper} {rest : List Oper} {o : Oper} {a : Act} {Q : Exit → Act → World → Prop} (hg : o.guard = none) (it : Operand) (hop : o.op = Op.next it false)
    (hit : a.eval it = .pointer (some ⟨r, 0, none⟩)) (h : IT w b r T clock s)
    (hDone : AllCame T s → wpList Try.prog ops Q rest (a.put o.dst (.tuple #[.bool false])) w)
    (hMore : ∀ q y w', Came w w' b r T clock s q y → wpList Try.prog ops Q rest (a.put o.dst (.tuple #[.bool true, tv y.e.t, ev y])) w') :
    wpList Try.prog ops Q (o :: rest) a w := by
  refine wpList_plain hg fun K' hK' => ?_
  unfold Oper.wp
  rcases h.step o.type with ⟨hall, hrun⟩ | ⟨p, w', hp, hs, hrun, hI, hgr, hsz, hen⟩
  · simp [execOp, hop, hit, hrun, Result.andThen]
    exact hK' _ _ (hDone hall)
  · simp [execOp, hop, hit, hrun, Result.andThen]
    exact hK' _ _ (hMore p.1 p.2 w' ⟨hp, hs, hI, hgr, hsz, hen⟩)
end
end Go.Proofs.Ytnnppoamdllebaa

