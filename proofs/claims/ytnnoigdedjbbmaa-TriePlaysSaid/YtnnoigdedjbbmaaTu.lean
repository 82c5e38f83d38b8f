/- A trie beside two rows of the caller's: prefixes, and for each of them numbers; over the seat's program. -/
import Derived.Test.YtnnoigdedjbbmaaTw
import Derived.Maps.AppendAt
namespace Go.Proofs.Ytnnoigdedjbbmaa
open Go.RowKit
theorem JR.block {w w' : World} {A : Option Addr} {n : Nat} {xs : List Int} (h : JR w A n xs) (hb : ∀ b o, A = some ⟨b, o, none⟩ → w'.heap[b]? = w.heap[b]?) : JR w' A n xs :=
  ⟨h.1, fun hn => by
    obtain ⟨b, o, e, hlt, hc⟩ := h.2 hn
    have hk := hb b o e
    refine ⟨b, o, e, ?_, fun i hi => (World.cell?_of_block (a := ⟨b, o + i, none⟩) hk).trans (hc i hi)⟩
    have h1 := Array.getElem?_eq_getElem hlt
    rw [← hk] at h1
    exact (Array.getElem?_eq_some_iff.1 h1).1⟩
theorem own_cells {w : World} {base : Nat} {e : TypeId} {size : Nat} {v : Value} {n : Nat} {xs : List Value} (h : w.ownsRow base e size v n xs) {g : Nat} (hg : v.ownBlock = some g) : ∃ cur fr, w.heap[g]? = some (.cells cur e fr) := by
  rcases h.2 with ⟨rfl, _⟩ | ⟨g', cap, cur, rfl, _, hh, _⟩
  · simp [Value.ownBlock] at hg
  · simp [Value.ownBlock] at hg
    subst hg
    exact ⟨cur, _, hh⟩
structure PS (B : Nat) (w : World) (N : Nat) (L : Tr.Row) (ks : List Tr.Pf) (hs : List (List Int)) (va vh : Value) (F : Nat → Prop) (us : List Value) : Prop where
  size : B ≤ w.heap.size
  tr : TR w F N L
  fb : ∀ i, F i → B ≤ i
  rowA : w.ownsRow B 27 2 va ks.length (PF ks)
  offA : ∀ g, va.ownBlock = some g → ¬ F g
  rowH : w.ownsRow B 39 1 vh hs.length us
  offH : ∀ g, vh.ownBlock = some g → ¬ F g
  val : ∀ (i : Nat) ys, hs[i]? = some ys → ∃ A c, us[i]? = some (.slice A ys.length c) ∧ JR w A ys.length ys ∧ ∀ b o, A = some ⟨b, o, none⟩ → ¬ F b ∧ ∃ cur fr, w.heap[b]? = some (.cells cur 3 fr)
section
variable {B N : Nat} {w w1 : World} {L : Tr.Row} {ks : List Tr.Pf} {hs : List (List Int)} {va vh : Value} {F : Nat → Prop} {us : List Value}
theorem PS.next (h : PS B w N L ks hs va vh F us) (hb : Below w.heap.size w w1) : PS B w1 N L ks hs va vh F us := by
  have hk : ∀ {g : Nat} {cur : Array Value} {e : TypeId} {fr : Nat × Nat}, w.heap[g]? = some (.cells cur e fr) → w1.heap[g]? = w.heap[g]? := fun h => hb.block _ (Array.getElem?_eq_some_iff.1 h).1
  refine ⟨Nat.le_trans h.size hb.size, h.tr.next hb, h.fb, own_at h.rowA (fun g hg => ?_), h.offA, own_at h.rowH (fun g hg => ?_), h.offH, fun i ys hi => ?_⟩
  · obtain ⟨_, _, hc⟩ := own_cells h.rowA hg; exact hk hc
  · obtain ⟨_, _, hc⟩ := own_cells h.rowH hg; exact hk hc
  · obtain ⟨A, c, h1, h2, h3⟩ := h.val i ys hi
    exact ⟨A, c, h1, h2.next hb, fun b o e => by obtain ⟨g1, cur, fr, g2⟩ := h3 b o e; exact ⟨g1, cur, fr, (hk g2).trans g2⟩⟩
/-- a prefix put in the trie alone -/
theorem PS.put (h : PS B w N L ks hs va vh F us) (a n x : Int) (hp : wfP (a, n)) (hL : L.length ≤ 1000000) (hx : ((Tr.get L (a, n)).getD []).length ≤ 1000000) :
    Calls Try.prog 7 #[.pointer (some ⟨N, 0, none⟩), .agg #[.int .u32 a, .int .i64 n], .int .i64 x] w fun e w' => e = .returned (.bool (Ad.valid a n)) ∧ (∃ F', PS B w' N (Tr.putv L (a, n) x) ks hs va vh F' us) ∧ Below B w w' := by
  refine (put_any w F N L a n x h.tr hp hL hx).mono ?_
  rintro e w' ⟨rfl, F', g1, g2, g3⟩
  have hk : ∀ {g : Nat} {cur : Array Value} {e : TypeId} {fr : Nat × Nat}, w.heap[g]? = some (.cells cur e fr) → ¬ F g → w'.heap[g]? = w.heap[g]? := fun h hn => g2.block _ (Array.getElem?_eq_some_iff.1 h).1 hn
  have hn : ∀ {g : Nat} {cur : Array Value} {e : TypeId} {fr : Nat × Nat}, w.heap[g]? = some (.cells cur e fr) → ¬ F g → ¬ F' g := fun h hn hf => by
    have := (Array.getElem?_eq_some_iff.1 h).1
    rcases g3 _ hf with h | h
    · exact hn h
    · omega
  refine ⟨rfl, ⟨F', Nat.le_trans h.size g2.size, g1, fun i hi => (g3 i hi).elim (h.fb i) (fun e => Nat.le_trans h.size e), own_at h.rowA (fun g hg => ?_), fun g hg => ?_, own_at h.rowH (fun g hg => ?_), fun g hg => ?_, fun i ys hi => ?_⟩, g2.below h.fb h.size⟩
  · obtain ⟨_, _, hc⟩ := own_cells h.rowA hg; exact hk hc (h.offA g hg)
  · obtain ⟨_, _, hc⟩ := own_cells h.rowA hg; exact hn hc (h.offA g hg)
  · obtain ⟨_, _, hc⟩ := own_cells h.rowH hg; exact hk hc (h.offH g hg)
  · obtain ⟨_, _, hc⟩ := own_cells h.rowH hg; exact hn hc (h.offH g hg)
  · obtain ⟨A, c, h1, h2, h3⟩ := h.val i ys hi
    refine ⟨A, c, h1, h2.block (fun b o e => ?_), fun b o e => ?_⟩
    · obtain ⟨f1, cur, fr, f2⟩ := h3 b o e; exact hk f2 f1
    · obtain ⟨f1, cur, fr, f2⟩ := h3 b o e; exact ⟨hn f2 f1, cur, fr, (hk f2 f1).trans f2⟩
/-- one block turned, or none, which is neither the trie's nor holds numbers -/
theorem PS.turn (h : PS B w N L ks hs va vh F us) {row : Option Nat} (hg : w.grownBy w1 row) (hF : ∀ g, row = some g → ¬ F g) (hI : ∀ g, row = some g → ∀ cur fr, w.heap[g]? ≠ some (.cells cur 3 fr)) :
    B ≤ w1.heap.size ∧ TR w1 F N L ∧ ∀ (i : Nat) ys, hs[i]? = some ys → ∃ A c, us[i]? = some (.slice A ys.length c) ∧ JR w1 A ys.length ys ∧ ∀ b o, A = some ⟨b, o, none⟩ → ¬ F b ∧ ∃ cur fr, w1.heap[b]? = some (.cells cur 3 fr) := by
  have hk : ∀ {g : Nat} {cur : Array Value} {fr : Nat × Nat}, w.heap[g]? = some (.cells cur 3 fr) → w1.heap[g]? = w.heap[g]? := fun {g cur fr} hc => hg.block _ (Array.getElem?_eq_some_iff.1 hc).1 (fun e => hI g e.symm cur fr hc)
  refine ⟨Nat.le_trans h.size hg.size, h.tr.kept (fun i hi => hg.block i (h.tr.lt i hi) (fun e => hF i e.symm hi)) hg.size, fun i ys hi => ?_⟩
  obtain ⟨A, c, h1, h2, h3⟩ := h.val i ys hi
  refine ⟨A, c, h1, h2.block (fun b o e => ?_), fun b o e => ?_⟩
  · obtain ⟨f1, cur, fr, f2⟩ := h3 b o e; exact hk f2
  · obtain ⟨f1, cur, fr, f2⟩ := h3 b o e; exact ⟨f1, cur, fr, (hk f2).trans f2⟩
theorem PS.notA (h : PS B w N L ks hs va vh F us) : ∀ g, va.ownBlock = some g → ¬ F g ∧ (∀ cur fr, w.heap[g]? ≠ some (.cells cur 3 fr)) ∧ vh.ownBlock ≠ some g := by
  intro g hg
  obtain ⟨cur, fr, hc⟩ := own_cells h.rowA hg
  refine ⟨h.offA g hg, fun cur' fr' e => ?_, fun e => ?_⟩
  · rw [hc] at e; simp at e
  · obtain ⟨cur', fr', hc'⟩ := own_cells h.rowH e
    rw [hc] at hc'; simp at hc'
theorem PS.notH (h : PS B w N L ks hs va vh F us) : ∀ g, vh.ownBlock = some g → ¬ F g ∧ (∀ cur fr, w.heap[g]? ≠ some (.cells cur 3 fr)) ∧ va.ownBlock ≠ some g := by
  intro g hg
  obtain ⟨cur, fr, hc⟩ := own_cells h.rowH hg
  refine ⟨h.offH g hg, fun cur' fr' e => ?_, fun e => ?_⟩
  · rw [hc] at e; simp at e
  · obtain ⟨cur', fr', hc'⟩ := own_cells h.rowA e
    rw [hc] at hc'; simp at hc'
/-- one prefix more in the row -/
theorem PS.more (h : PS B w N L ks hs va vh F us) {va' : Value} {p : Tr.Pf} (hg : w.grownBy w1 va.ownBlock) (hr : w1.ownsRow B 27 2 va' (ks.length + 1) (PF ks ++ PF [p])) (hat : va'.ownBlock = va.ownBlock ∨ va'.ownBlock = some w.heap.size) :
    PS B w1 N L (ks ++ [p]) hs va' vh F us := by
  obtain ⟨h1, h2, h3⟩ := h.turn hg (fun g e => (h.notA g e).1) (fun g e => (h.notA g e).2.1)
  refine ⟨h1, h2, h.fb, by rw [PF_app, List.length_append]; exact hr, fun g e => ?_, own_at h.rowH (fun g e => ?_), h.offH, h3⟩
  · rcases hat with e1 | e1
    · exact h.offA g (e1 ▸ e)
    · rw [e1] at e; cases e
      exact fun hf => by have := h.tr.lt _ hf; omega
  · obtain ⟨_, _, hc⟩ := own_cells h.rowH e
    exact hg.block g (Array.getElem?_eq_some_iff.1 hc).1 (fun e2 => (h.notA g e2.symm).2.2 e)
/-- one row of numbers more -/
theorem PS.moreH (h : PS B w N L ks hs va vh F us) {vh' : Value} {A : Option Addr} {c : Nat} {ys : List Int} (hg : w.grownBy w1 vh.ownBlock) (hr : w1.ownsRow B 39 1 vh' (hs.length + 1) (us ++ [.slice A ys.length c])) (hat : vh'.ownBlock = vh.ownBlock ∨ vh'.ownBlock = some w.heap.size)
    (hJ : JR w A ys.length ys) (hA : ∀ b o, A = some ⟨b, o, none⟩ → ¬ F b ∧ ∃ cur fr, w.heap[b]? = some (.cells cur 3 fr)) :
    PS B w1 N L ks (hs ++ [ys]) va vh' F (us ++ [.slice A ys.length c]) := by
  obtain ⟨h1, h2, h3⟩ := h.turn hg (fun g e => (h.notH g e).1) (fun g e => (h.notH g e).2.1)
  have hl : us.length = hs.length := by have := h.rowH.1; omega
  have hk : ∀ {g : Nat} {cur : Array Value} {fr : Nat × Nat}, w.heap[g]? = some (.cells cur 3 fr) → w1.heap[g]? = w.heap[g]? := fun {g cur fr} hc => hg.block _ (Array.getElem?_eq_some_iff.1 hc).1 (fun e => (h.notH g e.symm).2.1 cur fr hc)
  refine ⟨h1, h2, h.fb, own_at h.rowA (fun g e => ?_), h.offA, by rw [List.length_append]; exact hr, fun g e => ?_, fun i zs hi => ?_⟩
  · obtain ⟨_, _, hc⟩ := own_cells h.rowA e
    exact hg.block g (Array.getElem?_eq_some_iff.1 hc).1 (fun e2 => (h.notH g e2.symm).2.2 e)
  · rcases hat with e1 | e1
    · exact h.offH g (e1 ▸ e)
    · rw [e1] at e; cases e
      exact fun hf => by have := h.tr.lt _ hf; omega
  · rcases Nat.lt_or_ge i hs.length with hlt | hge
    · rw [List.getElem?_append_left hlt] at hi
      obtain ⟨A', c', g1, g2⟩ := h3 i zs hi
      exact ⟨A', c', by rw [List.getElem?_append_left (by omega)]; exact g1, g2⟩
    · rw [List.getElem?_append_right hge] at hi
      have h0 : i - hs.length = 0 := by
        have := (List.getElem?_eq_some_iff.1 hi).1
        simp at this
        omega
      rw [h0] at hi
      simp at hi
      subst hi
      refine ⟨A, c, by rw [List.getElem?_append_right (by omega), hl, h0]; rfl, hJ.block (fun b o e => ?_), fun b o e => ?_⟩
      · obtain ⟨f1, cur, fr, f2⟩ := hA b o e; exact hk f2
      · obtain ⟨f1, cur, fr, f2⟩ := hA b o e; exact ⟨f1, cur, fr, (hk f2).trans f2⟩
/-- a row of numbers in another's place -/
theorem PS.setH {g cap : Nat} (h : PS B w N L ks hs (va) (.slice (some ⟨g, 0, none⟩) hs.length cap) F us) {k : Nat} (hk : k < hs.length) {A : Option Addr} {c : Nat} {ys : List Int}
    (hJ : JR w A ys.length ys) (hA : ∀ b o, A = some ⟨b, o, none⟩ → ¬ F b ∧ ∃ cur fr, w.heap[b]? = some (.cells cur 3 fr)) :
    PS B (w.setCell ⟨g, k, none⟩ (.slice A ys.length c)) N L ks (hs.set k ys) va (.slice (some ⟨g, 0, none⟩) hs.length cap) F (us.set k (.slice A ys.length c)) := by
  have hg : w.grownBy (w.setCell ⟨g, k, none⟩ (.slice A ys.length c)) (Value.ownBlock (.slice (some ⟨g, 0, none⟩) hs.length cap)) := ⟨rfl, rfl, rfl, by simp, fun j hj hne => Below.heap_setCell _ _ _ _ (fun e => hne (by rw [e]; rfl))⟩
  obtain ⟨h1, h2, h3⟩ := h.turn hg (fun g e => (h.notH g e).1) (fun g e => (h.notH g e).2.1)
  have hl : us.length = hs.length := by have := h.rowH.1; omega
  have hkp : ∀ {j : Nat} {cur : Array Value} {fr : Nat × Nat}, w.heap[j]? = some (.cells cur 3 fr) → (w.setCell ⟨g, k, none⟩ (.slice A ys.length c)).heap[j]? = w.heap[j]? := fun {j cur fr} hc => hg.block _ (Array.getElem?_eq_some_iff.1 hc).1 (fun e => (h.notH j e.symm).2.1 cur fr hc)
  refine ⟨h1, h2, h.fb, own_at h.rowA (fun j e => ?_), h.offA, by rw [List.length_set]; exact (h.rowH.stored k _).1, fun j e => h.offH j e, fun i zs hi => ?_⟩
  · obtain ⟨_, _, hc⟩ := own_cells h.rowA e
    exact hg.block j (Array.getElem?_eq_some_iff.1 hc).1 (fun e2 => (h.notH j e2.symm).2.2 e)
  · rw [List.getElem?_set] at hi
    by_cases hki : k = i
    · subst hki
      simp only [if_true, hk] at hi
      cases hi
      refine ⟨A, c, by rw [List.getElem?_set]; simp [hl, hk], hJ.block (fun b o e => ?_), fun b o e => ?_⟩
      · obtain ⟨f1, cur, fr, f2⟩ := hA b o e; exact hkp f2
      · obtain ⟨f1, cur, fr, f2⟩ := hA b o e; exact ⟨f1, cur, fr, (hkp f2).trans f2⟩
    · rw [if_neg hki] at hi
      obtain ⟨A', c', g1, g2⟩ := h3 i zs hi
      exact ⟨A', c', by rw [List.getElem?_set, if_neg hki]; exact g1, g2⟩
/-- one number more behind a row of numbers, laid anew -/
theorem PS.bump {g cap m g8 c8 i base : Nat} {w8 : World} {ys : List Int} {z : Int} (h : PS B w N L ks hs va (.slice (some ⟨g, 0, none⟩) m cap) F us) (hm : hs.length = m) (hi : i < m) (hb : Below w.heap.size w w8)
    (ho : w8.ownsRow base 3 1 (.slice (some ⟨g8, 0, none⟩) (ys.length + 1) c8) (ys.length + 1) (I64 ys ++ [.int .i64 z])) (hg : w.heap.size ≤ g8) :
    ∃ us', PS B (w8.setCell ⟨g, i, none⟩ (.slice (some ⟨g8, 0, none⟩) (ys.length + 1) c8)) N L ks (hs.set i (ys ++ [z])) va (.slice (some ⟨g, 0, none⟩) m cap) F us' := by
  subst hm
  have hl : (ys ++ [z]).length = ys.length + 1 := by simp
  have ho' : w8.ownsRow base 3 1 (.slice (some ⟨g8, 0, none⟩) (ys.length + 1) c8) (ys ++ [z]).length (I64 (ys ++ [z])) := by rw [I64_app, hl]; exact ho
  obtain ⟨A', c', e', hJ⟩ := own_jr ho'
  obtain ⟨rfl, hcc⟩ : A' = some ⟨g8, 0, none⟩ ∧ c' = c8 := by
    simp only [Value.slice.injEq] at e'
    exact ⟨e'.1.symm, e'.2.2.symm⟩
  obtain ⟨cur8, fr8, hc8⟩ := own_cells ho (g := g8) rfl
  have hP := (h.next hb).setH hi (c := c') hJ (fun b' o' e => by
    have : g8 = b' := by cases e; rfl
    subst this
    exact ⟨fun hf => by have := h.tr.lt _ hf; omega, cur8, fr8, hc8⟩)
  rw [hl, hcc] at hP
  exact ⟨_, hP⟩
end
end Go.Proofs.Ytnnoigdedjbbmaa

