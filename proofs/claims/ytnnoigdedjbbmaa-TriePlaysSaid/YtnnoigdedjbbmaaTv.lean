/- The best of some prefixes, one by one; a trie beside its rows, when nothing more is put. -/
import Derived.Test.YtnnoigdedjbbmaaTu
namespace Go.Proofs.Ytnnoigdedjbbmaa
open Go.RowKit
namespace Tr
theorem fold_keys (ds : List Do) : ∀ q ∈ (fold ds).map (·.1), ∃ d ∈ ds, pf d = q := by
  obtain ⟨n, hn⟩ : ∃ n, ds.length = n := ⟨_, rfl⟩
  induction n generalizing ds with
  | zero => obtain rfl := List.eq_nil_of_length_eq_zero hn; intro q hq; simp [fold] at hq
  | succ n ih =>
    have hne : ds ≠ [] := by intro e; simp [e] at hn
    have hd := List.dropLast_concat_getLast hne
    generalize ds.getLast hne = d at hd
    generalize ds.dropLast = es at hd
    subst hd
    intro q hq
    rw [fold_snoc] at hq
    have h2 : q ∈ (fold es).map (·.1) ∨ q = pf d := by
      unfold putv at hq
      split at hq
      · obtain ⟨ys, hg⟩ := mem_keys.1 hq
        rw [get_put] at hg
        split at hg
        · rename_i e; exact .inr e.symm
        · exact .inl (mem_keys.2 ⟨ys, hg⟩)
      · exact .inl hq
    rcases h2 with h2 | h2
    · obtain ⟨e, he, h3⟩ := ih es (by simp at hn; omega) q h2
      exact ⟨e, by simp [he], h3⟩
    · exact ⟨d, by simp, h2.symm⟩
/-- the best of the first m -/
def Best (ks : List Pf) (a : Int) (m : Nat) (best : Int) : Prop :=
  (best = -1 ∧ ∀ q ∈ ks.take m, Ad.isIn q.1 q.2 a = false) ∨ ∃ (b : Nat) (q : Pf), best = (b : Int) ∧ b < m ∧ ks[b]? = some q ∧ Ad.isIn q.1 q.2 a = true ∧ ∀ q' ∈ ks.take m, Ad.isIn q'.1 q'.2 a = true → q'.2 ≤ q.2
theorem best_nil (ks : List Pf) (a : Int) : Best ks a 0 (-1) := .inl ⟨rfl, by simp⟩
section
variable {ks : List Pf} {a best : Int} {m : Nat} {q : Pf}
theorem best_skip (h : Best ks a m best) (hq : ks[m]? = some q) (hi : Ad.isIn q.1 q.2 a = false) : Best ks a (m + 1) best := by
  rcases h with ⟨h1, h2⟩ | ⟨b, p, h1, h2, h3, h4, h5⟩
  · refine .inl ⟨h1, fun p hp => ?_⟩
    rw [take_snoc hq, List.mem_append, List.mem_singleton] at hp
    rcases hp with hp | rfl
    · exact h2 p hp
    · exact hi
  · refine .inr ⟨b, p, h1, by omega, h3, h4, fun p hp hin => ?_⟩
    rw [take_snoc hq, List.mem_append, List.mem_singleton] at hp
    rcases hp with hp | rfl
    · exact h5 p hp hin
    · rw [hi] at hin; cases hin
theorem best_first (h : ∀ q ∈ ks.take m, Ad.isIn q.1 q.2 a = false) (hq : ks[m]? = some q) (hi : Ad.isIn q.1 q.2 a = true) : Best ks a (m + 1) (m : Int) := by
  refine .inr ⟨m, q, rfl, by omega, hq, hi, fun p hp hin => ?_⟩
  rw [take_snoc hq, List.mem_append, List.mem_singleton] at hp
  rcases hp with hp | rfl
  · rw [h p hp] at hin; cases hin
  · exact Int.le_refl _
theorem best_better {p : Pf} (h : ∀ q' ∈ ks.take m, Ad.isIn q'.1 q'.2 a = true → q'.2 ≤ p.2) (hq : ks[m]? = some q) (hi : Ad.isIn q.1 q.2 a = true) (hl : p.2 < q.2) : Best ks a (m + 1) (m : Int) := by
  refine .inr ⟨m, q, rfl, by omega, hq, hi, fun p' hp hin => ?_⟩
  rw [take_snoc hq, List.mem_append, List.mem_singleton] at hp
  rcases hp with hp | rfl
  · have := h p' hp hin; omega
  · exact Int.le_refl _
theorem best_worse {p : Pf} {b : Nat} (h : ∀ q' ∈ ks.take m, Ad.isIn q'.1 q'.2 a = true → q'.2 ≤ p.2) (hq : ks[m]? = some q) (hb : b < m) (hp : ks[b]? = some p) (hpi : Ad.isIn p.1 p.2 a = true) (hl : ¬ p.2 < q.2) : Best ks a (m + 1) (b : Int) := by
  refine .inr ⟨b, p, rfl, by omega, hp, hpi, fun p' hp hin => ?_⟩
  rw [take_snoc hq, List.mem_append, List.mem_singleton] at hp
  rcases hp with hp | rfl
  · exact h p' hp hin
  · omega
end
theorem best_look {L : Row} {a best : Int} (hA : Apart L) (h : Best (L.map (·.1)) a L.length best) :
    (best = -1 ∧ look L a = none) ∨ ∃ (b j : Nat) (ys : List Int), best = (b : Int) ∧ L[b]? = some ((ar a j, (j : Int)), ys) ∧ look L a = some (j, ys) := by
  have hl : (L.map (·.1)).take L.length = L.map (·.1) := by rw [List.take_of_length_le (by simp)]
  unfold Best at h
  rw [hl] at h
  rcases h with ⟨h1, h2⟩ | ⟨b, q, h1, h2, h3, h4, h5⟩
  · refine .inl ⟨h1, ?_⟩
    rcases lk_spec L a 33 with ⟨g, _⟩ | ⟨k, xs, g1, g2, g3, _⟩
    · exact g
    · have := h2 _ (mem_keys.2 ⟨xs, g3⟩)
      rw [(isIn_iff _ _ _).2 ⟨k, by omega, rfl, rfl⟩] at this
      cases this
  · obtain ⟨j, hj, e1, e2⟩ := (isIn_iff _ _ _).1 h4
    obtain rfl : q = (ar a j, (j : Int)) := Prod.ext e2 e1
    obtain ⟨⟨q, ys⟩, hLb⟩ : ∃ x, L[b]? = some x := ⟨L[b], List.getElem?_eq_getElem h2⟩
    obtain rfl : q = (ar a j, (j : Int)) := by rw [List.getElem?_map, hLb] at h3; simpa using h3
    have hg := get_at hA hLb
    refine .inr ⟨b, j, ys, h1, hLb, ?_⟩
    rcases lk_spec L a 33 with ⟨_, g⟩ | ⟨k, xs, g1, g2, g3, g4⟩
    · rw [g j (by omega)] at hg; cases hg
    · have k1 : (k : Int) ≤ j := h5 _ (mem_keys.2 ⟨xs, g3⟩) ((isIn_iff _ _ _).2 ⟨k, by omega, rfl, rfl⟩)
      have k2 : ¬ k < j := fun hk => by rw [g4 j hk (by omega)] at hg; cases hg
      obtain rfl : k = j := by omega
      rw [g3] at hg
      cases hg
      exact g2
end Tr
/-- what stays when nothing more is put -/
structure FZ (B : Nat) (v : World) (N : Nat) (L : Tr.Row) (va vh : Value) (Aa : Option Addr) (ca : Nat) (Ah : Option Addr) (ch : Nat) : Prop where
  ea : va = .slice Aa L.length ca
  eh : vh = .slice Ah L.length ch
  at_ : ∀ W, Below v.heap.size v W → RI encPf 2 W Aa L.length (L.map (·.1))
  have_ : ∀ (i : Nat) q ys, L[i]? = some (q, ys) → ∃ g A c, Ah = some ⟨g, 0, none⟩ ∧ ∀ W, Below v.heap.size v W → W.cell? ⟨g, i, none⟩ = some (.slice A ys.length c) ∧ JR W A ys.length ys
  ot : ∀ W, Below v.heap.size v W → OT B W N L
theorem PS.frozen {B N : Nat} {v : World} {L : Tr.Row} {va vh : Value} {F : Nat → Prop} {us : List Value} (h : PS B v N L (L.map (·.1)) (L.map (·.2)) va vh F us) : ∃ Aa ca Ah ch, FZ B v N L va vh Aa ca Ah ch := by
  have hrow := h.rowA
  rw [PF_flat] at hrow
  obtain ⟨Aa, ca, hva, hca, hRI⟩ := RI.of_own (enc := encPf) (fun _ => rfl) hrow
  rw [List.length_map] at hva hRI hca
  have hrowH := h.rowH
  rw [List.length_map] at hrowH
  have hot : ∀ W, Below v.heap.size v W → OT B W N L := fun W hW => ⟨F, h.tr.next hW, h.fb⟩
  rcases hrowH.2 with ⟨hv, hl0⟩ | ⟨gh, ch, cur, hv, hbase, hh, hnc, hcm, hsz, htk⟩
  · refine ⟨Aa, ca, none, 0, hva, by rw [hv, hl0], fun W hW => hRI.next hW, fun i q ys hi => ?_, hot⟩
    have := (List.getElem?_eq_some_iff.1 hi).1
    omega
  · refine ⟨Aa, ca, _, ch, hva, hv, fun W hW => hRI.next hW, fun i q ys hi => ?_, hot⟩
    have hil := (List.getElem?_eq_some_iff.1 hi).1
    obtain ⟨A, c, g1, g2, _⟩ := h.val i ys (by rw [List.getElem?_map, hi]; rfl)
    subst hv
    have hc : v.cell? ⟨gh, i, none⟩ = some (.slice A ys.length c) := by rw [hrowH.cellAt i (by omega)]; exact g1
    exact ⟨gh, A, c, rfl, fun W hW => ⟨(hW.cell (p := ⟨gh, i, none⟩) (Array.getElem?_eq_some_iff.1 hh).1).trans hc, g2.next hW⟩⟩
end Go.Proofs.Ytnnoigdedjbbmaa

