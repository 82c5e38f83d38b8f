/- Plain tries: things put in one order or in another; what stands where. No program is imported. -/
import Derived.Test.YtnnoigdedjbbmaaTg
import Derived.Test.YtnnoigdedjbbmaaTd
import Derived.Test.YtnnoigdedjbbmaaKr
namespace Go.Proofs.Ytnnoigdedjbbmaa
open Go.RowKit
namespace Tr
def pf (d : Do) : Pf := (d.1, d.2.1)
def fold (ds : List Do) : Row := ds.foldl (fun L d => putv L (pf d) d.2.2) []
theorem fold_snoc (ds : List Do) (d : Do) : fold (ds ++ [d]) = putv (fold ds) (pf d) d.2.2 := by simp [fold]
theorem few_fold (ds : List Do) : Few ds.length (fold ds) := by
  obtain ⟨n, hn⟩ : ∃ n, ds.length = n := ⟨_, rfl⟩
  induction n generalizing ds with
  | zero => obtain rfl := List.eq_nil_of_length_eq_zero hn; exact few_nil
  | succ n ih =>
    have hne : ds ≠ [] := by intro e; simp [e] at hn
    rw [← List.dropLast_concat_getLast hne, fold_snoc]
    have := few_put (ih ds.dropLast (by simp; omega)) (pf (ds.getLast hne)) (ds.getLast hne).2.2
    simpa using this
theorem apart_fold (ds : List Do) : Apart (fold ds) := by
  obtain ⟨n, hn⟩ : ∃ n, ds.length = n := ⟨_, rfl⟩
  induction n generalizing ds with
  | zero => obtain rfl := List.eq_nil_of_length_eq_zero hn; exact List.nodup_nil
  | succ n ih =>
    have hne : ds ≠ [] := by intro e; simp [e] at hn
    rw [← List.dropLast_concat_getLast hne, fold_snoc]
    unfold putv
    split
    · exact put_apart (ih _ (by simp; omega)) _ _
    · exact ih _ (by simp; omega)
theorem get_fold (ds : List Do) (hu : (ds.map pf).Nodup) (p : Pf) (ys : List Int) : get (fold ds) p = some ys ↔ ∃ d ∈ ds, pf d = p ∧ Ad.valid p.1 p.2 = true ∧ ys = [d.2.2] := by
  obtain ⟨n, hn⟩ : ∃ n, ds.length = n := ⟨_, rfl⟩
  induction n generalizing ds p ys with
  | zero => obtain rfl := List.eq_nil_of_length_eq_zero hn; simp [fold, get]
  | succ n ih =>
    have hne : ds ≠ [] := by intro e; simp [e] at hn
    have hd := List.dropLast_concat_getLast hne
    generalize ds.getLast hne = d at hd
    generalize ds.dropLast = es at hd
    subst hd
    rw [List.map_append, List.nodup_append] at hu
    obtain ⟨h1, _, h3⟩ := hu
    have hnew : ∀ e ∈ es, pf e ≠ pf d := fun e he => h3 (pf e) (List.mem_map.2 ⟨e, he, rfl⟩) (pf d) (by simp)
    have hes := fun p ys => ih es h1 p ys (by simp at hn; omega)
    have hgn : get (fold es) (pf d) = none := by
      cases hg : get (fold es) (pf d) with
      | none => rfl
      | some ys =>
        obtain ⟨e, he, h, _⟩ := (hes _ _).1 hg
        exact absurd h (hnew e he)
    rw [fold_snoc]
    unfold putv
    by_cases hv : Ad.valid (pf d).1 (pf d).2 = true
    · rw [if_pos hv, get_put]
      by_cases hp : pf d = p
      · subst hp
        rw [if_pos rfl, hgn]
        simp only [Option.getD_none, List.nil_append, Option.some.injEq]
        constructor
        · rintro rfl
          exact ⟨d, by simp, rfl, hv, rfl⟩
        · rintro ⟨e, he, h, _, rfl⟩
          rw [List.mem_append, List.mem_singleton] at he
          rcases he with he | rfl
          · exact absurd h (hnew e he)
          · rfl
      · rw [if_neg hp, hes]
        constructor
        · rintro ⟨e, he, h⟩
          exact ⟨e, by simp [he], h⟩
        · rintro ⟨e, he, h⟩
          rw [List.mem_append, List.mem_singleton] at he
          rcases he with he | rfl
          · exact ⟨e, he, h⟩
          · exact absurd h.1 hp
    · rw [if_neg hv, hes]
      constructor
      · rintro ⟨e, he, h⟩
        exact ⟨e, by simp [he], h⟩
      · rintro ⟨e, he, h⟩
        rw [List.mem_append, List.mem_singleton] at he
        rcases he with he | rfl
        · exact ⟨e, he, h⟩
        · exact absurd (by rw [h.1]; exact h.2.1) hv
theorem get_same {ds es : List Do} (hd : (ds.map pf).Nodup) (he : (es.map pf).Nodup) (hm : ∀ d, d ∈ ds ↔ d ∈ es) (p : Pf) : get (fold ds) p = get (fold es) p := by
  apply Option.ext
  intro ys
  rw [get_fold ds hd, get_fold es he]
  constructor
  · rintro ⟨d, h, h2⟩; exact ⟨d, (hm d).1 h, h2⟩
  · rintro ⟨d, h, h2⟩; exact ⟨d, (hm d).2 h, h2⟩
theorem look_same {L M : Row} (h : ∀ p, get L p = get M p) (a : Int) : look L a = look M a := by
  unfold look
  have : ∀ m, lk L a m = lk M a m := by
    intro m
    induction m with
    | zero => rfl
    | succ m ih => simp only [lk, h, ih]
  exact this 33
theorem mem_keys {L : Row} {p : Pf} : p ∈ L.map (·.1) ↔ ∃ ys, get L p = some ys := by
  constructor
  · intro h
    cases hg : get L p with
    | some ys => exact ⟨ys, rfl⟩
    | none =>
      obtain ⟨x, hx, e⟩ := List.mem_map.1 h
      exact absurd e (get_none.1 hg x hx)
  · rintro ⟨ys, h⟩
    obtain ⟨j, hj⟩ := get_mem h
    exact List.mem_map.2 ⟨_, List.mem_of_getElem? hj, rfl⟩
theorem keys_perm {L M : Row} (hL : Apart L) (hM : Apart M) (h : ∀ p, get L p = get M p) : (L.map (·.1)).Perm (M.map (·.1)) :=
  (List.perm_ext_iff_of_nodup hL hM).2 fun p => by rw [mem_keys, mem_keys, h]
theorem len_same {L M : Row} (hL : Apart L) (hM : Apart M) (h : ∀ p, get L p = get M p) : L.length = M.length := by
  have := (keys_perm hL hM h).length_eq
  simpa using this
theorem sorts_same {L M : Row} {ks ms : List Pf} (hL : Apart L) (hM : Apart M) (h : ∀ p, get L p = get M p) (h1 : Sorts L ks) (h2 : Sorts M ms) : ks = ms :=
  List.Perm.eq_of_pairwise (le := ltP) (fun a b _ _ h1 h2 => by unfold ltP at h1 h2; omega) h1.2 h2.2 ((h1.1.trans (keys_perm hL hM h)).trans h2.1.symm)
/-- things in another order: from place k on, and then from the beginning -/
def rot (xs : List Do) (k : Nat) : List Do := (List.range xs.length).map fun i => xs.getD (if i + k < xs.length then i + k else i + k - xs.length) (0, 0, 0)
theorem rot_len (xs : List Do) (k : Nat) : (rot xs k).length = xs.length := by simp [rot]
theorem rot_at (xs : List Do) (k i : Nat) (hi : i < xs.length) : (rot xs k)[i]? = some (xs.getD (if i + k < xs.length then i + k else i + k - xs.length) (0, 0, 0)) := by
  unfold rot; rw [List.getElem?_map, List.getElem?_range hi]; rfl
theorem rot_mem (xs : List Do) (k : Nat) (hk : k ≤ xs.length) (d : Do) : d ∈ xs ↔ d ∈ rot xs k := by
  constructor
  · intro h
    obtain ⟨m, hm⟩ := List.getElem?_of_mem h
    have hlt := (List.getElem?_eq_some_iff.1 hm).1
    have hg : ∀ j, j < xs.length → j = m → xs.getD j (0, 0, 0) = d := fun j hj e => by subst e; rw [List.getD_eq_getElem?_getD, hm]; rfl
    by_cases hmk : k ≤ m
    · refine List.mem_of_getElem? (i := m - k) ?_
      rw [rot_at xs k (m - k) (by omega), hg _ (by split <;> omega) (by split <;> omega)]
    · refine List.mem_of_getElem? (i := m + xs.length - k) ?_
      rw [rot_at xs k (m + xs.length - k) (by omega), hg _ (by split <;> omega) (by split <;> omega)]
  · intro h
    obtain ⟨i, hi⟩ := List.getElem?_of_mem h
    have hlt : i < xs.length := by have := (List.getElem?_eq_some_iff.1 hi).1; rwa [rot_len] at this
    rw [rot_at xs k i hlt] at hi
    cases hi
    have hj : (if i + k < xs.length then i + k else i + k - xs.length) < xs.length := by split <;> omega
    rw [List.getD_eq_getElem?_getD, List.getElem?_eq_getElem hj]
    exact List.getElem_mem _
theorem rot_apart (xs : List Do) (k : Nat) (hk : k ≤ xs.length) (hu : (xs.map pf).Nodup) : ((rot xs k).map pf).Nodup := by
  have hinj : ∀ i j, i < xs.length → j < xs.length → pf (xs.getD i (0, 0, 0)) = pf (xs.getD j (0, 0, 0)) → i = j := fun i j hi hj e => by
    have e1 : (xs.map pf)[i]? = (xs.map pf)[j]? := by
      rw [List.getElem?_map, List.getElem?_map, List.getElem?_eq_getElem hi, List.getElem?_eq_getElem hj]
      rw [List.getD_eq_getElem?_getD, List.getD_eq_getElem?_getD, List.getElem?_eq_getElem hi, List.getElem?_eq_getElem hj] at e
      simpa using e
    exact (List.getElem?_inj (by simpa using hi) hu).1 e1
  rw [rot, List.map_map]
  unfold List.Nodup
  rw [List.pairwise_map]
  refine (List.nodup_range (n := xs.length)).imp_of_mem fun {a b} ha hb hne e => hne ?_
  have ha' : a < xs.length := by simpa using ha
  have hb' : b < xs.length := by simpa using hb
  have := hinj _ _ (by split <;> omega) (by split <;> omega) e
  split at this <;> split at this <;> omega
theorem take_snoc {α : Type} {xs : List α} {i : Nat} {x : α} (h : xs[i]? = some x) : xs.take (i + 1) = xs.take i ++ [x] := by
  rw [List.take_add_one, h]; rfl
end Tr
theorem fold_take {xs : List Do} {i : Nat} {d : Do} (h : xs[i]? = some d) : Tr.fold (xs.take (i + 1)) = Tr.putv (Tr.fold (xs.take i)) (Tr.pf d) d.2.2 := by
  rw [Tr.take_snoc h, Tr.fold_snoc]
theorem fold_short (xs : List Do) (hn : xs.length ≤ 60) (i : Nat) : (Tr.fold (xs.take i)).length ≤ 1000000 ∧ ∀ p, ((Tr.get (Tr.fold (xs.take i)) p).getD []).length ≤ 1000000 := by
  have h := Tr.few_fold (xs.take i)
  have hl : (xs.take i).length ≤ 60 := by rw [List.length_take]; omega
  exact ⟨by have := h.1; omega, fun p => by have := h.2.1 p; omega⟩
end Go.Proofs.Ytnnoigdedjbbmaa

