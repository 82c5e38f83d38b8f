/- Plain tries: rows of prefixes, each with what was put there, in the order in which they came. No program is imported. -/
import Derived.Test.YtnnoigdedjbbmaaKit
namespace Go.Proofs.Ytnnoigdedjbbmaa
namespace Tr
abbrev Pf := Int × Int
abbrev Row := List (Pf × List Int)
def get : Row → Pf → Option (List Int)
  | [], _ => none
  | (q, xs) :: r, p => if q = p then some xs else get r p
def put : Row → Pf → Int → Row
  | [], p, n => [(p, [n])]
  | (q, xs) :: r, p, n => if q = p then (q, xs ++ [n]) :: r else (q, xs) :: put r p n
def Apart (L : Row) : Prop := (L.map (·.1)).Nodup
theorem get_none {L : Row} {p : Pf} : get L p = none ↔ ∀ x ∈ L, x.1 ≠ p := by
  induction L with
  | nil => simp [get]
  | cons x r ih =>
    obtain ⟨q, xs⟩ := x
    unfold get
    by_cases h : q = p
    · simp [h]
    · rw [if_neg h, ih]; simp [h]
theorem get_at {L : Row} (ha : Apart L) {j : Nat} {p : Pf} {xs : List Int} (h : L[j]? = some (p, xs)) : get L p = some xs := by
  induction L generalizing j with
  | nil => simp at h
  | cons x r ih =>
    obtain ⟨q, ys⟩ := x
    unfold Apart at ha
    simp only [List.map_cons, List.nodup_cons] at ha
    cases j with
    | zero =>
      simp only [List.getElem?_cons_zero, Option.some.injEq, Prod.mk.injEq] at h
      obtain ⟨rfl, rfl⟩ := h
      simp [get]
    | succ j =>
      simp only [List.getElem?_cons_succ] at h
      have hne : q ≠ p := fun e => ha.1 (e ▸ List.mem_map.2 ⟨(p, xs), List.mem_of_getElem? h, rfl⟩)
      unfold get
      rw [if_neg hne]
      exact ih ha.2 h
theorem get_mem {L : Row} {p : Pf} {xs : List Int} (h : get L p = some xs) : ∃ j : Nat, L[j]? = some (p, xs) := by
  induction L with
  | nil => simp [get] at h
  | cons x r ih =>
    obtain ⟨q, ys⟩ := x
    unfold get at h
    split at h
    · rename_i e
      cases h
      exact ⟨0, by simp [e]⟩
    · obtain ⟨j, hj⟩ := ih h
      exact ⟨j + 1, by simpa using hj⟩
theorem put_new {L : Row} {p : Pf} (n : Int) (h : ∀ x ∈ L, x.1 ≠ p) : put L p n = L ++ [(p, [n])] := by
  induction L with
  | nil => rfl
  | cons x r ih =>
    obtain ⟨q, ys⟩ := x
    have h1 : q ≠ p := h (q, ys) (by simp)
    unfold put
    rw [if_neg h1, ih (fun x hx => h x (by simp [hx]))]
    rfl
theorem put_old {L : Row} (ha : Apart L) {p : Pf} (n : Int) {j : Nat} {xs : List Int} (h : L[j]? = some (p, xs)) : put L p n = L.set j (p, xs ++ [n]) := by
  induction L generalizing j with
  | nil => simp at h
  | cons x r ih =>
    obtain ⟨q, ys⟩ := x
    unfold Apart at ha
    simp only [List.map_cons, List.nodup_cons] at ha
    cases j with
    | zero =>
      simp only [List.getElem?_cons_zero, Option.some.injEq, Prod.mk.injEq] at h
      obtain ⟨rfl, rfl⟩ := h
      simp [put]
    | succ j =>
      simp only [List.getElem?_cons_succ] at h
      have hne : q ≠ p := fun e => ha.1 (e ▸ List.mem_map.2 ⟨(p, xs), List.mem_of_getElem? h, rfl⟩)
      unfold put
      rw [if_neg hne, ih ha.2 h]
      rfl
theorem get_put (L : Row) (p q : Pf) (n : Int) : get (put L p n) q = if p = q then some ((get L p).getD [] ++ [n]) else get L q := by
  induction L with
  | nil => by_cases h : p = q <;> simp [put, get, h]
  | cons x r ih =>
    obtain ⟨s, ys⟩ := x
    unfold put
    by_cases h : s = p
    · subst h
      rw [if_pos rfl]
      by_cases h2 : s = q
      · simp [get, h2]
      · simp [get, h2]
    · rw [if_neg h]
      by_cases h2 : s = q
      · have h3 : p ≠ q := fun e => h (h2.trans e.symm)
        simp [get, h2, h3]
      · simp only [get, h2, h, if_false, ih]
theorem put_apart {L : Row} (ha : Apart L) (p : Pf) (n : Int) : Apart (put L p n) := by
  cases hg : get L p with
  | none =>
    rw [put_new n (get_none.1 hg)]
    unfold Apart at ha ⊢
    rw [List.map_append, List.nodup_append]
    refine ⟨ha, by simp, fun a h b hb => ?_⟩
    simp only [List.map_cons, List.map_nil, List.mem_singleton] at hb
    subst hb
    obtain ⟨x, hx, rfl⟩ := List.mem_map.1 h
    exact get_none.1 hg x hx
  | some xs =>
    obtain ⟨j, hj⟩ := get_mem hg
    rw [put_old ha n hj]
    unfold Apart at ha ⊢
    have e : (L.set j (p, xs ++ [n])).map (·.1) = L.map (·.1) := by
      rw [List.map_set]
      apply List.ext_getElem?
      intro i
      rw [List.getElem?_set]
      split
      · rename_i h; subst h
        split
        · simp [hj]
        · rename_i h; simp at h; rw [List.getElem?_eq_none (by simpa using h)]
      · rfl
    rw [e]
    exact ha
theorem put_len (L : Row) (p : Pf) (n : Int) : (put L p n).length = if (get L p).isSome then L.length else L.length + 1 := by
  induction L with
  | nil => simp [put, get]
  | cons x r ih =>
    obtain ⟨s, ys⟩ := x
    unfold put get
    by_cases h : s = p
    · simp [h]
    · simp only [h, if_false, List.length_cons, ih]
      split <;> rfl
end Tr
end Go.Proofs.Ytnnoigdedjbbmaa

