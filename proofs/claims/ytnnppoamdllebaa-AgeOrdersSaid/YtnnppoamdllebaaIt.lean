/- Rows of items, each of k cells, as they lie in memory; as an argument, opened. No program is imported. -/
import Derived.Test.YtnnppoamdllebaaKit
import Derived.ProofKit
import Derived.OpenShut
import Derived.Deep.Slices
import Derived.ChangeSame
namespace Go.Proofs.Ytnnppoamdllebaa
open Go.ChangeShapes Go.WideShapes Go.ChangeAt Go.RowKit
theorem list_of {α : Type} {P : Nat → α → Prop} : ∀ n, (∀ i, i < n → ∃ x, P i x) → ∃ xs : List α, xs.length = n ∧ ∀ (i : Nat) x, xs[i]? = some x → P i x
  | 0, _ => ⟨[], rfl, fun i x h => by simp at h⟩
  | n + 1, h => by
    obtain ⟨xs, hl, hx⟩ := list_of n (fun i hi => h i (by omega))
    obtain ⟨x, hp⟩ := h n (by omega)
    refine ⟨xs ++ [x], by simp [hl], fun i y hy => ?_⟩
    rcases Nat.lt_or_ge i n with hi | hi
    · rw [List.getElem?_append_left (by omega)] at hy
      exact hx i y hy
    · rw [List.getElem?_append_right (by omega)] at hy
      have h0 : i - xs.length = 0 := by
        have := (List.getElem?_eq_some_iff.1 hy).1
        simp at this
        omega
      rw [h0] at hy
      simp at hy
      subst hy
      obtain rfl : i = n := by omega
      exact hp
/-- a slice of items, each of k cells, nil let in -/
def RI {α : Type} (enc : α → List Value) (k : Nat) (w : World) (A : Option Addr) (n : Nat) (xs : List α) : Prop :=
  xs.length = n ∧ (0 < n → ∃ b o, A = some ⟨b, o, none⟩ ∧ b < w.heap.size ∧ ∀ i x, xs[i]? = some x → ∀ j v, (enc x)[j]? = some v → w.cell? ⟨b, o + i * k + j, none⟩ = some v)
section
variable {α : Type} {enc : α → List Value} {k : Nat} {w w' : World} {A : Option Addr} {n : Nat} {xs : List α}
theorem RI.none_ (enc : α → List Value) (k : Nat) (w : World) (A : Option Addr) : RI enc k w A 0 [] := ⟨rfl, fun h => absurd h (by omega)⟩
theorem RI.len (h : RI enc k w A n xs) : xs.length = n := h.1
theorem RI.next (h : RI enc k w A n xs) (hb : Below w.heap.size w w') : RI enc k w' A n xs :=
  ⟨h.1, fun hn => by
    obtain ⟨b, o, e, hlt, hc⟩ := h.2 hn
    exact ⟨b, o, e, Nat.lt_of_lt_of_le hlt hb.size, fun i x hx j v hv => (hb.cell (p := ⟨b, o + i * k + j, none⟩) hlt).trans (hc i x hx j v hv)⟩⟩
theorem RI.at_ {i : Nat} (h : RI enc k w A n xs) (hk : i < n) : ∃ b o x, A = some ⟨b, o, none⟩ ∧ b < w.heap.size ∧ xs[i]? = some x ∧ ∀ j v, (enc x)[j]? = some v → w.cell? ⟨b, o + i * k + j, none⟩ = some v := by
  obtain ⟨b, o, e, hlt, hc⟩ := h.2 (by omega)
  have hx : xs[i]? = some (xs[i]'(by have := h.1; omega)) := List.getElem?_eq_getElem _
  exact ⟨b, o, _, e, hlt, hx, hc i _ hx⟩
theorem RI.take (h : RI enc k w A n xs) {i : Nat} (hi : i ≤ n) : RI enc k w A i (xs.take i) := by
  refine ⟨by rw [List.length_take]; have := h.1; omega, fun hp => ?_⟩
  obtain ⟨b, o, e, hlt, hc⟩ := h.2 (by omega)
  refine ⟨b, o, e, hlt, fun j x hx => hc j x ?_⟩
  rw [List.getElem?_take] at hx
  split at hx
  · exact hx
  · cases hx
/-- .. that the call owns -/
theorem RI.of_own {base : Nat} {e : TypeId} {v : Value} (hk : ∀ x, (enc x).length = k) (h : w.ownsRow base e k v xs.length (xs.flatMap enc)) : ∃ A c, v = .slice A xs.length c ∧ xs.length ≤ c ∧ RI enc k w A xs.length xs := by
  rcases h.2 with ⟨rfl, hl⟩ | ⟨g, cap, cur, rfl, _, hh, hnc, _, hsz, ht⟩
  · exact ⟨none, 0, by rw [hl], by omega, rfl, fun hn => by omega⟩
  · refine ⟨_, cap, rfl, hnc, rfl, fun _ => ⟨g, 0, rfl, (Array.getElem?_eq_some_iff.1 hh).1, fun i x hx j v hv => ?_⟩⟩
    have hat : ∀ (ys : List α) (i : Nat) (x : α), ys[i]? = some x → (ys.flatMap enc)[i * k + j]? = some v ∨ (enc x)[j]? ≠ some v := by
      intro ys
      induction ys with
      | nil => intro i x h; simp at h
      | cons y ys ih =>
        intro i x h
        by_cases hne : (enc x)[j]? = some v
        · left
          rw [List.flatMap_cons]
          cases i with
          | zero =>
            simp only [List.getElem?_cons_zero, Option.some.injEq] at h
            subst h
            rw [Nat.zero_mul, Nat.zero_add, List.getElem?_append_left (List.getElem?_eq_some_iff.1 hne).1]
            exact hne
          | succ i =>
            simp only [List.getElem?_cons_succ] at h
            rw [List.getElem?_append_right (by rw [hk, Nat.succ_mul]; omega), hk, show (i + 1) * k + j - k = i * k + j by rw [Nat.succ_mul]; omega]
            exact (ih i x h).resolve_right (fun hn => hn hne)
        · exact .inr hne
    have hc := (hat xs i x hx).resolve_right (fun hn => hn hv)
    rw [Nat.zero_add, cell_of_row w g (i * k + j) cur e (0, 0) hh]
    rw [← ht, List.getElem?_take] at hc
    split at hc
    · simpa using hc
    · cases hc
end
/-- an argument that is such a slice, opened, its items by what opens one -/
theorem open_items {α H : Type} {enc : TypeId × Value → H} {P : Program} {W : World} {t e : TypeId} {k : Nat} (cs : α → List Value) (wf : α → Prop) (ht : P.underlying t = some (.slice e)) (hC : P.cellsOf e = k) (hk : 0 < k)
    (hopen : ∀ n l y, l.length = k → DataW.trod enc P W 0 (fun _ => true) true n e l = some y → ∃ x : α, l = cs x ∧ wf x) {a0 : Option Addr} {len cap : Nat} {d0 : DataW H} {p : List MemPlace}
    (h0 : DataW.Trod enc P W 0 (fun _ => true) true t (.slice a0 len cap) d0 p) : ∃ xs : List α, RI cs k W a0 len xs ∧ (∀ x ∈ xs, wf x) ∧ len ≤ cap := by
  obtain ⟨fuel, hf⟩ := h0
  rcases Deep.open_slice ht hf with ⟨hcs, hx⟩ | ⟨a, len', cap', m, n, D, Pl, hcs, _, hl, hm, hz, hx, hi⟩
  · simp [Value.cells] at hcs
    obtain ⟨rfl, rfl, rfl⟩ := hcs
    exact ⟨[], RI.none_ _ _ _ _, fun _ h => (by cases h), Nat.le_refl _⟩
  · simp [Value.cells] at hcs
    obtain ⟨rfl, rfl, rfl⟩ := hcs
    simp only [if_true] at hz
    subst hz
    rw [hC] at hi
    obtain ⟨xs, hxl, hxs⟩ := list_of (P := fun i (x : α) => wf x ∧ ∀ j v, (cs x)[j]? = some v → W.cell? (a.add (i * k + j)) = some v) len (fun i hil => by
      obtain ⟨l, hc, htr⟩ := hi i (by omega)
      obtain ⟨_, hcl, hat⟩ := World.cells?_some hc
      obtain ⟨x, rfl, hw⟩ := hopen n l _ hcl htr
      refine ⟨x, hw, fun j v hv => ?_⟩
      have hj : j < k := by have := (List.getElem?_eq_some_iff.1 hv).1; omega
      have := hat j hj
      rw [hv] at this
      rw [← Go.Deep.add_add]
      exact this)
    refine ⟨xs, ⟨hxl, fun hn => ?_⟩, fun x hx => ?_, hl⟩
    · obtain ⟨x, hx⟩ : ∃ x, xs[0]? = some x := ⟨xs[0]'(by omega), List.getElem?_eq_getElem _⟩
      obtain ⟨l, hc, htr⟩ := hi 0 (by omega)
      obtain ⟨_, hcl, hat⟩ := World.cells?_some hc
      have h0 := hat 0 hk
      rw [List.getElem?_eq_getElem (by omega)] at h0
      obtain ⟨b, o, s⟩ := a
      obtain rfl : s = none := by simpa [Addr.add] using World.cell?_spot h0
      refine ⟨b, o, rfl, ?_, fun i x hx j v hv => ?_⟩
      · have := World.block_lt_of_cell? _ _ h0
        simpa [add_plain] using this
      · have := (hxs i x hx).2 j v hv
        rw [add_plain] at this
        rw [Nat.add_assoc]
        exact this
    · obtain ⟨i, hi⟩ := List.getElem?_of_mem hx
      exact (hxs i x hi).1
end Go.Proofs.Ytnnppoamdllebaa

