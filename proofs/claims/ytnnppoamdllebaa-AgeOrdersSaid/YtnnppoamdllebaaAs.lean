/- A slice of addresses that reads as a list of numbers, nil let in; what the call owns reads so. No program is imported. -/
import Derived.Test.YtnnppoamdllebaaBy
import Derived.Test.YtnnppoamdllebaaMg
namespace Go.Proofs.Ytnnppoamdllebaa
open Go.RowKit Sm
def A32 (xs : List Int) : List Value := xs.map (Value.int .u32)
theorem A32_len (xs : List Int) : (A32 xs).length = xs.length := by simp [A32]
theorem A32_app (xs ys : List Int) : A32 (xs ++ ys) = A32 xs ++ A32 ys := by simp [A32]
theorem A32_set (xs : List Int) (i : Nat) (v : Int) : A32 (xs.set i v) = (A32 xs).set i (.int .u32 v) := by simp [A32, List.map_set]
theorem A32_one (xs : List Int) : ∀ u ∈ A32 xs, u.oneCell' = true := by
  intro u hu; obtain ⟨x, _, rfl⟩ := List.mem_map.1 hu; rfl
theorem A32_at {xs : List Int} {i : Nat} (h : i < xs.length) : (A32 xs)[i]? = some (.int .u32 (xs.getD i 0)) := by
  simp [A32, List.getD, List.getElem?_eq_getElem h]
def AR (w : World) (A : Option Addr) (n : Nat) (xs : List Int) : Prop :=
  xs.length = n ∧ IsAs xs ∧ (0 < n → ∃ b o, A = some ⟨b, o, none⟩ ∧ b < w.heap.size ∧ ∀ i, i < n → w.cell? ⟨b, o + i, none⟩ = some (.int .u32 (xs.getD i 0)))
section
variable {w w' : World} {A : Option Addr} {n : Nat} {xs : List Int}
theorem AR.none_ (w : World) (A : Option Addr) : AR w A 0 [] := ⟨rfl, (fun _ h => by cases h), fun h => absurd h (by omega)⟩
theorem AR.len (h : AR w A n xs) : xs.length = n := h.1
theorem AR.isAs (h : AR w A n xs) : IsAs xs := h.2.1
theorem AR.next (h : AR w A n xs) (hb : Below w.heap.size w w') : AR w' A n xs :=
  ⟨h.1, h.2.1, fun hn => by
    obtain ⟨b, o, e, hlt, hc⟩ := h.2.2 hn
    exact ⟨b, o, e, Nat.lt_of_lt_of_le hlt hb.size, fun i hi => (hb.cell (p := ⟨b, o + i, none⟩) hlt).trans (hc i hi)⟩⟩
theorem AR.at_ {k : Nat} (h : AR w A n xs) (hk : k < n) : ∃ b o, A = some ⟨b, o, none⟩ ∧ b < w.heap.size ∧ w.cell? ⟨b, o + k, none⟩ = some (.int .u32 (xs.getD k 0)) := by
  obtain ⟨b, o, e, hlt, hc⟩ := h.2.2 (by omega)
  exact ⟨b, o, e, hlt, hc k hk⟩
/-- Owned by the call: the slice's form, and what it reads as. -/
theorem own_forma {base : Nat} {e : TypeId} {v : Value} (h : w.ownsRow base e 1 v n (A32 xs)) (hb : IsAs xs) :
    ∃ A c, v = .slice A n c ∧ n ≤ c ∧ AR w A n xs ∧ (0 < n → ∃ g, A = some ⟨g, 0, none⟩ ∧ base ≤ g ∧ g < w.heap.size) := by
  have hl : xs.length = n := by have := h.1; rw [A32_len] at this; omega
  have h0 := h
  rcases h.2 with ⟨rfl, rfl⟩ | ⟨g, cap, cur, rfl, hbg, hh, hnc, _⟩
  · obtain rfl : xs = [] := List.eq_nil_of_length_eq_zero hl
    exact ⟨none, 0, rfl, Nat.le_refl _, AR.none_ _ _, fun h => absurd h (by omega)⟩
  · have hlt : g < w.heap.size := (Array.getElem?_eq_some_iff.1 hh).1
    refine ⟨_, cap, rfl, hnc, ⟨hl, hb, fun _ => ⟨g, 0, rfl, hlt, fun i hi => ?_⟩⟩, fun _ => ⟨g, rfl, hbg, hlt⟩⟩
    rw [Nat.zero_add, h0.cellAt i (by omega)]
    exact A32_at (by omega)
/-- A store into what the call owns: what it owns behind it. -/
theorem own_seta {base : Nat} {e : TypeId} {g cap : Nat} (h : w.ownsRow base e 1 (.slice (some ⟨g, 0, none⟩) n cap) n (A32 xs)) (i : Nat) (v : Int) :
    (w.setCell ⟨g, i, none⟩ (.int .u32 v)).ownsRow base e 1 (.slice (some ⟨g, 0, none⟩) n cap) n (A32 (xs.set i v)) := by
  rw [A32_set]
  exact (h.stored i (.int .u32 v)).1
end
end Go.Proofs.Ytnnppoamdllebaa

