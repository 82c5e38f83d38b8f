/- A slice of bytes that reads as a list of numbers, nil let in; what the call owns reads so. No program is imported. -/
import Derived.Test.YtnnppoamdllebaaKit
import Derived.Test.YtnnppoamdllebaaSm
import Derived.Maps.AppendAt
import Derived.Deep.AppendLies
import Derived.OwnWalk
namespace Go.Proofs.Ytnnppoamdllebaa
open Go.RowKit Sm
def B8 (xs : List Int) : List Value := xs.map (Value.int .u8)
theorem B8_len (xs : List Int) : (B8 xs).length = xs.length := by simp [B8]
theorem B8_app (xs ys : List Int) : B8 (xs ++ ys) = B8 xs ++ B8 ys := by simp [B8]
theorem B8_set (xs : List Int) (i : Nat) (v : Int) : B8 (xs.set i v) = (B8 xs).set i (.int .u8 v) := by simp [B8, List.map_set]
theorem B8_one (xs : List Int) : ∀ u ∈ B8 xs, u.oneCell' = true := by
  intro u hu; obtain ⟨x, _, rfl⟩ := List.mem_map.1 hu; rfl
theorem B8_at {xs : List Int} {i : Nat} (h : i < xs.length) : (B8 xs)[i]? = some (.int .u8 (xs.getD i 0)) := by
  simp [B8, List.getD, List.getElem?_eq_getElem h]
def BR (w : World) (A : Option Addr) (n : Nat) (xs : List Int) : Prop :=
  xs.length = n ∧ IsB xs ∧ (0 < n → ∃ b o, A = some ⟨b, o, none⟩ ∧ b < w.heap.size ∧ ∀ i, i < n → w.cell? ⟨b, o + i, none⟩ = some (.int .u8 (xs.getD i 0)))
section
variable {w w' : World} {A : Option Addr} {n : Nat} {xs : List Int}
theorem BR.none_ (w : World) (A : Option Addr) : BR w A 0 [] := ⟨rfl, (fun _ h => by cases h), fun h => absurd h (by omega)⟩
theorem BR.len (h : BR w A n xs) : xs.length = n := h.1
theorem BR.isB (h : BR w A n xs) : IsB xs := h.2.1
theorem BR.next (h : BR w A n xs) (hb : Below w.heap.size w w') : BR w' A n xs :=
  ⟨h.1, h.2.1, fun hn => by
    obtain ⟨b, o, e, hlt, hc⟩ := h.2.2 hn
    exact ⟨b, o, e, Nat.lt_of_lt_of_le hlt hb.size, fun i hi => (hb.cell (p := ⟨b, o + i, none⟩) hlt).trans (hc i hi)⟩⟩
theorem BR.at_ {k : Nat} (h : BR w A n xs) (hk : k < n) : ∃ b o, A = some ⟨b, o, none⟩ ∧ b < w.heap.size ∧ w.cell? ⟨b, o + k, none⟩ = some (.int .u8 (xs.getD k 0)) := by
  obtain ⟨b, o, e, hlt, hc⟩ := h.2.2 (by omega)
  exact ⟨b, o, e, hlt, hc k hk⟩
/-- Owned by the call: the slice's form, and what it reads as. -/
theorem own_form {base : Nat} {e : TypeId} {v : Value} (h : w.ownsRow base e 1 v n (B8 xs)) (hb : IsB xs) :
    ∃ A c, v = .slice A n c ∧ n ≤ c ∧ BR w A n xs ∧ (0 < n → ∃ g, A = some ⟨g, 0, none⟩ ∧ base ≤ g ∧ g < w.heap.size) := by
  have hl : xs.length = n := by have := h.1; rw [B8_len] at this; omega
  have h0 := h
  rcases h.2 with ⟨rfl, rfl⟩ | ⟨g, cap, cur, rfl, hbg, hh, hnc, _⟩
  · obtain rfl : xs = [] := List.eq_nil_of_length_eq_zero hl
    exact ⟨none, 0, rfl, Nat.le_refl _, BR.none_ _ _, fun h => absurd h (by omega)⟩
  · have hlt : g < w.heap.size := (Array.getElem?_eq_some_iff.1 hh).1
    refine ⟨_, cap, rfl, hnc, ⟨hl, hb, fun _ => ⟨g, 0, rfl, hlt, fun i hi => ?_⟩⟩, fun _ => ⟨g, rfl, hbg, hlt⟩⟩
    rw [Nat.zero_add, h0.cellAt i (by omega)]
    exact B8_at (by omega)
theorem own_next {base : Nat} {e : TypeId} {v : Value} {ys : List Value} (h : w.ownsRow base e 1 v n ys) (hb : Below w.heap.size w w') : w'.ownsRow base e 1 v n ys := by
  refine ⟨h.1, ?_⟩
  rcases h.2 with hn | ⟨g, cap, cur, rfl, hbg, hh, rest⟩
  · exact .inl hn
  · exact .inr ⟨g, cap, cur, rfl, hbg, (hb.block g (Array.getElem?_eq_some_iff.1 hh).1).trans hh, rest⟩
theorem own_up {base base' : Nat} {e : TypeId} {v : Value} {ys : List Value} (h : w.ownsRow base' e 1 v n ys) (hb : base ≤ base') : w.ownsRow base e 1 v n ys := by
  refine ⟨h.1, ?_⟩
  rcases h.2 with hn | ⟨g, cap, cur, rfl, hbg, hh, rest⟩
  · exact .inl hn
  · exact .inr ⟨g, cap, cur, rfl, Nat.le_trans hb hbg, hh, rest⟩
/-- A store into what the call owns: what it owns behind it. -/
theorem own_set {base : Nat} {e : TypeId} {g cap : Nat} (h : w.ownsRow base e 1 (.slice (some ⟨g, 0, none⟩) n cap) n (B8 xs)) (i : Nat) (v : Int) :
    (w.setCell ⟨g, i, none⟩ (.int .u8 v)).ownsRow base e 1 (.slice (some ⟨g, 0, none⟩) n cap) n (B8 (xs.set i v)) := by
  rw [B8_set]
  exact (h.stored i (.int .u8 v)).1
theorem below_next {w1 w2 : World} (h : Below w.heap.size w w1) (g : Below w1.heap.size w1 w2) : Below w.heap.size w w2 := h.trans (g.mono h.size)
theorem below_store {B g i : Nat} (h : Below B w w') (hg : B ≤ g) (u : Value) : Below B w (w'.setCell ⟨g, i, none⟩ u) := h.setCell (by simpa using hg) u
end
end Go.Proofs.Ytnnppoamdllebaa

