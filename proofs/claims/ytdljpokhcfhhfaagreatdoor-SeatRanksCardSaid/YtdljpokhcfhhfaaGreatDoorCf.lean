/- Rows of items in memory, and what a search over them, or the first error of them, comes to. No program is imported. The items of a network as plain data, their values and their cells. No program is imported. The errors that a network's checks can tell: where they lie; the error of a number. Condition: each of the seven lies in its variable, a pointer. -/
import Derived.Test.YtdljpokhcfhhfaaGreatDoorAs
import Derived.Test.YtdljpokhcfhhfaaGreatDoorStr
import Derived.Test.YtdljpokhcfhhfaaGreatDoorKit
import Derived.Below
namespace Go.Proofs.YtdljpokhcfhhfaaGreatDoor
open Go.RowKit Lx
/-- a slice of items, each of k cells, nil let in -/
def IR {α : Type} (enc : α → List Value) (k : Nat) (w : World) (A : Option Addr) (n : Nat) (xs : List α) : Prop :=
  xs.length = n ∧ (0 < n → ∃ b o, A = some ⟨b, o, none⟩ ∧ b < w.heap.size ∧ ∀ i x, xs[i]? = some x → ∀ j v, (enc x)[j]? = some v → w.cell? ⟨b, o + i * k + j, none⟩ = some v)
section
variable {α : Type} {enc : α → List Value} {k : Nat} {w w' : World} {A : Option Addr} {n : Nat} {xs : List α}
theorem IR.none_ (enc : α → List Value) (k : Nat) (w : World) (A : Option Addr) : IR enc k w A 0 [] := ⟨rfl, fun h => absurd h (by omega)⟩
theorem IR.len (h : IR enc k w A n xs) : xs.length = n := h.1
theorem IR.next (h : IR enc k w A n xs) (hb : Below w.heap.size w w') : IR enc k w' A n xs :=
  ⟨h.1, fun hn => by
    obtain ⟨b, o, e, hlt, hc⟩ := h.2 hn
    exact ⟨b, o, e, Nat.lt_of_lt_of_le hlt hb.size, fun i x hx j v hv => (hb.cell (p := ⟨b, o + i * k + j, none⟩) hlt).trans (hc i x hx j v hv)⟩⟩
theorem IR.at_ {i : Nat} (h : IR enc k w A n xs) (hk : i < n) : ∃ b o x, A = some ⟨b, o, none⟩ ∧ b < w.heap.size ∧ xs[i]? = some x ∧ ∀ j v, (enc x)[j]? = some v → w.cell? ⟨b, o + i * k + j, none⟩ = some v := by
  obtain ⟨b, o, e, hlt, hc⟩ := h.2 (by omega)
  have hx : xs[i]? = some (xs[i]'(by have := h.1; omega)) := List.getElem?_eq_getElem _
  exact ⟨b, o, _, e, hlt, hx, hc i _ hx⟩
/-- the first of them -/
theorem IR.take (h : IR enc k w A n xs) {i : Nat} (hi : i ≤ n) : IR enc k w A i (xs.take i) := by
  refine ⟨by rw [List.length_take]; have := h.1; omega, fun hp => ?_⟩
  obtain ⟨b, o, e, hlt, hc⟩ := h.2 (by omega)
  refine ⟨b, o, e, hlt, fun j x hx => hc j x ?_⟩
  rw [List.getElem?_take] at hx
  split at hx
  · exact hx
  · cases hx
end
/-- the first place at which something holds; -1: none -/
def idxI {α : Type} (p : α → Bool) : List α → Int
  | [] => -1
  | x :: xs => if p x then 0 else if idxI p xs < 0 then -1 else idxI p xs + 1
section
variable {α : Type} {p : α → Bool}
theorem idxI_lo : ∀ xs : List α, -1 ≤ idxI p xs
  | [] => by simp [idxI]
  | x :: xs => by
    have := idxI_lo xs
    unfold idxI
    split
    · omega
    · split <;> omega
theorem idxI_hi : ∀ xs : List α, idxI p xs < xs.length
  | [] => by simp [idxI]
  | x :: xs => by
    have := idxI_hi xs
    have := idxI_lo (p := p) xs
    unfold idxI
    simp only [List.length_cons]
    split
    · omega
    · split <;> omega
theorem idxI_cons (x : α) (xs : List α) : idxI p (x :: xs) = if p x = true then 0 else if idxI p xs < 0 then -1 else idxI p xs + 1 := rfl
theorem idxI_any : ∀ xs : List α, decide (0 ≤ idxI p xs) = xs.any p
  | [] => by simp [idxI]
  | x :: xs => by
    have h := idxI_any xs
    rw [List.any_cons, ← h, idxI_cons]
    generalize idxI p xs = m
    cases p x
    · rw [if_neg (by simp)]
      split
      · rename_i hm
        rw [Bool.eq_iff_iff]; simp; omega
      · rename_i hm
        rw [Bool.eq_iff_iff]; simp; omega
    · simp
theorem idxI_none : ∀ (xs : List α), (∀ (j : Nat) (x : α), xs[j]? = some x → p x = false) → idxI p xs = -1
  | [], _ => rfl
  | x :: xs, h => by
    unfold idxI
    rw [h 0 x rfl, idxI_none xs (fun j y hy => h (j + 1) y (by simpa using hy))]
    rfl
theorem idxI_hit : ∀ (xs : List α) (k : Nat) (x : α), xs[k]? = some x → p x = true → (∀ (j : Nat) (y : α), j < k → xs[j]? = some y → p y = false) → idxI p xs = k
  | [], k, x, h, _, _ => by simp at h
  | y :: ys, 0, x, h, hp, _ => by
    simp at h; subst h
    unfold idxI; rw [hp]; rfl
  | y :: ys, k + 1, x, h, hp, hn => by
    have h1 := idxI_hit ys k x (by simpa using h) hp (fun j z hj hz => hn (j + 1) z (by omega) (by simpa using hz))
    unfold idxI
    rw [hn 0 y (by omega) rfl, h1]
    simp; omega
end
/-- the code of the first item that has one, at place i and behind, m of them: none behind the most -/
def feC (C : Nat → Int) (most : Nat) : Nat → Nat → Int
  | _, 0 => 0
  | i, m + 1 => if most ≤ i then 104 else if C i = 0 then feC C most (i + 1) m else C i
theorem feC_done (C : Nat → Int) (most i : Nat) : feC C most i 0 = 0 := rfl
theorem feC_many {C : Nat → Int} {most i m : Nat} (h : most ≤ i) (hm : 0 < m) : feC C most i m = 104 := by
  obtain ⟨m, rfl⟩ : ∃ m', m = m' + 1 := ⟨m - 1, by omega⟩
  simp [feC, h]
theorem feC_next {C : Nat → Int} {most i m : Nat} (h : i < most) (hm : 0 < m) (hc : C i = 0) : feC C most i m = feC C most (i + 1) (m - 1) := by
  obtain ⟨m, rfl⟩ : ∃ m', m = m' + 1 := ⟨m - 1, by omega⟩
  simp [feC, hc, show ¬ most ≤ i by omega]
theorem feC_here {C : Nat → Int} {most i m : Nat} (h : i < most) (hm : 0 < m) (hc : C i ≠ 0) : feC C most i m = C i := by
  obtain ⟨m, rfl⟩ : ∃ m', m = m' + 1 := ⟨m - 1, by omega⟩
  simp [feC, hc, show ¬ most ≤ i by omega]
end Go.Proofs.YtdljpokhcfhhfaaGreatDoor
namespace Go.Proofs.YtdljpokhcfhhfaaGreatDoor
open Go.RowKit Lx
/-- a member, with the place of its sources in memory -/
structure Mb where
  l : Int
  g : Int
  o : Bool
  A : Option Addr
  n : Nat
  c : Nat
  xs : List Int
def VRouter : List UInt8 × Int → Value := fun ⟨s1, r1⟩ => .agg #[.string (str s1), .int .i64 r1]
def CRouter : List UInt8 × Int → List Value := fun ⟨s1, r1⟩ => [.string (str s1), .int .i64 r1]
def VLink : List UInt8 × Int × Int → Value := fun ⟨s1, a1, b1⟩ => .agg #[.string (str s1), .int .u32 a1, .int .i64 b1]
def CLink : List UInt8 × Int × Int → List Value := fun ⟨s1, a1, b1⟩ => [.string (str s1), .int .u32 a1, .int .i64 b1]
def VPort : Int × Int × Int → Value := fun ⟨r1, l1, a1⟩ => .agg #[.int .i64 r1, .int .i64 l1, .int .u32 a1]
def CPort : Int × Int × Int → List Value := fun ⟨r1, l1, a1⟩ => [.int .i64 r1, .int .i64 l1, .int .u32 a1]
def VRoute : Int × Int × Int × Int × Int → Value := fun ⟨r1, a1, b1, v1, c1⟩ => .agg #[.int .i64 r1, .int .u32 a1, .int .i64 b1, .int .u32 v1, .int .i64 c1]
def CRoute : Int × Int × Int × Int × Int → List Value := fun ⟨r1, a1, b1, v1, c1⟩ => [.int .i64 r1, .int .u32 a1, .int .i64 b1, .int .u32 v1, .int .i64 c1]
def VRange : Int × Int × Int → Value := fun ⟨a1, b1, r1⟩ => .agg #[.int .u32 a1, .int .i64 b1, .int .u32 r1]
def CRange : Int × Int × Int → List Value := fun ⟨a1, b1, r1⟩ => [.int .u32 a1, .int .i64 b1, .int .u32 r1]
def VSource : Int × Int × Int → Value := fun ⟨l1, s1, g1⟩ => .agg #[.int .i64 l1, .int .u32 s1, .int .u32 g1]
def CSource : Int × Int × Int → List Value := fun ⟨l1, s1, g1⟩ => [.int .i64 l1, .int .u32 s1, .int .u32 g1]
def VMember : Mb → Value := fun ⟨l1, g1, o1, A1, n1, c1, _xs1⟩ => .agg #[.int .i64 l1, .int .u32 g1, .bool o1, .slice A1 n1 c1]
def CMember : Mb → List Value := fun ⟨l1, g1, o1, A1, n1, c1, _xs1⟩ => [.int .i64 l1, .int .u32 g1, .bool o1, .slice A1 n1 c1]
def VAddr : Int → Value := fun a1 => .int .u32 a1
def CAddr : Int → List Value := fun a1 => [.int .u32 a1]
end Go.Proofs.YtdljpokhcfhhfaaGreatDoor
namespace Go.Proofs.YtdljpokhcfhhfaaGreatDoor
open Go.RowKit
def erS (ads : List Addr) (c : Int) : Value := if c = 0 then .nilIface else ev (ads.getD (c - 101).toNat ⟨0, 0, none⟩)
def IsC (c : Int) : Prop := c = 0 ∨ ∃ j : Nat, j < 14 ∧ c = 101 + (j : Int)
/-- the seven that conf can tell, by their places among all -/
def errC : List (Nat × Nat) := [(2, 1), (3, 5), (8, 6), (9, 0), (10, 3), (11, 4), (12, 2)]
def EnvC (ads : List Addr) (w : World) : Prop :=
  ads.length = 14 ∧ (∀ (j g : Nat) (a : Addr), errC.lookup j = some g → ads[j]? = some a → w.cell? ⟨g, 0, none⟩ = some (ev a)) ∧ ∀ a ∈ ads, ∃ c t, w.heap[a.block]? = some (.cells c t (0, 0))
theorem EnvC.below {ads : List Addr} {w w' : World} (h : EnvC ads w) (hb : Below w.heap.size w w') : EnvC ads w' := by
  obtain ⟨h1, h3, h4⟩ := h
  refine ⟨h1, fun i g a hg ha => (hb.cell (World.block_lt_of_cell? w _ (h3 i g a hg ha))).trans (h3 i g a hg ha), fun a ha => ?_⟩
  obtain ⟨c, t, hh⟩ := h4 a ha
  refine ⟨c, t, (hb.block a.block ?_).trans hh⟩
  rcases Nat.lt_or_ge a.block w.heap.size with hlt | hge
  · exact hlt
  · rw [Array.getElem?_eq_none hge] at hh; cases hh
theorem erS_of {ads : List Addr} (h : ads.length = 14) {j : Nat} (hj : j < 14) : ∃ a, ads[j]? = some a ∧ erS ads (101 + (j : Int)) = ev a := by
  have h3 : ads[j]? = some (ads[j]'(by rw [h]; omega)) := by simp [h, hj]
  refine ⟨_, h3, ?_⟩
  unfold erS
  rw [if_neg (by omega), show (101 + (j : Int) - 101).toNat = j by omega]
  simp [List.getD, h, hj]
theorem erS_at {ads : List Addr} {w : World} (hS : EnvC ads w) {j : Nat} (hj : j < 14) : ∃ a, ads[j]? = some a ∧ erS ads (101 + (j : Int)) = ev a := erS_of hS.1 hj
theorem erS_cell {ads : List Addr} {w : World} (hS : EnvC ads w) {j g : Nat} (hj : j < 14) (hg : errC.lookup j = some g) : w.cell? ⟨g, 0, none⟩ = some (erS ads (101 + (j : Int))) := by
  obtain ⟨a, h1, h2⟩ := erS_at hS hj
  rw [h2]
  exact hS.2.1 j g a hg h1
end Go.Proofs.YtdljpokhcfhhfaaGreatDoor

