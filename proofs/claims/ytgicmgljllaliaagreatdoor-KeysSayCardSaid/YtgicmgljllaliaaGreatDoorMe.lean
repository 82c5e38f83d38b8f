/- topo's methods over a Topo in memory: the ports on a link, of a router, the members on a link, the port of an address, the others there; over the seat's program. topo's Others over a Topo in memory: the ports of other routers on a port's link; over the seat's program. -/
import Derived.Test.YtgicmgljllaliaaGreatDoorNw0
import Derived.Test.YtgicmgljllaliaaGreatDoorCp
namespace Go.Proofs.YtgicmgljllaliaaGreatDoor
open Go.RowKit Lx Sm Go.Maps
/-- the row at a place; none, where there is no such place -/
def rowIn (xs : Nat → List Int) (n : Nat) (p : Int) : List Int := if 0 ≤ p ∧ p < (n : Int) then xs p.toNat else []
theorem JR.ir {w : World} {A : Option Addr} {n : Nat} {xs : List Int} (h : JR w A n xs) : IR CInt 1 w A n xs :=
  ⟨h.1, fun hn => by
    obtain ⟨b, o, e, hlt, hc⟩ := h.2 hn
    refine ⟨b, o, e, hlt, fun i x hx j v hv => ?_⟩
    have hi : i < n := by have := (List.getElem?_eq_some_iff.1 hx).1; have := h.1; omega
    obtain rfl : j = 0 := by
      rcases j with _ | j
      · rfl
      · simp [CInt] at hv
    have := hc i hi
    simp only [CInt, List.getElem?_cons_zero, Option.some.injEq] at hv
    rw [Nat.mul_one, Nat.add_zero, this, ← hv]
    simp [List.getD, hx]⟩
theorem JR.of_ir {w : World} {A : Option Addr} {n : Nat} {xs : List Int} (h : IR CInt 1 w A n xs) : JR w A n xs :=
  ⟨h.1, fun hn => by
    obtain ⟨b, o, e, hlt, hc⟩ := h.2 hn
    refine ⟨b, o, e, hlt, fun i hi => ?_⟩
    have hx : xs[i]? = some (xs.getD i 0) := by
      have := h.1
      rw [List.getElem?_eq_getElem (by omega)]
      simp [List.getD, show i < xs.length by omega]
    have := hc i _ hx 0 _ rfl
    rwa [Nat.mul_one, Nat.add_zero] at this⟩
theorem jr_nil (w : World) : JR w none 0 [] := ⟨rfl, fun h => absurd h (by omega)⟩
section
variable {b : Nat} {T : TP} {x : Cfg} {gs : List Int}
theorem TW.next {w w' : World} (h : TW w b T x gs) (hb : Below w.heap.size w w') : TW w' b T x gs := by
  obtain ⟨nn, D, h1, h2⟩ := h.at_
  exact ⟨h.net.fr (Fr2.below hb), h.blk.next hb, h.tab.next hb, ⟨nn, D, map_same h1 (fun es clock e => (hb.block T.mb (Array.getElem?_eq_some_iff.1 e).1).trans e), h2⟩, ownk_next h.gr hb⟩
end
end Go.Proofs.YtgicmgljllaliaaGreatDoor
namespace Go.Proofs.YtgicmgljllaliaaGreatDoor
open Go.RowKit Lx Sm Go.Maps
theorem picks_mem {α : Type} {p : α → Bool} {xs : List α} : ∀ {n : Nat} {q : Int}, q ∈ picks p xs n → ∃ j : Nat, j < n ∧ q = j ∧ ∃ y, xs[j]? = some y ∧ p y = true
  | 0, _, h => by cases h
  | n + 1, q, h => by
    unfold picks at h
    rcases List.mem_append.1 h with h | h
    · obtain ⟨j, hj, e, hy⟩ := picks_mem h
      exact ⟨j, by omega, e, hy⟩
    · cases hx : xs[n]? with
      | none => rw [hx] at h; cases h
      | some y =>
        rw [hx] at h
        dsimp only at h
        split at h
        · simp only [List.mem_singleton] at h
          exact ⟨n, by omega, h, y, hx, by assumption⟩
        · cases h
/-- is a port another router's? -/
def isO (ps : List (Int × Int × Int)) (r : Int) (q : Int) : Bool := match ps[q.toNat]? with | some y => y.1 != r | none => false
/-- the ports of other routers on a port's link -/
def oth (ps : List (Int × Int × Int)) (r l : Int) : List Int := (picks (fun y => y.2.1 == l) ps ps.length).filter (isO ps r)
end Go.Proofs.YtgicmgljllaliaaGreatDoor

