/- A row of addresses as an argument reads as a list of addresses. -/
import Derived.Test.YtbeoalmcibnpaaaGreatDoorOa
import Derived.Test.YtbeoalmcibnpaaaGreatDoorAs
namespace Go.Proofs.YtbeoalmcibnpaaaGreatDoor
theorem ar_of_ri {w : World} {A : Option Addr} {n : Nat} {xs : List Int} (h : RI CAd 1 w A n xs) (hw : ∀ x ∈ xs, 0 ≤ x ∧ x ≤ 4294967295) : AR w A n xs :=
  ⟨h.1, fun x hx => hw x hx, fun hn => by
    obtain ⟨b, o, e, hlt, hc⟩ := h.2 hn
    refine ⟨b, o, e, hlt, fun i hi => ?_⟩
    have hx : xs[i]? = some (xs[i]'(by have := h.1; omega)) := List.getElem?_eq_getElem _
    have := hc i _ hx 0 _ rfl
    rw [Nat.mul_one, Nat.add_zero] at this
    rw [this, List.getD_eq_getElem?_getD, hx]
    rfl⟩
end Go.Proofs.YtbeoalmcibnpaaaGreatDoor

