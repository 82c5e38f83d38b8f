/- An argument that is a row of ints, opened. -/
import Derived.Test.YtahnnaagpeinkaaGreatDoorIt
import Derived.Test.YtahnnaagpeinkaaGreatDoorJr
namespace Go.Proofs.YtahnnaagpeinkaaGreatDoor
open Go.ChangeShapes Go.WideShapes Go.ChangeAt Go.RowKit
theorem opened_js {H : Type} {enc : TypeId × Value → H} {W : World} {a0 : Option Addr} {len cap : Nat} {d0 : DataW H} {p : List MemPlace}
    (h0 : DataW.Trod enc Tryz.prog W 0 (fun _ => true) true 52 (.slice a0 len cap) d0 p) : ∃ xs, JR W a0 len xs ∧ len ≤ cap := by
  obtain ⟨xs, h, _, hc⟩ := open_items (k := 1) (fun x : Int => [Value.int .i64 x]) (fun _ => True) Tryz.underlying52 (by kernel_rfl) (by omega) (by
    intro n l y hl htr
    match l, hl with
    | [c0], _ =>
      obtain ⟨a0, e0, _, w0⟩ := DataW.trod_int Tryz.underlying3 htr
      simp only [List.cons.injEq, and_true] at e0
      subst e0
      exact ⟨a0, rfl, trivial⟩) h0
  refine ⟨xs, ⟨h.1, fun hn => ?_⟩, hc⟩
  obtain ⟨b, o, e, hlt, hcell⟩ := h.2 hn
  refine ⟨b, o, e, hlt, fun i hi => ?_⟩
  have hx : xs[i]? = some (xs.getD i 0) := by
    have := h.1
    rw [List.getElem?_eq_getElem (by omega)]
    simp [List.getD, show i < xs.length by omega]
  have := hcell i _ hx 0 _ rfl
  rwa [Nat.mul_one, Nat.add_zero] at this
end Go.Proofs.YtahnnaagpeinkaaGreatDoor

