/- An argument that is a row of addresses, opened. -/
import Derived.Test.YtbeoalmcibnpaaaGreatDoorKit
import Derived.Test.YtbeoalmcibnpaaaGreatDoorProg
namespace Go.Proofs.YtbeoalmcibnpaaaGreatDoor
open Go.ChangeShapes Go.WideShapes Go.ChangeAt Go.RowKit
def CAd : Int → List Value := fun x => [.int .u32 x]
theorem opened_addrs {H : Type} {enc : TypeId × Value → H} {W : World} {a0 : Option Addr} {len cap : Nat} {d0 : DataW H} {p : List MemPlace}
    (h0 : DataW.Trod enc Tryz.prog W 0 (fun _ => true) true 44 (.slice a0 len cap) d0 p) : ∃ xs, RI CAd 1 W a0 len xs ∧ (∀ x ∈ xs, 0 ≤ x ∧ x ≤ 4294967295) ∧ len ≤ cap := by
  refine open_items CAd (fun x => 0 ≤ x ∧ x ≤ 4294967295) Tryz.underlying44 (by kernel_rfl) (by omega) ?_ h0
  intro n l y hl htr
  match l, hl with
  | [c0], _ =>
    obtain ⟨a0, e0, _, w0⟩ := DataW.trod_int Tryz.underlying32 htr
    simp only [List.cons.injEq, and_true] at e0
    subst e0
    exact ⟨a0, rfl, wf_u32 w0⟩
end Go.Proofs.YtbeoalmcibnpaaaGreatDoor

