/- A row of keys, as an argument. -/
import Derived.Test.YtgicmgljllaliaaGreatDoorKit
import Derived.Test.YtgicmgljllaliaaGreatDoorProg
import Derived.ProofKit
import Derived.OpenShut
namespace Go.Proofs.YtgicmgljllaliaaGreatDoor
open Go.ChangeShapes Go.WideShapes Go.ChangeAt Go.RowKit
theorem opened_keys {H : Type} {enc : TypeId × Value → H} {W : World} {a0 : Option Addr} {len cap : Nat} {d0 : DataW H} {p : List MemPlace}
    (h0 : DataW.Trod enc Tryz.prog W 0 (fun _ => true) true 38 (.slice a0 len cap) d0 p) : ∃ xs, RI CKy 2 W a0 len xs ∧ (∀ x ∈ xs, U32 x.1 ∧ U32 x.2) ∧ len ≤ cap := by
  refine open_items CKy (fun x => U32 x.1 ∧ U32 x.2) Tryz.underlying38 (by kernel_rfl) (by omega) ?_ h0
  intro n l y hl htr
  have ka : Tryz.prog.cellsOf 42 = 1 := by kernel_rfl
  match l, hl with
  | [c0, c1], _ =>
    obtain ⟨ys, n', _, _, _, hlen, hf⟩ := DataW.trod_struct Tryz.underlying44 htr
    match ys, hlen with
    | [y0, y1], _ =>
      have g0 : DataW.trod enc Tryz.prog W 0 (fun _ => true) true n' 42 [c0] = some y0 := by simpa [ka] using hf 0 _ rfl
      obtain ⟨v0, e0, _, w0⟩ := DataW.trod_int Tryz.underlying42 g0
      have g1 : DataW.trod enc Tryz.prog W 0 (fun _ => true) true n' 42 [c1] = some y1 := by simpa [ka] using hf 1 _ rfl
      obtain ⟨v1, e1, _, w1⟩ := DataW.trod_int Tryz.underlying42 g1
      simp only [List.cons.injEq, and_true] at e0 e1
      subst e0
      subst e1
      exact ⟨(v0, v1), rfl, wf_u32 w0, wf_u32 w1⟩
end Go.Proofs.YtgicmgljllaliaaGreatDoor

