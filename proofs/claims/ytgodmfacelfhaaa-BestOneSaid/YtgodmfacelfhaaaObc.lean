/- An argument that is a row of bids of who forwards, opened. -/
import Derived.Test.YtgodmfacelfhaaaBe
namespace Go.Proofs.Ytgodmfacelfhaaa
open Go.ChangeShapes Go.WideShapes Go.ChangeAt Go.RowKit
theorem opened_bic {H : Type} {enc : TypeId × Value → H} {W : World} {a0 : Option Addr} {len cap : Nat} {d0 : DataW H} {p : List MemPlace}
    (h0 : DataW.Trod enc Try.prog W 0 (fun _ => true) true 22 (.slice a0 len cap) d0 p) : ∃ xs, RI CBd 2 W a0 len xs ∧ (∀ x ∈ xs, wfBd x) ∧ len ≤ cap := by
  refine open_items CBd wfBd Try.underlying22 (by kernel_rfl) (by omega) ?_ h0
  intro n l y hl htr
  have ki : Try.prog.cellsOf 3 = 1 := by kernel_rfl
  have ka : Try.prog.cellsOf 28 = 1 := by kernel_rfl
  match l, hl with
  | [c0, c1], _ =>
    obtain ⟨ys, n', _, _, _, hlen, hf⟩ := DataW.trod_struct Try.underlying30 htr
    match ys, hlen with
    | [y0, y1], _ =>
      have g0 : DataW.trod enc Try.prog W 0 (fun _ => true) true n' 3 [c0] = some y0 := by simpa [ki] using hf 0 _ rfl
      have g1 : DataW.trod enc Try.prog W 0 (fun _ => true) true n' 28 [c1] = some y1 := by simpa [ka, ki] using hf 1 _ rfl
      obtain ⟨a0, e0, _, w0⟩ := DataW.trod_int Try.underlying3 g0
      obtain ⟨a1, e1, _, w1⟩ := DataW.trod_int Try.underlying28 g1
      simp only [List.cons.injEq, and_true] at e0 e1
      subst e0; subst e1
      exact ⟨(a0, a1), rfl, wf_i64 w0, wf_u32 w1⟩
end Go.Proofs.Ytgodmfacelfhaaa

