/- An argument that is a row of prefixes that are put, each with a number, opened. -/
import Derived.Test.YtnnoigdedjbbmaaIt
import Derived.Test.YtnnoigdedjbbmaaProg
namespace Go.Proofs.Ytnnoigdedjbbmaa
open Go.ChangeShapes Go.WideShapes Go.ChangeAt Go.RowKit
abbrev Do := Int × Int × Int
def CDo : Do → List Value := fun ⟨a, b, n⟩ => [.int .u32 a, .int .i64 b, .int .i64 n]
def wfDo : Do → Prop := fun ⟨a, b, n⟩ => (0 ≤ a ∧ a ≤ 4294967295) ∧ (-9223372036854775808 ≤ b ∧ b ≤ 9223372036854775807) ∧ (-9223372036854775808 ≤ n ∧ n ≤ 9223372036854775807)
theorem opened_do {H : Type} {enc : TypeId × Value → H} {W : World} {a0 : Option Addr} {len cap : Nat} {d0 : DataW H} {p : List MemPlace}
    (h0 : DataW.Trod enc Try.prog W 0 (fun _ => true) true 22 (.slice a0 len cap) d0 p) : ∃ xs, RI CDo 3 W a0 len xs ∧ (∀ x ∈ xs, wfDo x) ∧ len ≤ cap := by
  refine open_items CDo wfDo Try.underlying22 (by kernel_rfl) (by omega) ?_ h0
  intro n l y hl htr
  have ki : Try.prog.cellsOf 3 = 1 := by kernel_rfl
  have ka : Try.prog.cellsOf 25 = 1 := by kernel_rfl
  have kp : Try.prog.cellsOf 27 = 2 := by kernel_rfl
  match l, hl with
  | [c0, c1, c2], _ =>
    obtain ⟨ys, n', _, _, _, hlen, hf⟩ := DataW.trod_struct Try.underlying36 htr
    match ys, hlen with
    | [y0, y1], _ =>
      have g0 : DataW.trod enc Try.prog W 0 (fun _ => true) true n' 27 [c0, c1] = some y0 := by simpa [kp] using hf 0 _ rfl
      have g1 : DataW.trod enc Try.prog W 0 (fun _ => true) true n' 3 [c2] = some y1 := by simpa [ki] using hf 1 _ rfl
      obtain ⟨zs, n2, _, _, _, hlen2, hk⟩ := DataW.trod_struct Try.underlying27 g0
      match zs, hlen2 with
      | [z0, z1], _ =>
        have g2 : DataW.trod enc Try.prog W 0 (fun _ => true) true n2 25 [c0] = some z0 := by simpa [ka] using hk 0 _ rfl
        have g3 : DataW.trod enc Try.prog W 0 (fun _ => true) true n2 3 [c1] = some z1 := by simpa [ki] using hk 1 _ rfl
        obtain ⟨a0, e0, _, w0⟩ := DataW.trod_int Try.underlying25 g2
        obtain ⟨a1, e1, _, w1⟩ := DataW.trod_int Try.underlying3 g3
        obtain ⟨a2, e2, _, w2⟩ := DataW.trod_int Try.underlying3 g1
        simp only [List.cons.injEq, and_true] at e0 e1 e2
        subst e0; subst e1; subst e2
        exact ⟨(a0, a1, a2), rfl, wf_u32 w0, wf_i64 w1, wf_i64 w2⟩
end Go.Proofs.Ytnnoigdedjbbmaa

