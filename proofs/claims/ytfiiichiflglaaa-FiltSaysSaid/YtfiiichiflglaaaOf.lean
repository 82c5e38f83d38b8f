/- An argument that is a filter, opened. -/
import Derived.Test.YtfiiichiflglaaaOm
namespace Go.Proofs.Ytfiiichiflglaaa
open Go.ChangeShapes Go.WideShapes Go.ChangeAt Go.RowKit Sm
theorem array2 {α : Type} {cs : Array α} (h : cs.size = 2) : ∃ c0 c1, cs = #[c0, c1] := by
  obtain ⟨l⟩ := cs
  match l, h with
  | [c0, c1], _ => exact ⟨c0, c1, rfl⟩
/-- a filter: whether all but some are let by, its sources -/
structure Fl where
  b : Bool
  A : Option Addr
  n : Nat
  c : Nat
  xs : List Int
theorem opened_flt {H : Type} {enc : TypeId × Value → H} {W : World} {r : Reach} {b0 : Nat} {v : Value} {d : DataW H} {p : List MemPlace}
    (hv : Value.okWide Try.prog W r b0 25 v) (h : DataW.Trod enc Try.prog W 0 (fun _ => true) true 25 v d p) :
    ∃ x : Fl, v = .agg #[.bool x.b, .slice x.A x.n x.c] ∧ AR W x.A x.n x.xs ∧ x.n ≤ x.c ∧ x.n ≤ 9223372036854775807 := by
  have hs := Try.underlying25
  have kb : Try.prog.cellsOf 4 = 1 := by kernel_rfl
  have kR : Try.prog.cellsOf 23 = 1 := by kernel_rfl
  have ka : Try.prog.cellsOf 27 = 1 := by kernel_rfl
  obtain ⟨cs, rfl, hsz⟩ := okWide_struct hs hv
  obtain ⟨c0, c1, rfl⟩ := array2 (hsz.trans (by kernel_rfl))
  obtain ⟨fuel, hf⟩ := h
  obtain ⟨ys, n', _, _, _, hlen, hf⟩ := DataW.trod_struct hs hf
  match ys, hlen with
  | [y0, y1], _ =>
    have g0 : DataW.trod enc Try.prog W 0 (fun _ => true) true n' 4 [c0] = some y0 := by simpa [Value.cells, kb, kR] using hf 0 _ rfl
    obtain ⟨v0, e0, _⟩ := DataW.trod_bool Try.underlying4 g0
    have g1 : DataW.trod enc Try.prog W 0 (fun _ => true) true n' 23 [c1] = some y1 := by simpa [Value.cells, kb, kR] using hf 1 _ rfl
    obtain ⟨A, n, c, xs, e1, hA, h1, h2⟩ := opened_ads Try.underlying23 Try.underlying27 ka g1
    simp only [List.cons.injEq, and_true] at e0
    subst e0; subst e1
    exact ⟨⟨v0, A, n, c, xs⟩, rfl, hA, h1, h2⟩
end Go.Proofs.Ytfiiichiflglaaa

