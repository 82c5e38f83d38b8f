/- An argument that is a member, a row of members, opened. -/
import Derived.Test.YtfiiichiflglaaaKn
import Derived.Test.YtfiiichiflglaaaCf
import Derived.Test.YtfiiichiflglaaaIt
import Derived.Test.YtfiiichiflglaaaProg
import Derived.ProofKit
import Derived.OpenShut
namespace Go.Proofs.Ytfiiichiflglaaa
open Go.ChangeShapes Go.WideShapes Go.ChangeAt Go.RowKit Sm
theorem opened_ads {H : Type} {enc : TypeId × Value → H} {P : Program} {t e : TypeId} (ht : P.underlying t = some (.slice e)) (he : P.underlying e = some (.int .u32)) (hc : P.cellsOf e = 1) {W : World} {v : Value} {fuel : Nat} {x : DataW H × List MemPlace}
    (hf : DataW.trod enc P W 0 (fun _ => true) true fuel t [v] = some x) : ∃ A len cap xs, v = .slice A len cap ∧ AR W A len xs ∧ len ≤ cap ∧ len ≤ 9223372036854775807 := by
  rcases open_ints ht he hc hf with ⟨hcs, hx⟩ | ⟨a, len', cap', zs, hcs, _, hl, hm, hz, hx, hcell, hwz⟩
  · simp only [List.cons.injEq, and_true] at hcs
    subst hcs
    exact ⟨none, 0, 0, [], rfl, AR.none_ _ _, Nat.le_refl _, by decide⟩
  · simp only [List.cons.injEq, and_true] at hcs
    subst hcs
    simp only [if_true] at hz
    refine ⟨some a, len', cap', zs.take len', rfl, ⟨by simp; omega, fun x hx => wf_u32 (hwz x (List.mem_of_mem_take hx)), fun hn => ?_⟩, hl, by unfold maxLen at hm; omega⟩
    obtain ⟨b, o, s⟩ := a
    obtain rfl : s = none := by simpa [Addr.add] using World.cell?_spot (hcell 0 (by omega))
    refine ⟨b, o, rfl, ?_, fun i hi => ?_⟩
    · have := World.block_lt_of_cell? _ _ (hcell 0 (by omega))
      simpa [add_plain] using this
    · rw [← add_plain, hcell i (by omega)]
      simp [List.getD, hi]
theorem slice_shape {H : Type} {enc : TypeId × Value → H} {P : Program} {t e : TypeId} (ht : P.underlying t = some (.slice e)) {W : World} {v : Value} {fuel : Nat} {x : DataW H × List MemPlace}
    (hf : DataW.trod enc P W 0 (fun _ => true) true fuel t [v] = some x) : ∃ A len cap, v = .slice A len cap := by
  rcases Deep.open_slice ht hf with ⟨hcs, hx⟩ | ⟨a, len', cap', m, n, D, Pl, hcs, _⟩
  · simp only [List.cons.injEq, and_true] at hcs
    exact ⟨_, _, _, hcs⟩
  · simp only [List.cons.injEq, and_true] at hcs
    exact ⟨_, _, _, hcs⟩
def wfMember (W : World) (x : Mb) : Prop := U32 x.g ∧ AR W x.A x.n x.xs ∧ x.n ≤ x.c ∧ x.n ≤ 9223372036854775807
set_option maxRecDepth 100000 in
theorem opMember {H : Type} {enc : TypeId × Value → H} {W : World} (n : Nat) (l : List Value) (y : DataW H × List MemPlace) (hl : l.length = 4) (htr : DataW.trod enc Try.prog W 0 (fun _ => true) true n 38 l = some y) : ∃ x, l = CMember x ∧ wfMember W x := by
  have ki : Try.prog.cellsOf 3 = 1 := by kernel_rfl
  have ka : Try.prog.cellsOf 27 = 1 := by kernel_rfl
  have kb : Try.prog.cellsOf 4 = 1 := by kernel_rfl
  have kR : Try.prog.cellsOf 23 = 1 := by kernel_rfl
  match l, hl with
  | [c0, c1, c2, c3], _ =>
    obtain ⟨ys, n', _, _, _, hlen, hf⟩ := DataW.trod_struct Try.underlying38 htr
    match ys, hlen with
    | [y0, y1, y2, y3], _ =>
      have g0 : DataW.trod enc Try.prog W 0 (fun _ => true) true n' 3 [c0] = some y0 := by simpa [ki, ka, kb, kR] using hf 0 _ rfl
      obtain ⟨v0, e0, _, w0⟩ := DataW.trod_int Try.underlying3 g0
      have g1 : DataW.trod enc Try.prog W 0 (fun _ => true) true n' 27 [c1] = some y1 := by simpa [ki, ka, kb, kR] using hf 1 _ rfl
      obtain ⟨v1, e1, _, w1⟩ := DataW.trod_int Try.underlying27 g1
      have g2 : DataW.trod enc Try.prog W 0 (fun _ => true) true n' 4 [c2] = some y2 := by simpa [ki, ka, kb, kR] using hf 2 _ rfl
      obtain ⟨v2, e2, _⟩ := DataW.trod_bool Try.underlying4 g2
      have g3 : DataW.trod enc Try.prog W 0 (fun _ => true) true n' 23 [c3] = some y3 := by simpa [ki, ka, kb, kR] using hf 3 _ rfl
      obtain ⟨Aq, len, cap, xs, e3, hA, hlc, hlm⟩ := opened_ads Try.underlying23 Try.underlying27 ka g3
      simp only [List.cons.injEq, and_true] at e0 e1 e2
      subst e0
      subst e1
      subst e2
      subst e3
      exact ⟨⟨v0, v1, v2, Aq, len, cap, xs⟩, rfl, wf_u32 w1, hA, hlc, hlm⟩
theorem slice_max {H : Type} {enc : TypeId × Value → H} {P : Program} {t e : TypeId} (ht : P.underlying t = some (.slice e)) {W : World} {A : Option Addr} {len cap : Nat} {d : DataW H} {p : List MemPlace}
    (h : DataW.Trod enc P W 0 (fun _ => true) true t (.slice A len cap) d p) : len ≤ 9223372036854775807 := by
  obtain ⟨fuel, hf⟩ := h
  rcases Deep.open_slice ht hf with ⟨hcs, hx⟩ | ⟨a, len', cap', m, n, D, Pl, hcs, _, hl, hm, _⟩
  · simp [Value.cells] at hcs
    omega
  · simp [Value.cells] at hcs
    unfold maxLen at hm
    omega
theorem opened_mbs {H : Type} {enc : TypeId × Value → H} {W : World} {a0 : Option Addr} {len cap : Nat} {d0 : DataW H} {p : List MemPlace}
    (h0 : DataW.Trod enc Try.prog W 0 (fun _ => true) true 22 (.slice a0 len cap) d0 p) : ∃ xs, RI CMember 4 W a0 len xs ∧ ((∀ x ∈ xs, wfMember W x) ∧ len ≤ 9223372036854775807) ∧ len ≤ cap := by
  obtain ⟨xs, h1, h2, h3⟩ := open_items CMember (wfMember W) Try.underlying22 (by kernel_rfl) (by omega) opMember h0
  exact ⟨xs, h1, ⟨h2, slice_max Try.underlying22 h0⟩, h3⟩
theorem array4 {α : Type} {cs : Array α} (h : cs.size = 4) : ∃ c0 c1 c2 c3, cs = #[c0, c1, c2, c3] := by
  obtain ⟨l⟩ := cs
  match l, h with
  | [c0, c1, c2, c3], _ => exact ⟨c0, c1, c2, c3, rfl⟩
theorem opened_mb {H : Type} {enc : TypeId × Value → H} {W : World} {r : Reach} {b0 : Nat} {v : Value} {d : DataW H} {p : List MemPlace}
    (hv : Value.okWide Try.prog W r b0 38 v) (h : DataW.Trod enc Try.prog W 0 (fun _ => true) true 38 v d p) :
    ∃ x : Mb, v = .agg #[.int .i64 x.l, .int .u32 x.g, .bool x.o, .slice x.A x.n x.c] ∧ wfMember W x := by
  have hs := Try.underlying38
  obtain ⟨cs, rfl, hsz⟩ := okWide_struct hs hv
  obtain ⟨c0, c1, c2, c3, rfl⟩ := array4 (hsz.trans (by kernel_rfl))
  obtain ⟨fuel, hf⟩ := h
  obtain ⟨x, e, hw⟩ := opMember _ [c0, c1, c2, c3] _ rfl (by simpa [Value.cells] using hf)
  obtain ⟨l, g, o, A, n, c, xs⟩ := x
  simp only [CMember, List.cons.injEq, and_true] at e
  obtain ⟨rfl, rfl, rfl, rfl⟩ := e
  exact ⟨_, rfl, hw⟩
end Go.Proofs.Ytfiiichiflglaaa

