/- An argument that is a message, opened. -/
import Derived.Test.YtnnppoamdllebaaSlip
import Derived.Test.YtnnppoamdllebaaProg
import Derived.ProofKit
import Derived.OpenShut
namespace Go.Proofs.Ytnnppoamdllebaa
open Go.ChangeShapes Go.WideShapes Go.ChangeAt Go.RowKit Sm
theorem isA_of_wf {x : Int} (h : (Lit.int .u32 x).wf = true) : isA x := by
  have h1 : IntKind.u32.min = 0 := rfl
  have h2 : IntKind.u32.max = 4294967295 := rfl
  simp only [Lit.wf, Bool.and_eq_true, decide_eq_true_eq] at h
  exact ⟨by omega, by omega⟩
theorem opened_ar {H : Type} {enc : TypeId × Value → H} {P : Program} {t e : TypeId} (ht : P.underlying t = some (.slice e)) (he : P.underlying e = some (.int .u32)) (hc : P.cellsOf e = 1) {W : World} {v : Value} {fuel : Nat} {x : DataW H × List MemPlace}
    (hf : DataW.trod enc P W 0 (fun _ => true) true fuel t [v] = some x) : ∃ A len cap xs, v = .slice A len cap ∧ AR W A len xs := by
  rcases open_ints ht he hc hf with ⟨hcs, hx⟩ | ⟨a, len', cap', zs, hcs, _, hl, hm, hz, hx, hcell, hwz⟩
  · simp only [List.cons.injEq, and_true] at hcs
    subst hcs
    exact ⟨none, 0, 0, [], rfl, AR.none_ _ _⟩
  · simp only [List.cons.injEq, and_true] at hcs
    subst hcs
    simp only [if_true] at hz
    refine ⟨some a, len', cap', zs.take len', rfl, ⟨by simp; omega, fun x hx => isA_of_wf (hwz x (List.mem_of_mem_take hx)), fun hn => ?_⟩⟩
    obtain ⟨b, o, s⟩ := a
    obtain rfl : s = none := by simpa [Addr.add] using World.cell?_spot (hcell 0 (by omega))
    refine ⟨b, o, rfl, ?_, fun i hi => ?_⟩
    · have := World.block_lt_of_cell? _ _ (hcell 0 (by omega))
      simpa [add_plain] using this
    · rw [← add_plain, hcell i (by omega)]
      simp [List.getD, hi]
theorem array9 {α : Type} {cs : Array α} (h : cs.size = 9) : ∃ c0 c1 c2 c3 c4 c5 c6 c7 c8, cs = #[c0, c1, c2, c3, c4, c5, c6, c7, c8] := by
  obtain ⟨l⟩ := cs
  match l, h with
  | [c0, c1, c2, c3, c4, c5, c6, c7, c8], _ => exact ⟨c0, c1, c2, c3, c4, c5, c6, c7, c8, rfl⟩
theorem open_msg {H : Type} {enc : TypeId × Value → H} {W : World} {r : Reach} {b0 : Nat} {v : Value} {d : DataW H} {p : List MemPlace}
    (hv : Value.okWide Try.prog W r b0 40 v) (h : DataW.Trod enc Try.prog W 0 (fun _ => true) true 40 v d p) :
    ∃ (m : Ms) (A : Option Addr) (n c : Nat), v = mv m A n c ∧ wfm m ∧ AR W A n m.l := by
  have hs := Try.underlying40
  obtain ⟨cs, rfl, hsz⟩ := okWide_struct hs hv
  obtain ⟨c0, c1, c2, c3, c4, c5, c6, c7, c8, rfl⟩ := array9 (hsz.trans (by kernel_rfl))
  obtain ⟨fuel, hf⟩ := h
  obtain ⟨xs, n, _, _, hl, hlen, hf⟩ := DataW.trod_struct hs hf
  have ki : Try.prog.cellsOf 3 = 1 := by kernel_rfl
  have ka : Try.prog.cellsOf 24 = 1 := by kernel_rfl
  have kk : Try.prog.cellsOf 26 = 2 := by kernel_rfl
  have kb : Try.prog.cellsOf 4 = 1 := by kernel_rfl
  have ks : Try.prog.cellsOf 38 = 1 := by kernel_rfl
  match xs, hlen with
  | [y0, y1, y2, y3, y4, y5, y6, y7], _ =>
    have g0 : DataW.trod enc Try.prog W 0 (fun _ => true) true n 3 [c0] = some y0 := by simpa [Value.cells, ki] using hf 0 _ rfl
    have g1 : DataW.trod enc Try.prog W 0 (fun _ => true) true n 24 [c1] = some y1 := by simpa [Value.cells, ka] using hf 1 _ rfl
    have g2 : DataW.trod enc Try.prog W 0 (fun _ => true) true n 24 [c2] = some y2 := by simpa [Value.cells, ka] using hf 2 _ rfl
    have g3 : DataW.trod enc Try.prog W 0 (fun _ => true) true n 26 [c3, c4] = some y3 := by simpa [Value.cells, kk] using hf 3 _ rfl
    have g4 : DataW.trod enc Try.prog W 0 (fun _ => true) true n 3 [c5] = some y4 := by simpa [Value.cells, ki] using hf 4 _ rfl
    have g5 : DataW.trod enc Try.prog W 0 (fun _ => true) true n 3 [c6] = some y5 := by simpa [Value.cells, ki] using hf 5 _ rfl
    have g6 : DataW.trod enc Try.prog W 0 (fun _ => true) true n 4 [c7] = some y6 := by simpa [Value.cells, kb] using hf 6 _ rfl
    have g7 : DataW.trod enc Try.prog W 0 (fun _ => true) true n 38 [c8] = some y7 := by simpa [Value.cells, ks] using hf 7 _ rfl
    obtain ⟨zs, n', _, _, _, hlen', hk⟩ := DataW.trod_struct Try.underlying26 g3
    obtain ⟨a0, e0, _, _⟩ := DataW.trod_int Try.underlying3 g0
    obtain ⟨a1, e1, _, w1⟩ := DataW.trod_int Try.underlying24 g1
    obtain ⟨a2, e2, _, w2⟩ := DataW.trod_int Try.underlying24 g2
    obtain ⟨a5, e5, _, _⟩ := DataW.trod_int Try.underlying3 g4
    obtain ⟨a6, e6, _, _⟩ := DataW.trod_int Try.underlying3 g5
    obtain ⟨a7, e7, _⟩ := DataW.trod_bool Try.underlying4 g6
    obtain ⟨A, len, cap, l, rfl, hA⟩ := opened_ar Try.underlying38 Try.underlying24 ka g7
    match zs, hlen' with
    | [z0, z1], _ =>
      have k0 : DataW.trod enc Try.prog W 0 (fun _ => true) true n' 24 [c3] = some z0 := by simpa [ka] using hk 0 _ rfl
      have k1 : DataW.trod enc Try.prog W 0 (fun _ => true) true n' 24 [c4] = some z1 := by simpa [ka] using hk 1 _ rfl
      obtain ⟨a3, e3, _, w3⟩ := DataW.trod_int Try.underlying24 k0
      obtain ⟨a4, e4, _, w4⟩ := DataW.trod_int Try.underlying24 k1
      simp only [List.cons.injEq, and_true] at e0 e1 e2 e3 e4 e5 e6 e7
      subst e0 e1 e2 e3 e4 e5 e6 e7
      exact ⟨⟨a0, a1, a2, a3, a4, a5, a6, a7, l⟩, A, len, cap, rfl, ⟨isA_of_wf w1, isA_of_wf w2, isA_of_wf w3, isA_of_wf w4, hA.isAs⟩, hA⟩
end Go.Proofs.Ytnnppoamdllebaa

