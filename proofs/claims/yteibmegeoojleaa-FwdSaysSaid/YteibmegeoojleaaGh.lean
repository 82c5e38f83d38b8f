/- Arguments that are rows of package want, lost ports, a packet: opened. -/
import Derived.Test.YteibmegeoojleaaGf
import Derived.ProofKit
import Derived.OpenShut
import Derived.ShapedOpen
namespace Go.Proofs.Yteibmegeoojleaa
open Go.ChangeShapes Go.WideShapes Go.ChangeAt Go.RowKit Sm
theorem opened_is {H : Type} {enc : TypeId × Value → H} {P : Program} {t e : TypeId} (ht : P.underlying t = some (.slice e)) (he : P.underlying e = some (.int .i64)) (hc : P.cellsOf e = 1) {W : World} {v : Value} {fuel : Nat} {x : DataW H × List MemPlace}
    (hf : DataW.trod enc P W 0 (fun _ => true) true fuel t [v] = some x) : ∃ A xs cap, v = .slice A xs.length cap ∧ JR W A xs.length xs ∧ (∀ x ∈ xs, I64r x) := by
  rcases open_ints ht he hc hf with ⟨hcs, hx⟩ | ⟨a, len', cap', zs, hcs, _, hl, hm, hz, hx, hcell, hwz⟩
  · simp only [List.cons.injEq, and_true] at hcs
    subst hcs
    exact ⟨none, [], 0, rfl, ⟨rfl, fun h => absurd h (Nat.lt_irrefl 0)⟩, fun x hx => by cases hx⟩
  · simp only [List.cons.injEq, and_true] at hcs
    subst hcs
    simp only [if_true] at hz
    have hlen : (zs.take len').length = len' := by simp; omega
    refine ⟨some a, zs.take len', cap', by rw [hlen], ⟨rfl, fun hn => ?_⟩, fun x hx => wf_i64 (hwz x (List.mem_of_mem_take hx))⟩
    rw [hlen] at hn ⊢
    obtain ⟨b, o, s⟩ := a
    obtain rfl : s = none := by simpa [Addr.add] using World.cell?_spot (hcell 0 (by omega))
    refine ⟨b, o, rfl, ?_, fun i hi => ?_⟩
    · have := World.block_lt_of_cell? _ _ (hcell 0 (by omega))
      simpa [add_plain] using this
    · rw [← add_plain, hcell i (by omega)]
      simp [List.getD, hi]
def wfRw (W : World) (m : PMr) : Prop := JR W m.A m.p.xs.length m.p.xs ∧ (∀ x ∈ m.p.xs, I64r x) ∧ I64r m.p.i
set_option maxRecDepth 100000 in
theorem opRow {H : Type} {enc : TypeId × Value → H} {W : World} (n : Nat) (l : List Value) (y : DataW H × List MemPlace) (hl : l.length = 6) (htr : DataW.trod enc Try.prog W 0 (fun _ => true) true n 43 l = some y) : ∃ x, l = CRw x ∧ wfRw W x := by
  have ki : Try.prog.cellsOf 3 = 1 := by kernel_rfl
  have kk : Try.prog.cellsOf 27 = 2 := by kernel_rfl
  have ka : Try.prog.cellsOf 25 = 1 := by kernel_rfl
  have kR : Try.prog.cellsOf 32 = 1 := by kernel_rfl
  match l, hl with
  | [c0, c1, c2, c3, c4, c5], _ =>
    obtain ⟨ys, n', _, _, _, hlen, hf⟩ := DataW.trod_struct Try.underlying43 htr
    match ys, hlen with
    | [y0, y1, y2, y3, y4], _ =>
      have g0 : DataW.trod enc Try.prog W 0 (fun _ => true) true n' 3 [c0] = some y0 := by simpa [ki, kk, kR] using hf 0 _ rfl
      have g1 : DataW.trod enc Try.prog W 0 (fun _ => true) true n' 3 [c1] = some y1 := by simpa [ki, kk, kR] using hf 1 _ rfl
      have g2 : DataW.trod enc Try.prog W 0 (fun _ => true) true n' 3 [c2] = some y2 := by simpa [ki, kk, kR] using hf 2 _ rfl
      have g3 : DataW.trod enc Try.prog W 0 (fun _ => true) true n' 27 [c3, c4] = some y3 := by simpa [ki, kk, kR] using hf 3 _ rfl
      have g4 : DataW.trod enc Try.prog W 0 (fun _ => true) true n' 32 [c5] = some y4 := by simpa [ki, kk, kR] using hf 4 _ rfl
      obtain ⟨zs, n2, _, _, _, hlen2, hf2⟩ := DataW.trod_struct Try.underlying27 g3
      match zs, hlen2 with
      | [z0, z1], _ =>
        have f0 : DataW.trod enc Try.prog W 0 (fun _ => true) true n2 25 [c3] = some z0 := by simpa [ka] using hf2 0 _ rfl
        have f1 : DataW.trod enc Try.prog W 0 (fun _ => true) true n2 25 [c4] = some z1 := by simpa [ka] using hf2 1 _ rfl
        obtain ⟨v0, e0, _, w0⟩ := DataW.trod_int Try.underlying3 g0
        obtain ⟨v1, e1, _, w1⟩ := DataW.trod_int Try.underlying3 g1
        obtain ⟨v2, e2, _, w2⟩ := DataW.trod_int Try.underlying3 g2
        obtain ⟨v3, e3, _, w3⟩ := DataW.trod_int Try.underlying25 f0
        obtain ⟨v4, e4, _, w4⟩ := DataW.trod_int Try.underlying25 f1
        obtain ⟨Aq, xs, cap, e5, hA, hI⟩ := opened_is Try.underlying32 Try.underlying3 ki g4
        simp only [List.cons.injEq, and_true] at e0 e1 e2 e3 e4
        subst e0 e1 e2 e3 e4 e5
        exact ⟨⟨⟨v0, v1, v2, (v3, v4), xs⟩, Aq, cap⟩, rfl, hA, hI, wf_i64 w1⟩
theorem slice_max {H : Type} {enc : TypeId × Value → H} {P : Program} {t e : TypeId} (ht : P.underlying t = some (.slice e)) {W : World} {A : Option Addr} {len cap : Nat} {d : DataW H} {p : List MemPlace}
    (h : DataW.Trod enc P W 0 (fun _ => true) true t (.slice A len cap) d p) : len ≤ 9223372036854775807 := by
  obtain ⟨fuel, hf⟩ := h
  rcases Deep.open_slice ht hf with ⟨hcs, hx⟩ | ⟨a, len', cap', m, n, D, Pl, hcs, _, hl, hm, _⟩
  · simp [Value.cells] at hcs
    omega
  · simp [Value.cells] at hcs
    unfold maxLen at hm
    omega
theorem opened_rws {H : Type} {enc : TypeId × Value → H} {W : World} {a0 : Option Addr} {len cap : Nat} {d0 : DataW H} {p : List MemPlace}
    (h0 : DataW.Trod enc Try.prog W 0 (fun _ => true) true 22 (.slice a0 len cap) d0 p) : ∃ xs, RI CRw 6 W a0 len xs ∧ ((∀ x ∈ xs, wfRw W x) ∧ len ≤ 9223372036854775807) ∧ len ≤ cap := by
  obtain ⟨xs, h1, h2, h3⟩ := open_items CRw (wfRw W) Try.underlying22 (by kernel_rfl) (by omega) opRow h0
  exact ⟨xs, h1, ⟨h2, slice_max Try.underlying22 h0⟩, h3⟩
theorem op_lo {H : Type} {enc : TypeId × Value → H} {W : World} (n : Nat) {c0 c1 c2 : Value} {y : DataW H × List MemPlace} (htr : DataW.trod enc Try.prog W 0 (fun _ => true) true n 52 [c0, c1, c2] = some y) : ∃ x : Lo, [c0, c1, c2] = CLo x ∧ wfLo x := by
  have ki : Try.prog.cellsOf 3 = 1 := by kernel_rfl
  have kk : Try.prog.cellsOf 27 = 2 := by kernel_rfl
  have ka : Try.prog.cellsOf 25 = 1 := by kernel_rfl
  obtain ⟨ys, n', _, _, _, hlen, hf⟩ := DataW.trod_struct Try.underlying52 htr
  match ys, hlen with
  | [y0, y1], _ =>
    have g0 : DataW.trod enc Try.prog W 0 (fun _ => true) true n' 3 [c0] = some y0 := by simpa [ki] using hf 0 _ rfl
    have g1 : DataW.trod enc Try.prog W 0 (fun _ => true) true n' 27 [c1, c2] = some y1 := by simpa [kk, ki] using hf 1 _ rfl
    obtain ⟨zs, n2, _, _, _, hlen2, hf2⟩ := DataW.trod_struct Try.underlying27 g1
    match zs, hlen2 with
    | [z0, z1], _ =>
      have f0 : DataW.trod enc Try.prog W 0 (fun _ => true) true n2 25 [c1] = some z0 := by simpa [ka] using hf2 0 _ rfl
      have f1 : DataW.trod enc Try.prog W 0 (fun _ => true) true n2 25 [c2] = some z1 := by simpa [ka] using hf2 1 _ rfl
      obtain ⟨a0, e0, _, w0⟩ := DataW.trod_int Try.underlying3 g0
      obtain ⟨a1, e1, _, w1⟩ := DataW.trod_int Try.underlying25 f0
      obtain ⟨a2, e2, _, w2⟩ := DataW.trod_int Try.underlying25 f1
      simp only [List.cons.injEq, and_true] at e0 e1 e2
      subst e0; subst e1; subst e2
      exact ⟨(a0, a1, a2), rfl, wf_i64 w0, wf_u32 w1, wf_u32 w2⟩
theorem opened_los {H : Type} {enc : TypeId × Value → H} {W : World} {a0 : Option Addr} {len cap : Nat} {d0 : DataW H} {p : List MemPlace}
    (h0 : DataW.Trod enc Try.prog W 0 (fun _ => true) true 23 (.slice a0 len cap) d0 p) : ∃ xs, RI CLo 3 W a0 len xs ∧ ((∀ x ∈ xs, wfLo x) ∧ len ≤ 9223372036854775807) ∧ len ≤ cap := by
  obtain ⟨xs, h1, h2, h3⟩ : ∃ xs, RI CLo 3 W a0 len xs ∧ (∀ x ∈ xs, wfLo x) ∧ len ≤ cap := by
    refine open_items CLo wfLo Try.underlying23 (by kernel_rfl) (by omega) ?_ h0
    intro n l y hl htr
    match l, hl with
    | [c0, c1, c2], _ => exact op_lo n htr
  exact ⟨xs, h1, ⟨h2, slice_max Try.underlying23 h0⟩, h3⟩
theorem array3g {α : Type} {cs : Array α} (h : cs.size = 3) : ∃ c0 c1 c2, cs = #[c0, c1, c2] := by
  obtain ⟨l⟩ := cs
  match l, h with
  | [c0, c1, c2], _ => exact ⟨c0, c1, c2, rfl⟩
set_option maxRecDepth 100000 in
theorem opened_pkt {H : Type} {enc : TypeId × Value → H} {W : World} {r : Reach} {b0 : Nat} {v : Value} {d : DataW H} {p : List MemPlace}
    (hv : Value.okWide Try.prog W r b0 29 v) (h : DataW.Trod enc Try.prog W 0 (fun _ => true) true 29 v d p) : ∃ x : (Int × Int) × Int, v = .agg #[.int .u32 x.1.1, .int .u32 x.1.2, .int .i64 x.2] ∧ (UK x.1 ∧ I64r x.2) := by
  obtain ⟨cs, rfl, hsz⟩ := okWide_struct Try.underlying29 hv
  obtain ⟨c0, c1, c2, rfl⟩ := array3g (hsz.trans (by kernel_rfl))
  obtain ⟨fuel, hfu⟩ := h
  have htr : DataW.trod enc Try.prog W 0 (fun _ => true) true fuel 29 [c0, c1, c2] = some _ := hfu
  have ki : Try.prog.cellsOf 3 = 1 := by kernel_rfl
  have kk : Try.prog.cellsOf 27 = 2 := by kernel_rfl
  have ka : Try.prog.cellsOf 25 = 1 := by kernel_rfl
  obtain ⟨ys, n', _, _, _, hlen, hf⟩ := DataW.trod_struct Try.underlying29 htr
  match ys, hlen with
  | [y0, y1], _ =>
    have g1 : DataW.trod enc Try.prog W 0 (fun _ => true) true n' 27 [c0, c1] = some y0 := by simpa [kk, ki] using hf 0 _ rfl
    have g0 : DataW.trod enc Try.prog W 0 (fun _ => true) true n' 3 [c2] = some y1 := by simpa [kk, ki] using hf 1 _ rfl
    obtain ⟨zs, n2, _, _, _, hlen2, hf2⟩ := DataW.trod_struct Try.underlying27 g1
    match zs, hlen2 with
    | [z0, z1], _ =>
      have f0 : DataW.trod enc Try.prog W 0 (fun _ => true) true n2 25 [c0] = some z0 := by simpa [ka] using hf2 0 _ rfl
      have f1 : DataW.trod enc Try.prog W 0 (fun _ => true) true n2 25 [c1] = some z1 := by simpa [ka] using hf2 1 _ rfl
      obtain ⟨a0, e0, _, w0⟩ := DataW.trod_int Try.underlying3 g0
      obtain ⟨a1, e1, _, w1⟩ := DataW.trod_int Try.underlying25 f0
      obtain ⟨a2, e2, _, w2⟩ := DataW.trod_int Try.underlying25 f1
      simp only [List.cons.injEq, and_true] at e0 e1 e2
      subst e0; subst e1; subst e2
      exact ⟨((a1, a2), a0), rfl, ⟨wf_u32 w1, wf_u32 w2⟩, wf_i64 w0⟩
end Go.Proofs.Yteibmegeoojleaa

