/- An argument that is a member, a row of members, opened. An argument that is a network, opened. -/
import Derived.Test.YtdljpokhcfhhfaaGreatDoorKit
import Derived.Test.YtdljpokhcfhhfaaGreatDoorCf
import Derived.Test.YtdljpokhcfhhfaaGreatDoorProg
import Derived.ProofKit
import Derived.OpenShut
import Derived.Test.YtdljpokhcfhhfaaGreatDoorLg
namespace Go.Proofs.YtdljpokhcfhhfaaGreatDoor
open Go.ChangeShapes Go.WideShapes Go.ChangeAt Go.RowKit Sm
theorem opened_ads {H : Type} {enc : TypeId × Value → H} {P : Program} {t e : TypeId} (ht : P.underlying t = some (.slice e)) (he : P.underlying e = some (.int .u32)) (hc : P.cellsOf e = 1) {W : World} {v : Value} {fuel : Nat} {x : DataW H × List MemPlace}
    (hf : DataW.trod enc P W 0 (fun _ => true) true fuel t [v] = some x) : ∃ A len cap xs, v = .slice A len cap ∧ AR W A len xs ∧ len ≤ cap ∧ len ≤ 9223372036854775807 := by
  rcases open_ints ht he hc hf with ⟨hcs, hx⟩ | ⟨a, len', cap', zs, hcs, _, hl, hm, hz, hx, hcell, hwz⟩
  · simp only [List.cons.injEq, and_true] at hcs
    subst hcs
    exact ⟨none, 0, 0, [], rfl, AR.none_ _ _, Nat.le_refl _, by decide⟩
  · simp only [List.cons.injEq, and_true] at hcs
    subst hcs
    simp only [if_true] at hz
    refine ⟨some a, len', cap', zs.take len', rfl, ⟨by simp; omega, fun x hx => wf_u32 (hwz x (List.mem_of_mem_take hx)), fun hn => ?_⟩, hl, by unfold maxLen at hm; omega⟩
    obtain ⟨b, o, s⟩ := a
    obtain rfl : s = none := by simpa [Addr.add] using World.cell?_spot (hcell 0 (by omega))
    refine ⟨b, o, rfl, ?_, fun i hi => ?_⟩
    · have := World.block_lt_of_cell? _ _ (hcell 0 (by omega))
      simpa [add_plain] using this
    · rw [← add_plain, hcell i (by omega)]
      simp [List.getD, hi]
theorem slice_shape {H : Type} {enc : TypeId × Value → H} {P : Program} {t e : TypeId} (ht : P.underlying t = some (.slice e)) {W : World} {v : Value} {fuel : Nat} {x : DataW H × List MemPlace}
    (hf : DataW.trod enc P W 0 (fun _ => true) true fuel t [v] = some x) : ∃ A len cap, v = .slice A len cap := by
  rcases Deep.open_slice ht hf with ⟨hcs, hx⟩ | ⟨a, len', cap', m, n, D, Pl, hcs, _⟩
  · simp only [List.cons.injEq, and_true] at hcs
    exact ⟨_, _, _, hcs⟩
  · simp only [List.cons.injEq, and_true] at hcs
    exact ⟨_, _, _, hcs⟩
def wfMember (W : World) (x : Mb) : Prop := U32 x.g ∧ AR W x.A x.n x.xs ∧ x.n ≤ x.c ∧ x.n ≤ 9223372036854775807
set_option maxRecDepth 100000 in
theorem opMember {H : Type} {enc : TypeId × Value → H} {W : World} (n : Nat) (l : List Value) (y : DataW H × List MemPlace) (hl : l.length = 4) (htr : DataW.trod enc Tryz.prog W 0 (fun _ => true) true n 115 l = some y) : ∃ x, l = CMember x ∧ wfMember W x := by
  have ki : Tryz.prog.cellsOf 3 = 1 := by kernel_rfl
  have ka : Tryz.prog.cellsOf 42 = 1 := by kernel_rfl
  have kb : Tryz.prog.cellsOf 4 = 1 := by kernel_rfl
  have kR : Tryz.prog.cellsOf 31 = 1 := by kernel_rfl
  match l, hl with
  | [c0, c1, c2, c3], _ =>
    obtain ⟨ys, n', _, _, _, hlen, hf⟩ := DataW.trod_struct Tryz.underlying115 htr
    match ys, hlen with
    | [y0, y1, y2, y3], _ =>
      have g0 : DataW.trod enc Tryz.prog W 0 (fun _ => true) true n' 3 [c0] = some y0 := by simpa [ki, ka, kb, kR] using hf 0 _ rfl
      obtain ⟨v0, e0, _, w0⟩ := DataW.trod_int Tryz.underlying3 g0
      have g1 : DataW.trod enc Tryz.prog W 0 (fun _ => true) true n' 42 [c1] = some y1 := by simpa [ki, ka, kb, kR] using hf 1 _ rfl
      obtain ⟨v1, e1, _, w1⟩ := DataW.trod_int Tryz.underlying42 g1
      have g2 : DataW.trod enc Tryz.prog W 0 (fun _ => true) true n' 4 [c2] = some y2 := by simpa [ki, ka, kb, kR] using hf 2 _ rfl
      obtain ⟨v2, e2, _⟩ := DataW.trod_bool Tryz.underlying4 g2
      have g3 : DataW.trod enc Tryz.prog W 0 (fun _ => true) true n' 31 [c3] = some y3 := by simpa [ki, ka, kb, kR] using hf 3 _ rfl
      obtain ⟨Aq, len, cap, xs, e3, hA, hlc, hlm⟩ := opened_ads Tryz.underlying31 Tryz.underlying42 ka g3
      simp only [List.cons.injEq, and_true] at e0 e1 e2
      subst e0
      subst e1
      subst e2
      subst e3
      exact ⟨⟨v0, v1, v2, Aq, len, cap, xs⟩, rfl, wf_u32 w1, hA, hlc, hlm⟩
theorem slice_max {H : Type} {enc : TypeId × Value → H} {P : Program} {t e : TypeId} (ht : P.underlying t = some (.slice e)) {W : World} {A : Option Addr} {len cap : Nat} {d : DataW H} {p : List MemPlace}
    (h : DataW.Trod enc P W 0 (fun _ => true) true t (.slice A len cap) d p) : len ≤ 9223372036854775807 := by
  obtain ⟨fuel, hf⟩ := h
  rcases Deep.open_slice ht hf with ⟨hcs, hx⟩ | ⟨a, len', cap', m, n, D, Pl, hcs, _, hl, hm, _⟩
  · simp [Value.cells] at hcs
    omega
  · simp [Value.cells] at hcs
    unfold maxLen at hm
    omega
theorem opened_mbs {H : Type} {enc : TypeId × Value → H} {W : World} {a0 : Option Addr} {len cap : Nat} {d0 : DataW H} {p : List MemPlace}
    (h0 : DataW.Trod enc Tryz.prog W 0 (fun _ => true) true 28 (.slice a0 len cap) d0 p) : ∃ xs, RI CMember 4 W a0 len xs ∧ ((∀ x ∈ xs, wfMember W x) ∧ len ≤ 9223372036854775807) ∧ len ≤ cap := by
  obtain ⟨xs, h1, h2, h3⟩ := open_items CMember (wfMember W) Tryz.underlying28 (by kernel_rfl) (by omega) opMember h0
  exact ⟨xs, h1, ⟨h2, slice_max Tryz.underlying28 h0⟩, h3⟩
theorem array4 {α : Type} {cs : Array α} (h : cs.size = 4) : ∃ c0 c1 c2 c3, cs = #[c0, c1, c2, c3] := by
  obtain ⟨l⟩ := cs
  match l, h with
  | [c0, c1, c2, c3], _ => exact ⟨c0, c1, c2, c3, rfl⟩
set_option maxRecDepth 100000 in
theorem opened_mb {H : Type} {enc : TypeId × Value → H} {W : World} {r : Reach} {b0 : Nat} {v : Value} {d : DataW H} {p : List MemPlace}
    (hv : Value.okWide Tryz.prog W r b0 115 v) (h : DataW.Trod enc Tryz.prog W 0 (fun _ => true) true 115 v d p) :
    ∃ x : Mb, v = .agg #[.int .i64 x.l, .int .u32 x.g, .bool x.o, .slice x.A x.n x.c] ∧ wfMember W x := by
  have hs := Tryz.underlying115
  obtain ⟨cs, rfl, hsz⟩ := okWide_struct hs hv
  obtain ⟨c0, c1, c2, c3, rfl⟩ := array4 (hsz.trans (by kernel_rfl))
  obtain ⟨fuel, hf⟩ := h
  obtain ⟨x, e, hw⟩ := opMember _ [c0, c1, c2, c3] _ rfl (by simpa [Value.cells] using hf)
  obtain ⟨l, g, o, A, n, c, xs⟩ := x
  simp only [CMember, List.cons.injEq, and_true] at e
  obtain ⟨rfl, rfl, rfl, rfl⟩ := e
  exact ⟨_, rfl, hw⟩
end Go.Proofs.YtdljpokhcfhhfaaGreatDoor
namespace Go.Proofs.YtdljpokhcfhhfaaGreatDoor
open Go.ChangeShapes Go.WideShapes Go.ChangeAt Go.RowKit Lx Sm
theorem str_of (s : ByteArray) : str s.data.toList = s := by simp [str]
def wfRouter (_W : World) (x : List UInt8 × Int) : Prop := (str x.1).size ≤ 9223372036854775807
def wfLink (_W : World) (x : List UInt8 × Int × Int) : Prop := U32 x.2.1 ∧ (str x.1).size ≤ 9223372036854775807
def wfPort (_W : World) (x : Int × Int × Int) : Prop := U32 x.2.2
def wfRoute (_W : World) (x : Int × Int × Int × Int × Int) : Prop := U32 x.2.1 ∧ U32 x.2.2.2.1
def wfRange (_W : World) (x : Int × Int × Int) : Prop := U32 x.1 ∧ U32 x.2.2
def wfSource (_W : World) (x : Int × Int × Int) : Prop := U32 x.2.1 ∧ U32 x.2.2
set_option maxRecDepth 100000 in
theorem opRouter {H : Type} {enc : TypeId × Value → H} {W : World} (n : Nat) (l : List Value) (y : DataW H × List MemPlace) (hl : l.length = 2) (htr : DataW.trod enc Tryz.prog W 0 (fun _ => true) true n 77 l = some y) : ∃ x, l = CRouter x ∧ wfRouter W x := by
  have ks : Tryz.prog.cellsOf 9 = 1 := by kernel_rfl
  have ki : Tryz.prog.cellsOf 3 = 1 := by kernel_rfl
  have ka : Tryz.prog.cellsOf 42 = 1 := by kernel_rfl
  have kb : Tryz.prog.cellsOf 4 = 1 := by kernel_rfl
  have kP : Tryz.prog.cellsOf 123 = 2 := by kernel_rfl
  have kK : Tryz.prog.cellsOf 57 = 2 := by kernel_rfl
  have kR : Tryz.prog.cellsOf 31 = 1 := by kernel_rfl
  match l, hl with
  | [c0, c1], _ =>
    obtain ⟨ys, n', _, _, _, hlen, hf⟩ := DataW.trod_struct Tryz.underlying77 htr
    match ys, hlen with
    | [y0, y1], _ =>
      have g0 : DataW.trod enc Tryz.prog W 0 (fun _ => true) true n' 9 [c0] = some y0 := by simpa [ks, ki, ka, kb, kP, kK, kR] using hf 0 _ rfl
      obtain ⟨v0, e0, _, w0⟩ := DataW.trod_string Tryz.underlying9 g0
      have g1 : DataW.trod enc Tryz.prog W 0 (fun _ => true) true n' 3 [c1] = some y1 := by simpa [ks, ki, ka, kb, kP, kK, kR] using hf 1 _ rfl
      obtain ⟨v1, e1, _, w1⟩ := DataW.trod_int Tryz.underlying3 g1
      simp only [List.cons.injEq, and_true] at e0 e1
      subst e0
      subst e1
      exact ⟨⟨v0.data.toList, v1⟩, by simp only [CRouter, str_of], (by show (str v0.data.toList).size ≤ _; rw [str_of]; have := w0; unfold maxLen at this; omega)⟩
set_option maxRecDepth 100000 in
theorem opLink {H : Type} {enc : TypeId × Value → H} {W : World} (n : Nat) (l : List Value) (y : DataW H × List MemPlace) (hl : l.length = 3) (htr : DataW.trod enc Tryz.prog W 0 (fun _ => true) true n 125 l = some y) : ∃ x, l = CLink x ∧ wfLink W x := by
  have ks : Tryz.prog.cellsOf 9 = 1 := by kernel_rfl
  have ki : Tryz.prog.cellsOf 3 = 1 := by kernel_rfl
  have ka : Tryz.prog.cellsOf 42 = 1 := by kernel_rfl
  have kb : Tryz.prog.cellsOf 4 = 1 := by kernel_rfl
  have kP : Tryz.prog.cellsOf 123 = 2 := by kernel_rfl
  have kK : Tryz.prog.cellsOf 57 = 2 := by kernel_rfl
  have kR : Tryz.prog.cellsOf 31 = 1 := by kernel_rfl
  match l, hl with
  | [c0, c1, c2], _ =>
    obtain ⟨ys, n', _, _, _, hlen, hf⟩ := DataW.trod_struct Tryz.underlying125 htr
    match ys, hlen with
    | [y0, y1], _ =>
      have g0 : DataW.trod enc Tryz.prog W 0 (fun _ => true) true n' 9 [c0] = some y0 := by simpa [ks, ki, ka, kb, kP, kK, kR] using hf 0 _ rfl
      obtain ⟨v0, e0, _, w0⟩ := DataW.trod_string Tryz.underlying9 g0
      have g1 : DataW.trod enc Tryz.prog W 0 (fun _ => true) true n' 123 [c1, c2] = some y1 := by simpa [ks, ki, ka, kb, kP, kK, kR] using hf 1 _ rfl
      obtain ⟨zs1, m1, _, _, _, hlen1, hk1⟩ := DataW.trod_struct Tryz.underlying123 g1
      obtain ⟨z10, z11, rfl⟩ : ∃ a b, zs1 = [a, b] := by match zs1, hlen1 with | [a, b], _ => exact ⟨a, b, rfl⟩
      have g10 : DataW.trod enc Tryz.prog W 0 (fun _ => true) true m1 42 [c1] = some z10 := by simpa [ka, ki] using hk1 0 _ rfl
      obtain ⟨v10, e10, _, w10⟩ := DataW.trod_int Tryz.underlying42 g10
      have g11 : DataW.trod enc Tryz.prog W 0 (fun _ => true) true m1 3 [c2] = some z11 := by simpa [ka, ki] using hk1 1 _ rfl
      obtain ⟨v11, e11, _, w11⟩ := DataW.trod_int Tryz.underlying3 g11
      simp only [List.cons.injEq, and_true] at e0 e10 e11
      subst e0
      subst e10
      subst e11
      exact ⟨⟨v0.data.toList, v10, v11⟩, by simp only [CLink, str_of], wf_u32 w10, (by show (str v0.data.toList).size ≤ _; rw [str_of]; have := w0; unfold maxLen at this; omega)⟩
set_option maxRecDepth 100000 in
theorem opPort {H : Type} {enc : TypeId × Value → H} {W : World} (n : Nat) (l : List Value) (y : DataW H × List MemPlace) (hl : l.length = 3) (htr : DataW.trod enc Tryz.prog W 0 (fun _ => true) true n 80 l = some y) : ∃ x, l = CPort x ∧ wfPort W x := by
  have ks : Tryz.prog.cellsOf 9 = 1 := by kernel_rfl
  have ki : Tryz.prog.cellsOf 3 = 1 := by kernel_rfl
  have ka : Tryz.prog.cellsOf 42 = 1 := by kernel_rfl
  have kb : Tryz.prog.cellsOf 4 = 1 := by kernel_rfl
  have kP : Tryz.prog.cellsOf 123 = 2 := by kernel_rfl
  have kK : Tryz.prog.cellsOf 57 = 2 := by kernel_rfl
  have kR : Tryz.prog.cellsOf 31 = 1 := by kernel_rfl
  match l, hl with
  | [c0, c1, c2], _ =>
    obtain ⟨ys, n', _, _, _, hlen, hf⟩ := DataW.trod_struct Tryz.underlying80 htr
    match ys, hlen with
    | [y0, y1, y2], _ =>
      have g0 : DataW.trod enc Tryz.prog W 0 (fun _ => true) true n' 3 [c0] = some y0 := by simpa [ks, ki, ka, kb, kP, kK, kR] using hf 0 _ rfl
      obtain ⟨v0, e0, _, w0⟩ := DataW.trod_int Tryz.underlying3 g0
      have g1 : DataW.trod enc Tryz.prog W 0 (fun _ => true) true n' 3 [c1] = some y1 := by simpa [ks, ki, ka, kb, kP, kK, kR] using hf 1 _ rfl
      obtain ⟨v1, e1, _, w1⟩ := DataW.trod_int Tryz.underlying3 g1
      have g2 : DataW.trod enc Tryz.prog W 0 (fun _ => true) true n' 42 [c2] = some y2 := by simpa [ks, ki, ka, kb, kP, kK, kR] using hf 2 _ rfl
      obtain ⟨v2, e2, _, w2⟩ := DataW.trod_int Tryz.underlying42 g2
      simp only [List.cons.injEq, and_true] at e0 e1 e2
      subst e0
      subst e1
      subst e2
      exact ⟨⟨v0, v1, v2⟩, rfl, wf_u32 w2⟩
set_option maxRecDepth 100000 in
theorem opRoute {H : Type} {enc : TypeId × Value → H} {W : World} (n : Nat) (l : List Value) (y : DataW H × List MemPlace) (hl : l.length = 5) (htr : DataW.trod enc Tryz.prog W 0 (fun _ => true) true n 128 l = some y) : ∃ x, l = CRoute x ∧ wfRoute W x := by
  have ks : Tryz.prog.cellsOf 9 = 1 := by kernel_rfl
  have ki : Tryz.prog.cellsOf 3 = 1 := by kernel_rfl
  have ka : Tryz.prog.cellsOf 42 = 1 := by kernel_rfl
  have kb : Tryz.prog.cellsOf 4 = 1 := by kernel_rfl
  have kP : Tryz.prog.cellsOf 123 = 2 := by kernel_rfl
  have kK : Tryz.prog.cellsOf 57 = 2 := by kernel_rfl
  have kR : Tryz.prog.cellsOf 31 = 1 := by kernel_rfl
  match l, hl with
  | [c0, c1, c2, c3, c4], _ =>
    obtain ⟨ys, n', _, _, _, hlen, hf⟩ := DataW.trod_struct Tryz.underlying128 htr
    match ys, hlen with
    | [y0, y1, y2, y3], _ =>
      have g0 : DataW.trod enc Tryz.prog W 0 (fun _ => true) true n' 3 [c0] = some y0 := by simpa [ks, ki, ka, kb, kP, kK, kR] using hf 0 _ rfl
      obtain ⟨v0, e0, _, w0⟩ := DataW.trod_int Tryz.underlying3 g0
      have g1 : DataW.trod enc Tryz.prog W 0 (fun _ => true) true n' 123 [c1, c2] = some y1 := by simpa [ks, ki, ka, kb, kP, kK, kR] using hf 1 _ rfl
      obtain ⟨zs1, m1, _, _, _, hlen1, hk1⟩ := DataW.trod_struct Tryz.underlying123 g1
      obtain ⟨z10, z11, rfl⟩ : ∃ a b, zs1 = [a, b] := by match zs1, hlen1 with | [a, b], _ => exact ⟨a, b, rfl⟩
      have g10 : DataW.trod enc Tryz.prog W 0 (fun _ => true) true m1 42 [c1] = some z10 := by simpa [ka, ki] using hk1 0 _ rfl
      obtain ⟨v10, e10, _, w10⟩ := DataW.trod_int Tryz.underlying42 g10
      have g11 : DataW.trod enc Tryz.prog W 0 (fun _ => true) true m1 3 [c2] = some z11 := by simpa [ka, ki] using hk1 1 _ rfl
      obtain ⟨v11, e11, _, w11⟩ := DataW.trod_int Tryz.underlying3 g11
      have g2 : DataW.trod enc Tryz.prog W 0 (fun _ => true) true n' 42 [c3] = some y2 := by simpa [ks, ki, ka, kb, kP, kK, kR] using hf 2 _ rfl
      obtain ⟨v2, e2, _, w2⟩ := DataW.trod_int Tryz.underlying42 g2
      have g3 : DataW.trod enc Tryz.prog W 0 (fun _ => true) true n' 3 [c4] = some y3 := by simpa [ks, ki, ka, kb, kP, kK, kR] using hf 3 _ rfl
      obtain ⟨v3, e3, _, w3⟩ := DataW.trod_int Tryz.underlying3 g3
      simp only [List.cons.injEq, and_true] at e0 e10 e11 e2 e3
      subst e0
      subst e10
      subst e11
      subst e2
      subst e3
      exact ⟨⟨v0, v10, v11, v2, v3⟩, rfl, wf_u32 w10, wf_u32 w2⟩
set_option maxRecDepth 100000 in
theorem opRange {H : Type} {enc : TypeId × Value → H} {W : World} (n : Nat) (l : List Value) (y : DataW H × List MemPlace) (hl : l.length = 3) (htr : DataW.trod enc Tryz.prog W 0 (fun _ => true) true n 149 l = some y) : ∃ x, l = CRange x ∧ wfRange W x := by
  have ks : Tryz.prog.cellsOf 9 = 1 := by kernel_rfl
  have ki : Tryz.prog.cellsOf 3 = 1 := by kernel_rfl
  have ka : Tryz.prog.cellsOf 42 = 1 := by kernel_rfl
  have kb : Tryz.prog.cellsOf 4 = 1 := by kernel_rfl
  have kP : Tryz.prog.cellsOf 123 = 2 := by kernel_rfl
  have kK : Tryz.prog.cellsOf 57 = 2 := by kernel_rfl
  have kR : Tryz.prog.cellsOf 31 = 1 := by kernel_rfl
  match l, hl with
  | [c0, c1, c2], _ =>
    obtain ⟨ys, n', _, _, _, hlen, hf⟩ := DataW.trod_struct Tryz.underlying149 htr
    match ys, hlen with
    | [y0, y1], _ =>
      have g0 : DataW.trod enc Tryz.prog W 0 (fun _ => true) true n' 123 [c0, c1] = some y0 := by simpa [ks, ki, ka, kb, kP, kK, kR] using hf 0 _ rfl
      obtain ⟨zs0, m0, _, _, _, hlen0, hk0⟩ := DataW.trod_struct Tryz.underlying123 g0
      obtain ⟨z00, z01, rfl⟩ : ∃ a b, zs0 = [a, b] := by match zs0, hlen0 with | [a, b], _ => exact ⟨a, b, rfl⟩
      have g00 : DataW.trod enc Tryz.prog W 0 (fun _ => true) true m0 42 [c0] = some z00 := by simpa [ka, ki] using hk0 0 _ rfl
      obtain ⟨v00, e00, _, w00⟩ := DataW.trod_int Tryz.underlying42 g00
      have g01 : DataW.trod enc Tryz.prog W 0 (fun _ => true) true m0 3 [c1] = some z01 := by simpa [ka, ki] using hk0 1 _ rfl
      obtain ⟨v01, e01, _, w01⟩ := DataW.trod_int Tryz.underlying3 g01
      have g1 : DataW.trod enc Tryz.prog W 0 (fun _ => true) true n' 42 [c2] = some y1 := by simpa [ks, ki, ka, kb, kP, kK, kR] using hf 1 _ rfl
      obtain ⟨v1, e1, _, w1⟩ := DataW.trod_int Tryz.underlying42 g1
      simp only [List.cons.injEq, and_true] at e00 e01 e1
      subst e00
      subst e01
      subst e1
      exact ⟨⟨v00, v01, v1⟩, rfl, wf_u32 w00, wf_u32 w1⟩
set_option maxRecDepth 100000 in
theorem opSource {H : Type} {enc : TypeId × Value → H} {W : World} (n : Nat) (l : List Value) (y : DataW H × List MemPlace) (hl : l.length = 3) (htr : DataW.trod enc Tryz.prog W 0 (fun _ => true) true n 147 l = some y) : ∃ x, l = CSource x ∧ wfSource W x := by
  have ks : Tryz.prog.cellsOf 9 = 1 := by kernel_rfl
  have ki : Tryz.prog.cellsOf 3 = 1 := by kernel_rfl
  have ka : Tryz.prog.cellsOf 42 = 1 := by kernel_rfl
  have kb : Tryz.prog.cellsOf 4 = 1 := by kernel_rfl
  have kP : Tryz.prog.cellsOf 123 = 2 := by kernel_rfl
  have kK : Tryz.prog.cellsOf 57 = 2 := by kernel_rfl
  have kR : Tryz.prog.cellsOf 31 = 1 := by kernel_rfl
  match l, hl with
  | [c0, c1, c2], _ =>
    obtain ⟨ys, n', _, _, _, hlen, hf⟩ := DataW.trod_struct Tryz.underlying147 htr
    match ys, hlen with
    | [y0, y1], _ =>
      have g0 : DataW.trod enc Tryz.prog W 0 (fun _ => true) true n' 3 [c0] = some y0 := by simpa [ks, ki, ka, kb, kP, kK, kR] using hf 0 _ rfl
      obtain ⟨v0, e0, _, w0⟩ := DataW.trod_int Tryz.underlying3 g0
      have g1 : DataW.trod enc Tryz.prog W 0 (fun _ => true) true n' 57 [c1, c2] = some y1 := by simpa [ks, ki, ka, kb, kP, kK, kR] using hf 1 _ rfl
      obtain ⟨zs1, m1, _, _, _, hlen1, hk1⟩ := DataW.trod_struct Tryz.underlying57 g1
      obtain ⟨z10, z11, rfl⟩ : ∃ a b, zs1 = [a, b] := by match zs1, hlen1 with | [a, b], _ => exact ⟨a, b, rfl⟩
      have g10 : DataW.trod enc Tryz.prog W 0 (fun _ => true) true m1 42 [c1] = some z10 := by simpa [ka, ki] using hk1 0 _ rfl
      obtain ⟨v10, e10, _, w10⟩ := DataW.trod_int Tryz.underlying42 g10
      have g11 : DataW.trod enc Tryz.prog W 0 (fun _ => true) true m1 42 [c2] = some z11 := by simpa [ka, ki] using hk1 1 _ rfl
      obtain ⟨v11, e11, _, w11⟩ := DataW.trod_int Tryz.underlying42 g11
      simp only [List.cons.injEq, and_true] at e0 e10 e11
      subst e0
      subst e10
      subst e11
      exact ⟨⟨v0, v10, v11⟩, rfl, wf_u32 w10, wf_u32 w11⟩
theorem array7 {α : Type} {cs : Array α} (h : cs.size = 7) : ∃ c0 c1 c2 c3 c4 c5 c6, cs = #[c0, c1, c2, c3, c4, c5, c6] := by
  obtain ⟨l⟩ := cs
  match l, h with
  | [c0, c1, c2, c3, c4, c5, c6], _ => exact ⟨c0, c1, c2, c3, c4, c5, c6, rfl⟩
set_option maxRecDepth 100000 in
theorem open_cfg {H : Type} {enc : TypeId × Value → H} {W : World} {r : Reach} {b0 : Nat} {v : Value} {d : DataW H} {p : List MemPlace}
    (hv : Value.okWide Tryz.prog W r b0 30 v) (h : DataW.Trod enc Tryz.prog W 0 (fun _ => true) true 30 v d p) :
    ∃ (M : Cm) (x : Cfg), v = .agg #[.slice M.r.A M.r.n M.r.c, .slice M.l.A M.l.n M.l.c, .slice M.p.A M.p.n M.p.c, .slice M.o.A M.o.n M.o.c, .slice M.g.A M.g.n M.g.c, .slice M.s.A M.s.n M.s.c, .slice M.m.A M.m.n M.m.c] ∧ LW W M x := by
  have hs := Tryz.underlying30
  obtain ⟨cs, rfl, hsz⟩ := okWide_struct hs hv
  obtain ⟨c0, c1, c2, c3, c4, c5, c6, rfl⟩ := array7 (hsz.trans (by kernel_rfl))
  obtain ⟨fuel, hf⟩ := h
  obtain ⟨xs, n, _, _, hl, hlen, hf⟩ := DataW.trod_struct hs hf
  have q0 : Tryz.prog.cellsOf 22 = 1 := by kernel_rfl
  have q1 : Tryz.prog.cellsOf 23 = 1 := by kernel_rfl
  have q2 : Tryz.prog.cellsOf 24 = 1 := by kernel_rfl
  have q3 : Tryz.prog.cellsOf 25 = 1 := by kernel_rfl
  have q4 : Tryz.prog.cellsOf 26 = 1 := by kernel_rfl
  have q5 : Tryz.prog.cellsOf 27 = 1 := by kernel_rfl
  have q6 : Tryz.prog.cellsOf 28 = 1 := by kernel_rfl
  match xs, hlen with
  | [y0, y1, y2, y3, y4, y5, y6], _ =>
    have g0 : DataW.trod enc Tryz.prog W 0 (fun _ => true) true n 22 [c0] = some y0 := by simpa [Value.cells, q0, q1, q2, q3, q4, q5, q6] using hf 0 _ rfl
    obtain ⟨A0, n0, k0, rfl⟩ := slice_shape Tryz.underlying22 g0
    obtain ⟨xs0, h0, hw0, hc0⟩ := open_items CRouter (wfRouter W) Tryz.underlying22 (k := 2) (by kernel_rfl) (by omega) opRouter (d0 := y0.1) (p := y0.2) (a0 := A0) (len := n0) (cap := k0) ⟨n, by simpa [Value.cells] using g0⟩
    have g1 : DataW.trod enc Tryz.prog W 0 (fun _ => true) true n 23 [c1] = some y1 := by simpa [Value.cells, q0, q1, q2, q3, q4, q5, q6] using hf 1 _ rfl
    obtain ⟨A1, n1, k1, rfl⟩ := slice_shape Tryz.underlying23 g1
    obtain ⟨xs1, h1, hw1, hc1⟩ := open_items CLink (wfLink W) Tryz.underlying23 (k := 3) (by kernel_rfl) (by omega) opLink (d0 := y1.1) (p := y1.2) (a0 := A1) (len := n1) (cap := k1) ⟨n, by simpa [Value.cells] using g1⟩
    have g2 : DataW.trod enc Tryz.prog W 0 (fun _ => true) true n 24 [c2] = some y2 := by simpa [Value.cells, q0, q1, q2, q3, q4, q5, q6] using hf 2 _ rfl
    obtain ⟨A2, n2, k2, rfl⟩ := slice_shape Tryz.underlying24 g2
    obtain ⟨xs2, h2, hw2, hc2⟩ := open_items CPort (wfPort W) Tryz.underlying24 (k := 3) (by kernel_rfl) (by omega) opPort (d0 := y2.1) (p := y2.2) (a0 := A2) (len := n2) (cap := k2) ⟨n, by simpa [Value.cells] using g2⟩
    have g3 : DataW.trod enc Tryz.prog W 0 (fun _ => true) true n 25 [c3] = some y3 := by simpa [Value.cells, q0, q1, q2, q3, q4, q5, q6] using hf 3 _ rfl
    obtain ⟨A3, n3, k3, rfl⟩ := slice_shape Tryz.underlying25 g3
    obtain ⟨xs3, h3, hw3, hc3⟩ := open_items CRoute (wfRoute W) Tryz.underlying25 (k := 5) (by kernel_rfl) (by omega) opRoute (d0 := y3.1) (p := y3.2) (a0 := A3) (len := n3) (cap := k3) ⟨n, by simpa [Value.cells] using g3⟩
    have g4 : DataW.trod enc Tryz.prog W 0 (fun _ => true) true n 26 [c4] = some y4 := by simpa [Value.cells, q0, q1, q2, q3, q4, q5, q6] using hf 4 _ rfl
    obtain ⟨A4, n4, k4, rfl⟩ := slice_shape Tryz.underlying26 g4
    obtain ⟨xs4, h4, hw4, hc4⟩ := open_items CRange (wfRange W) Tryz.underlying26 (k := 3) (by kernel_rfl) (by omega) opRange (d0 := y4.1) (p := y4.2) (a0 := A4) (len := n4) (cap := k4) ⟨n, by simpa [Value.cells] using g4⟩
    have g5 : DataW.trod enc Tryz.prog W 0 (fun _ => true) true n 27 [c5] = some y5 := by simpa [Value.cells, q0, q1, q2, q3, q4, q5, q6] using hf 5 _ rfl
    obtain ⟨A5, n5, k5, rfl⟩ := slice_shape Tryz.underlying27 g5
    obtain ⟨xs5, h5, hw5, hc5⟩ := open_items CSource (wfSource W) Tryz.underlying27 (k := 3) (by kernel_rfl) (by omega) opSource (d0 := y5.1) (p := y5.2) (a0 := A5) (len := n5) (cap := k5) ⟨n, by simpa [Value.cells] using g5⟩
    have g6 : DataW.trod enc Tryz.prog W 0 (fun _ => true) true n 28 [c6] = some y6 := by simpa [Value.cells, q0, q1, q2, q3, q4, q5, q6] using hf 6 _ rfl
    obtain ⟨A6, n6, k6, rfl⟩ := slice_shape Tryz.underlying28 g6
    obtain ⟨xs6, h6, hw6, hc6⟩ := open_items CMember (wfMember W) Tryz.underlying28 (k := 4) (by kernel_rfl) (by omega) opMember (d0 := y6.1) (p := y6.2) (a0 := A6) (len := n6) (cap := k6) ⟨n, by simpa [Value.cells] using g6⟩
    refine ⟨⟨⟨A0, n0, k0⟩, ⟨A1, n1, k1⟩, ⟨A2, n2, k2⟩, ⟨A3, n3, k3⟩, ⟨A4, n4, k4⟩, ⟨A5, n5, k5⟩, ⟨A6, n6, k6⟩⟩, ⟨xs0, xs1, xs2, xs3, xs4, xs5, xs6⟩, rfl, ⟨h0, h1, h2, h3, h4, h5, h6, hc0, hc1, hc2, hc3, hc4, hc5, hc6, fun y hy => (hw6 y hy).2, ⟨fun y hy => (hw1 y hy).1, fun y hy => hw2 y hy, fun y hy => hw3 y hy, fun y hy => hw4 y hy, fun y hy => hw5 y hy, fun y hy => (hw6 y hy).1⟩, fun y hy => hw0 y hy, fun y hy => (hw1 y hy).2⟩⟩
end Go.Proofs.YtdljpokhcfhhfaaGreatDoor

