/- A table whose map and lists lie from a place on; arguments that are messages, things; over the seat's program. -/
import Derived.Test.YtnnppoamdllebaaAf
import Derived.Test.YtnnppoamdllebaaOpenM
import Derived.ProofKit
import Derived.OpenShut
namespace Go.Proofs.Ytnnppoamdllebaa
open Go.ChangeShapes Go.WideShapes Go.ChangeAt Go.RowKit Go.MapKept Go.ChangeMaps Sm Ag
/-- blocks from a place on, and one more, are as they were -/
structure Old (B N : Nat) (w w' : World) : Prop where
  os : w'.os = w.os
  tape : w'.tape = w.tape
  output : w'.output = w.output
  size : w.heap.size ≤ w'.heap.size
  block : ∀ i, i < w.heap.size → B ≤ i ∨ i = N → w'.heap[i]? = w.heap[i]?
/-- a table that holds these; all but its variable lies from B on -/
def TQ (w : World) (B N : Nat) (mb : Option Nat) (M : List En) : Prop := ∃ T, TB w N mb T ∧ es T = M ∧ (∀ j, mb = some j → B ≤ j) ∧ ∀ p ∈ T, NewB B p.2.A p.2.n
theorem TQ.tp {w : World} {B N : Nat} {mb : Option Nat} {M : List En} (h : TQ w B N mb M) : TP w N mb M := by
  obtain ⟨T, h1, h2, _⟩ := h
  exact ⟨T, h1, h2⟩
theorem TQ.old {w w' : World} {B N : Nat} {mb : Option Nat} {M : List En} (h : TQ w B N mb M) (ho : Old B N w w') : TQ w' B N mb M := by
  obtain ⟨T, h1, h2, h3, h4⟩ := h
  refine ⟨T, ⟨(ho.block N h1.ltN (.inr rfl)).trans h1.box, ?_⟩, h2, h3, h4⟩
  rcases h1.map with h5 | ⟨b, ck, rfl, hm⟩
  · exact .inl h5
  · refine .inr ⟨b, ck, rfl, (ho.block b hm.lt (.inl (h3 b rfl))).trans hm.block, hm.born, hm.once, hm.apart, fun p hp => ?_⟩
    have hg := hm.each p hp
    refine ⟨hg.1, hg.2.1, hg.2.2.1.far ho.size (fun hn => ?_), hg.2.2.2⟩
    obtain ⟨g, e1, e2⟩ := h4 p hp hn
    obtain ⟨g', o', e3, hlt, _⟩ := hg.2.2.1.2.2 hn
    rw [e1] at e3
    cases e3
    exact ⟨g, 0, e1, ho.block g hlt (.inl e2)⟩
theorem hear_first (w : World) (N : Nat) (x : Th) (m : Ms) (A : Option Addr) (n cp : Nat) (h : TB w N none []) (hx : wfT x) (ha : AR w A n m.l) (hn : n ≤ 1000000) :
    Calls Try.prog 10 #[.pointer (some ⟨N, 0, none⟩), tv x, mv m A n cp] w fun e w' => e = .returned (.bool true) ∧ ∃ mb, TQ w' w.heap.size N mb [⟨x, 0, m⟩] ∧ Chg w w' N none := by
  refine (hear_any w N none [] x m A n cp h hx (by simp) ha hn).mono ?_
  rintro e w' ⟨rfl, mb', ck, A', c', h2, h3, h4, h5⟩
  refine ⟨rfl, mb', ⟨_, h2, rfl, fun j hj => (h4 j hj).resolve_left (by simp), fun p hp => ?_⟩, h3⟩
  have e : put [] ck ⟨⟨x, 0, m⟩, A', n, c'⟩ = [(ck, ⟨⟨x, 0, m⟩, A', n, c'⟩)] := rfl
  rw [e, List.mem_singleton] at hp
  subst hp
  exact h5
theorem own_keep {w w' : World} {base size n : Nat} {e : TypeId} {v : Value} {xs : List Value} (h : w.ownsRow base e size v n xs) (hk : ∀ g, v.ownBlock = some g → w'.heap[g]? = w.heap[g]?) : w'.ownsRow base e size v n xs := by
  refine ⟨h.1, ?_⟩
  rcases h.2 with hn | ⟨g, cap, cur, rfl, hb, hgg, rest⟩
  · exact .inl hn
  · exact .inr ⟨g, cap, cur, rfl, hb, (hk g rfl).trans hgg, rest⟩
theorem own_frozen {w : World} {base size n g c : Nat} {e : TypeId} {ys : List Value} (h : w.ownsRow base e size (.slice (some ⟨g, 0, none⟩) n c) n ys) (i : Nat) : w.frozen? ⟨g, i, none⟩ = false := by
  rcases h.2 with ⟨hv, _⟩ | ⟨g', cap, cur, hv, _, hh, _⟩
  · cases hv
  · cases hv
    simp [World.frozen?, hh]
/-- all but one block is as it was -/
structure One (g : Nat) (w w' : World) : Prop where
  os : w'.os = w.os
  tape : w'.tape = w.tape
  output : w'.output = w.output
  size : w'.heap.size = w.heap.size
  block : ∀ i, i ≠ g → w'.heap[i]? = w.heap[i]?
theorem One.refl (g : Nat) (w : World) : One g w w := ⟨rfl, rfl, rfl, rfl, fun _ _ => rfl⟩
theorem One.set_ {g : Nat} {w w' : World} (h : One g w w') (i : Nat) (v : Value) : One g w (w'.setCell ⟨g, i, none⟩ v) :=
  ⟨h.os, h.tape, h.output, by simpa using h.size, fun j hj => (Below.heap_setCell _ _ _ j (by simpa using hj)).trans (h.block j hj)⟩
theorem One.old {g B N : Nat} {w w' : World} (h : One g w w') (hB : g < B) (hN : g ≠ N) : Old B N w w' :=
  ⟨h.os, h.tape, h.output, Nat.le_of_eq h.size.symm, fun i _ hi => h.block i (by rcases hi with h1 | h1 <;> omega)⟩
theorem One.below {g B : Nat} {w w' : World} (h : One g w w') (hB : B ≤ g) : Below B w w' := ⟨h.os, h.tape, h.output, Nat.le_of_eq h.size.symm, fun i hi => h.block i (by omega)⟩
theorem One.blk {g : Nat} {w w' : World} (h : One g w w') {q : Nat} {t : TypeId} {cs : Array Value} (hq : Blk w q t cs) (hn : q ≠ g) : Blk w' q t cs := (h.block q hn).trans hq
/-! arguments -/
structure MsS where
  m : Ms
  A : Option Addr
  n : Nat
  c : Nat
theorem opened_msg {H : Type} {enc : TypeId × Value → H} {W : World} {r : Reach} {b0 : Nat} {v : Value} {d : DataW H} {p : List MemPlace}
    (hv : Value.okWide Try.prog W r b0 40 v) (h : DataW.Trod enc Try.prog W 0 (fun _ => true) true 40 v d p) : ∃ x : MsS, v = mv x.m x.A x.n x.c ∧ wfm x.m ∧ AR W x.A x.n x.m.l := by
  obtain ⟨m, A, n, c, h1, h2, h3⟩ := open_msg hv h
  exact ⟨⟨m, A, n, c⟩, h1, h2, h3⟩
theorem array5 {α : Type} {cs : Array α} (h : cs.size = 5) : ∃ c0 c1 c2 c3 c4, cs = #[c0, c1, c2, c3, c4] := by
  obtain ⟨l⟩ := cs
  match l, h with
  | [c0, c1, c2, c3, c4], _ => exact ⟨c0, c1, c2, c3, c4, rfl⟩
theorem isA_wf {x : Int} (h : (Lit.int .u32 x).wf = true) : isA x := isA_of_wf h
theorem i64_wf {x : Int} (h : (Lit.int .i64 x).wf = true) : i64 x := wf_i64 h
/-- a thing's cells, read -/
theorem op_thing {H : Type} {enc : TypeId × Value → H} {W : World} (n : Nat) {c0 c1 c2 c3 c4 : Value} {y : DataW H × List MemPlace} (hf : DataW.trod enc Try.prog W 0 (fun _ => true) true n 28 [c0, c1, c2, c3, c4] = some y) : ∃ x : Th, [c0, c1, c2, c3, c4] = (tv x).cells.toList ∧ wfT x := by
  have hs := Try.underlying28
  obtain ⟨xs, n, _, _, hl, hlen, hf⟩ := DataW.trod_struct hs hf
  have ki : Try.prog.cellsOf 3 = 1 := by kernel_rfl
  have ka : Try.prog.cellsOf 24 = 1 := by kernel_rfl
  have kk : Try.prog.cellsOf 26 = 2 := by kernel_rfl
  match xs, hlen with
  | [y0, y1, y2, y3], _ =>
    have g0 : DataW.trod enc Try.prog W 0 (fun _ => true) true n 3 [c0] = some y0 := by simpa [ki] using hf 0 _ rfl
    have g1 : DataW.trod enc Try.prog W 0 (fun _ => true) true n 3 [c1] = some y1 := by simpa [ki] using hf 1 _ rfl
    have g2 : DataW.trod enc Try.prog W 0 (fun _ => true) true n 24 [c2] = some y2 := by simpa [ka] using hf 2 _ rfl
    have g3 : DataW.trod enc Try.prog W 0 (fun _ => true) true n 26 [c3, c4] = some y3 := by simpa [kk] using hf 3 _ rfl
    obtain ⟨zs, n', _, _, _, hlen', hk⟩ := DataW.trod_struct Try.underlying26 g3
    obtain ⟨a0, e0, _, w0⟩ := DataW.trod_int Try.underlying3 g0
    obtain ⟨a1, e1, _, w1⟩ := DataW.trod_int Try.underlying3 g1
    obtain ⟨a2, e2, _, w2⟩ := DataW.trod_int Try.underlying24 g2
    match zs, hlen' with
    | [z0, z1], _ =>
      have k0 : DataW.trod enc Try.prog W 0 (fun _ => true) true n' 24 [c3] = some z0 := by simpa [ka] using hk 0 _ rfl
      have k1 : DataW.trod enc Try.prog W 0 (fun _ => true) true n' 24 [c4] = some z1 := by simpa [ka] using hk 1 _ rfl
      obtain ⟨a3, e3, _, w3⟩ := DataW.trod_int Try.underlying24 k0
      obtain ⟨a4, e4, _, w4⟩ := DataW.trod_int Try.underlying24 k1
      simp only [List.cons.injEq, and_true] at e0 e1 e2 e3 e4
      subst e0 e1 e2 e3 e4
      exact ⟨(a0, a1, a2, a3, a4), rfl, i64_wf w0, i64_wf w1, isA_wf w2, isA_wf w3, isA_wf w4⟩
theorem opened_th {H : Type} {enc : TypeId × Value → H} {W : World} {r : Reach} {b0 : Nat} {v : Value} {d : DataW H} {p : List MemPlace}
    (hv : Value.okWide Try.prog W r b0 28 v) (h : DataW.Trod enc Try.prog W 0 (fun _ => true) true 28 v d p) : ∃ x : Th, v = tv x ∧ wfT x := by
  obtain ⟨cs, rfl, hsz⟩ := okWide_struct Try.underlying28 hv
  obtain ⟨c0, c1, c2, c3, c4, rfl⟩ := array5 (hsz.trans (by kernel_rfl))
  obtain ⟨fuel, hf⟩ := h
  obtain ⟨x, e, hw⟩ := op_thing fuel (c0 := c0) (c1 := c1) (c2 := c2) (c3 := c3) (c4 := c4) hf
  refine ⟨x, ?_, hw⟩
  have e' : [c0, c1, c2, c3, c4] = [Value.int .i64 x.1, .int .i64 x.2.1, .int .u32 x.2.2.1, .int .u32 x.2.2.2.1, .int .u32 x.2.2.2.2] := e
  simp only [List.cons.injEq, and_true] at e'
  obtain ⟨rfl, rfl, rfl, rfl, rfl⟩ := e'
  rfl
end Go.Proofs.Ytnnppoamdllebaa

