/- What the walk of AddrSays holds on to. -/
import Derived.Test.YtcnkbhmhbbpmhaaDoorReadTx
import Derived.Test.YtcnkbhmhbbpmhaaDoorAddrPrefixes
namespace Go.Proofs.YtcnkbhmhbbpmhaaDoor
open Go.RowKit
theorem pqb {N N1 M : Nat} {w W : World} {t u : TypeId} {c1 c2 c3 c4 c5 c6 c7 c8 : Value} (hP : Blk W N t #[c1, c2]) (hQ : Blk W N1 t #[c3, c4]) (hB : Blk W M u #[c5, c6, c7, c8]) (hW : Below w.heap.size w W) :
    W.cell? ⟨N, 0, none⟩ = some c1 ∧ W.cell? ⟨N, 1, none⟩ = some c2 ∧ W.cell? ⟨N1, 0, none⟩ = some c3 ∧ W.cell? ⟨N1, 1, none⟩ = some c4 ∧ W.cell? ⟨M, 0, none⟩ = some c5 ∧ W.cell? ⟨M, 1, none⟩ = some c6 ∧ W.cell? ⟨M, 2, none⟩ = some c7 ∧ W.cell? ⟨M, 3, none⟩ = some c8 ∧
    N < W.heap.size ∧ N1 < W.heap.size ∧ M < W.heap.size ∧ Below w.heap.size w W :=
  ⟨hP.cell 0, hP.cell 1, hQ.cell 0, hQ.cell 1, hB.cell 0, hB.cell 1, hB.cell 2, hB.cell 3, hP.lt, hQ.lt, hB.lt, hW⟩
section
variable {N N1 M : Nat} {w W : World} {c1 c2 c3 c4 c5 c6 c7 c8 : Option Value}
theorem pqb_next {w1 : World} (h : W.cell? ⟨N, 0, none⟩ = c1 ∧ W.cell? ⟨N, 1, none⟩ = c2 ∧ W.cell? ⟨N1, 0, none⟩ = c3 ∧ W.cell? ⟨N1, 1, none⟩ = c4 ∧ W.cell? ⟨M, 0, none⟩ = c5 ∧ W.cell? ⟨M, 1, none⟩ = c6 ∧ W.cell? ⟨M, 2, none⟩ = c7 ∧ W.cell? ⟨M, 3, none⟩ = c8 ∧
    N < W.heap.size ∧ N1 < W.heap.size ∧ M < W.heap.size ∧ Below w.heap.size w W) (hb : Below W.heap.size W w1) :
    w1.cell? ⟨N, 0, none⟩ = c1 ∧ w1.cell? ⟨N, 1, none⟩ = c2 ∧ w1.cell? ⟨N1, 0, none⟩ = c3 ∧ w1.cell? ⟨N1, 1, none⟩ = c4 ∧ w1.cell? ⟨M, 0, none⟩ = c5 ∧ w1.cell? ⟨M, 1, none⟩ = c6 ∧ w1.cell? ⟨M, 2, none⟩ = c7 ∧ w1.cell? ⟨M, 3, none⟩ = c8 ∧
    N < w1.heap.size ∧ N1 < w1.heap.size ∧ M < w1.heap.size ∧ Below w.heap.size w w1 := by
  obtain ⟨h1, h2, h3, h4, h5, h6, h7, h8, hN, hN1, hM, hW⟩ := h
  exact ⟨(hb.cell (p := ⟨N, 0, none⟩) hN).trans h1, (hb.cell (p := ⟨N, 1, none⟩) hN).trans h2, (hb.cell (p := ⟨N1, 0, none⟩) hN1).trans h3, (hb.cell (p := ⟨N1, 1, none⟩) hN1).trans h4,
    (hb.cell (p := ⟨M, 0, none⟩) hM).trans h5, (hb.cell (p := ⟨M, 1, none⟩) hM).trans h6, (hb.cell (p := ⟨M, 2, none⟩) hM).trans h7, (hb.cell (p := ⟨M, 3, none⟩) hM).trans h8,
    Nat.lt_of_lt_of_le hN hb.size, Nat.lt_of_lt_of_le hN1 hb.size, Nat.lt_of_lt_of_le hM hb.size, hW.trans (hb.mono hW.size)⟩
theorem pqb_drew (h : W.cell? ⟨N, 0, none⟩ = c1 ∧ W.cell? ⟨N, 1, none⟩ = c2 ∧ W.cell? ⟨N1, 0, none⟩ = c3 ∧ W.cell? ⟨N1, 1, none⟩ = c4 ∧ W.cell? ⟨M, 0, none⟩ = c5 ∧ W.cell? ⟨M, 1, none⟩ = c6 ∧ W.cell? ⟨M, 2, none⟩ = c7 ∧ W.cell? ⟨M, 3, none⟩ = c8 ∧
    N < W.heap.size ∧ N1 < W.heap.size ∧ M < W.heap.size ∧ Below w.heap.size w W) :
    W.drew.cell? ⟨N, 0, none⟩ = c1 ∧ W.drew.cell? ⟨N, 1, none⟩ = c2 ∧ W.drew.cell? ⟨N1, 0, none⟩ = c3 ∧ W.drew.cell? ⟨N1, 1, none⟩ = c4 ∧ W.drew.cell? ⟨M, 0, none⟩ = c5 ∧ W.drew.cell? ⟨M, 1, none⟩ = c6 ∧ W.drew.cell? ⟨M, 2, none⟩ = c7 ∧ W.drew.cell? ⟨M, 3, none⟩ = c8 ∧
    N < W.drew.heap.size ∧ N1 < W.drew.heap.size ∧ M < W.drew.heap.size ∧ Below w.heap.size w W.drew :=
  ⟨h.1, h.2.1, h.2.2.1, h.2.2.2.1, h.2.2.2.2.1, h.2.2.2.2.2.1, h.2.2.2.2.2.2.1, h.2.2.2.2.2.2.2.1, h.2.2.2.2.2.2.2.2.1, h.2.2.2.2.2.2.2.2.2.1, h.2.2.2.2.2.2.2.2.2.2.1, h.2.2.2.2.2.2.2.2.2.2.2.drew⟩
theorem pqb_env (hT : EnvT w) (h : W.cell? ⟨N, 0, none⟩ = c1 ∧ W.cell? ⟨N, 1, none⟩ = c2 ∧ W.cell? ⟨N1, 0, none⟩ = c3 ∧ W.cell? ⟨N1, 1, none⟩ = c4 ∧ W.cell? ⟨M, 0, none⟩ = c5 ∧ W.cell? ⟨M, 1, none⟩ = c6 ∧ W.cell? ⟨M, 2, none⟩ = c7 ∧ W.cell? ⟨M, 3, none⟩ = c8 ∧
    N < W.heap.size ∧ N1 < W.heap.size ∧ M < W.heap.size ∧ Below w.heap.size w W) : EnvT W := hT.below h.2.2.2.2.2.2.2.2.2.2.2
end
def nilOr (er : Value) (is : Bool) (E : Value) : Prop := (is = true ∧ E = .nilIface) ∨ (is = false ∧ E = er)
theorem parse_gen (er : Value) (o : Option Int) : ∃ (x : Int) (E : Value) (is : Bool), parseV er o = .tuple #[.int .u32 x, E] ∧ rparseV o = .tuple #[.int .u32 x, .bool is] ∧ nilOr er is E := by
  cases o with
  | none => exact ⟨0, er, false, rfl, rfl, .inr ⟨rfl, rfl⟩⟩
  | some x => exact ⟨x, .nilIface, true, rfl, rfl, .inl ⟨rfl, rfl⟩⟩
theorem pref_gen (er : Value) (o : Option (Int × Int)) : ∃ (x y : Int) (E : Value) (is : Bool), prefV er o = .tuple #[.agg #[.int .u32 x, .int .i64 y], E] ∧ rprefV o = .tuple #[.agg #[.int .u32 x, .int .i64 y], .bool is] ∧ nilOr er is E := by
  cases o with
  | none => exact ⟨0, 0, er, false, rfl, rfl, .inr ⟨rfl, rfl⟩⟩
  | some x => exact ⟨x.1, x.2, .nilIface, true, rfl, rfl, .inl ⟨rfl, rfl⟩⟩
end Go.Proofs.YtcnkbhmhbbpmhaaDoor
