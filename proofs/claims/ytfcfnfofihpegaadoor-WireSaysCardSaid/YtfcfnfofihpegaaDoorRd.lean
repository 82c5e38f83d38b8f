/- Words for a reader: a variable of the call's own that holds the rest of some bytes, and what was amiss. -/
import Derived.Test.YtfcfnfofihpegaaDoorSlip
import Derived.Test.YtfcfnfofihpegaaDoorProg
namespace Go.Proofs.YtfcfnfofihpegaaDoor
open Go.RowKit Sm
/-- nothing but one elder block has changed -/
theorem only_refl (w : World) (r : Option Nat) : w.grownBy w r := ⟨rfl, rfl, rfl, Nat.le_refl _, fun _ _ _ => rfl⟩
theorem only_trans {w w1 w2 : World} {r r' : Option Nat} (h : w.grownBy w1 r) (g : w1.grownBy w2 r') (hr : ∀ k, r' = some k → r = some k ∨ w.heap.size ≤ k) : w.grownBy w2 r :=
  ⟨g.os.trans h.os, g.tape.trans h.tape, g.output.trans h.output, Nat.le_trans h.size g.size, fun k hk hne => by
    rw [g.block k (Nat.lt_of_lt_of_le hk h.size) (fun e => by rcases hr k e.symm with h1 | h1; exact hne h1.symm; omega)]
    exact h.block k hk hne⟩
theorem only_store (w : World) (N i : Nat) (u : Value) : w.grownBy (w.setCell ⟨N, i, none⟩ u) (some N) :=
  ⟨rfl, rfl, rfl, by simp, fun k _ hne => Below.heap_setCell w ⟨N, i, none⟩ u k (fun e => hne (by simpa using e))⟩
theorem only_alloc (w : World) (o : Obj) (r : Option Nat) : w.grownBy (w.alloc o) r := World.grownBy_alloc w o r
theorem only_below {w w1 : World} {N B : Nat} (h : w.grownBy w1 (some N)) (hB : B ≤ N) (hw : B ≤ w.heap.size) : Below B w w1 :=
  ⟨h.os, h.tape, h.output, h.size, fun k hk => h.block k (by omega) (by intro e; cases e; omega)⟩
theorem below_only {w w1 : World} {r : Option Nat} (h : Below w.heap.size w w1) : w.grownBy w1 r := ⟨h.os, h.tape, h.output, h.size, fun k hk _ => h.block k hk⟩
theorem Blk.only {w w1 : World} {M : Nat} {r : Option Nat} {t : TypeId} {cs : Array Value} (h : Blk w M t cs) (g : w.grownBy w1 r) (hne : r ≠ some M) : Blk w1 M t cs := (g.block M h.lt (fun e => hne e.symm)).trans h
/-- the reader at block N, of bytes that lie below B: p of them are taken -/
def RS (B : Nat) (w : World) (N : Nat) (xs : List Int) (p : Nat) (od : Bool) : Prop :=
  B ≤ N ∧ IsB xs ∧ ∃ A n c, Blk w N 70 #[.slice A n c, .bool (decide (xs.length < p)), .bool od] ∧ n = xs.length - p ∧ n ≤ c ∧
    (0 < n → ∃ b o, A = some ⟨b, o, none⟩ ∧ b < B ∧ ∀ i, i < n → w.cell? ⟨b, o + i, none⟩ = some (.int .u8 (xs.getD (p + i) 0)))
section
variable {B N p M : Nat} {w w' : World} {xs : List Int} {od : Bool}
theorem RS.lt (h : RS B w N xs p od) : N < w.heap.size := by
  obtain ⟨_, _, A, n, c, h, _⟩ := h
  exact h.lt
theorem RS.le (h : RS B w N xs p od) : B ≤ N := h.1
theorem RS.isB (h : RS B w N xs p od) : IsB xs := h.2.1
theorem RS.keep (h : RS B w N xs p od) (hb : Below B w w') (hN : w'.heap[N]? = w.heap[N]?) : RS B w' N xs p od := by
  obtain ⟨h1, h2, A, n, c, h3, h4, h5, h6⟩ := h
  refine ⟨h1, h2, A, n, c, hN.trans h3, h4, h5, fun hn => ?_⟩
  obtain ⟨b, o, e, hlt, hc⟩ := h6 hn
  exact ⟨b, o, e, hlt, fun i hi => (hb.cell (p := ⟨b, o + i, none⟩) hlt).trans (hc i hi)⟩
theorem RS.only (h : RS B w N xs p od) {M : Nat} (g : w.grownBy w' (some M)) (hM : N < M) : RS B w' N xs p od :=
  h.keep (only_below g (by have := h.1; omega) (by have := h.lt; have := h.1; omega)) (g.block N h.lt (by intro e; cases e; omega))
theorem RS.next (h : RS B w N xs p od) (hb : Below w.heap.size w w') : RS B w' N xs p od :=
  h.keep (hb.mono (by have := h.lt; have := h.1; omega)) (hb.block N h.lt)
theorem RS.alloc (h : RS B w N xs p od) (o : Obj) : RS B (w.alloc o) N xs p od := h.next ((Below.refl _ _).alloc (Nat.le_refl _) o)
theorem RS.store (h : RS B w N xs p od) (hM : N < M) (i : Nat) (u : Value) : RS B (w.setCell ⟨M, i, none⟩ u) N xs p od := h.only (only_store w M i u) hM
end
theorem ras_snoc (xs : List Int) : ∀ (n p : Nat), ras xs p (n + 1) = ras xs p n ++ [ra xs (p + 4 * n)]
  | 0, _ => rfl
  | n + 1, p => by
    have e := ras_snoc xs n (p + 4)
    show ra xs p :: ras xs (p + 4) (n + 1) = ra xs p :: (ras xs (p + 4) n ++ [ra xs (p + 4 * (n + 1))])
    rw [e, show p + 4 + 4 * n = p + 4 * (n + 1) by omega]
end Go.Proofs.YtfcfnfofihpegaaDoor
