/- A row of bytes that the call owns, as a list of bytes; what it is as a text. No program is imported. -/
import Derived.Test.YthnchjmbjeooiaaDoorStr
import Derived.Laws.IdiomStrings
import Derived.WideShapes
namespace Go.Proofs.YthnchjmbjeooiaaDoor
open Go.RowKit Lx
def UB (l : List UInt8) : List Value := l.map fun b => .int .u8 (b.toNat : Int)
theorem UB_len (l : List UInt8) : (UB l).length = l.length := by simp [UB]
theorem UB_app (a b : List UInt8) : UB (a ++ b) = UB a ++ UB b := by simp [UB]
theorem UB_set (l : List UInt8) (i : Nat) (b : UInt8) : UB (l.set i b) = (UB l).set i (.int .u8 (b.toNat : Int)) := by simp [UB, List.map_set]
theorem UB_at {l : List UInt8} {i : Nat} (h : i < l.length) : (UB l)[i]? = some (.int .u8 ((l.getD i 0).toNat : Int)) := by
  simp [UB, List.getD, List.getElem?_eq_getElem h]
theorem UB_zero (n : Nat) : (madeCells (Value.int .u8 0).cells (n * 1)).toList = UB (List.replicate n 0) := by
  apply List.ext_getElem?
  intro i
  simp [madeCells, Value.cells, UB, Nat.mod_one, List.getElem?_replicate]
  by_cases h : i < n
  · rw [if_pos h, List.getElem?_eq_getElem (by simpa using h)]; rfl
  · rw [if_neg h, List.getElem?_eq_none (by simp; omega)]; rfl
section
variable {w : World} {base n : Nat} {e : TypeId}
theorem ub_len {v : Value} {l : List UInt8} (h : w.ownsRow base e 1 v n (UB l)) : l.length = n := by
  have := h.1; rw [UB_len] at this; omega
theorem ub_set {g cap : Nat} {l : List UInt8} (h : w.ownsRow base e 1 (.slice (some ⟨g, 0, none⟩) n cap) n (UB l)) (i : Nat) (b : UInt8) (x : Int) (hx : x = (b.toNat : Int)) :
    (w.setCell ⟨g, i, none⟩ (.int .u8 x)).ownsRow base e 1 (.slice (some ⟨g, 0, none⟩) n cap) n (UB (l.set i b)) := by
  rw [UB_set, hx]
  exact (h.stored i _).1
theorem ub_cell {g cap : Nat} {l : List UInt8} (h : w.ownsRow base e 1 (.slice (some ⟨g, 0, none⟩) n cap) n (UB l)) {i : Nat} (hi : i < n) : w.cell? ⟨g, i, none⟩ = some (.int .u8 ((l.getD i 0).toNat : Int)) := by
  rw [h.cellAt i (by omega)]
  exact UB_at (by rw [ub_len h]; exact hi)
theorem ub_str {P : Program} {g cap : Nat} {l : List UInt8} (h : w.ownsRow base e 1 (.slice (some ⟨g, 0, none⟩) n cap) n (UB l)) (src dst u : TypeId) (hs : P.underlying src = some (.slice u)) (he : P.underlying u = some (.int .u8)) (hd : P.underlying dst = some .string) :
    (convert src dst (.slice (some ⟨g, 0, none⟩) n cap)).run P w = .ok (.string (str l)) w := by
  have hl := ub_len h
  subst hl
  refine run_convert_bytes_back w src dst u ⟨g, 0, none⟩ cap l hs he hd ?_
  intro j hj
  rw [WideShapes.add_plain, Nat.zero_add, ub_cell h hj]
  simp [List.getD, List.getElem?_eq_getElem hj]
end
end Go.Proofs.YthnchjmbjeooiaaDoor
