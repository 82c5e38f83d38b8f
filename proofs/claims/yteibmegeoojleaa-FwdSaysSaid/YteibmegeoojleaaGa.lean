/- What package fwd asks of package want: a row found, two rows the same; rows of numbers; over the seat's program. -/
import Derived.Test.YteibmegeoojleaaKit
import Derived.Test.YteibmegeoojleaaAs
import Derived.Test.YteibmegeoojleaaAsb
import Derived.Test.YteibmegeoojleaaBytes
import Derived.Test.YteibmegeoojleaaBb
import Derived.Test.YteibmegeoojleaaProg
import Derived.Below
import Derived.Laws.AppendOwnNone
import Derived.WalkKit
import Derived.BigQuiet
import Derived.Deep.QuietTactic
import Derived.Deep.DeepAppendRoom
import Derived.Lib.SliceRun
import Derived.Maps.AppendAt
import Derived.OwnWalk
import Derived.Lib.AppendIntMem
import Derived.Deep.RegionHeld3
import Derived.Deep.RegionLaw
namespace Go.Proofs.Yteibmegeoojleaa
open Go.RowKit
/-- a slice of items, each of k cells, nil let in -/
def IR {α : Type} (enc : α → List Value) (k : Nat) (w : World) (A : Option Addr) (n : Nat) (xs : List α) : Prop :=
  xs.length = n ∧ (0 < n → ∃ b o, A = some ⟨b, o, none⟩ ∧ b < w.heap.size ∧ ∀ i x, xs[i]? = some x → ∀ j v, (enc x)[j]? = some v → w.cell? ⟨b, o + i * k + j, none⟩ = some v)
section
variable {α : Type} {enc : α → List Value} {k : Nat} {w w' : World} {A : Option Addr} {n : Nat} {xs : List α}
theorem IR.len (h : IR enc k w A n xs) : xs.length = n := h.1
theorem IR.next (h : IR enc k w A n xs) (hb : Below w.heap.size w w') : IR enc k w' A n xs :=
  ⟨h.1, fun hn => by
    obtain ⟨b, o, e, hlt, hc⟩ := h.2 hn
    exact ⟨b, o, e, Nat.lt_of_lt_of_le hlt hb.size, fun i x hx j v hv => (hb.cell (p := ⟨b, o + i * k + j, none⟩) hlt).trans (hc i x hx j v hv)⟩⟩
theorem IR.at_ {i : Nat} (h : IR enc k w A n xs) (hk : i < n) : ∃ b o x, A = some ⟨b, o, none⟩ ∧ b < w.heap.size ∧ xs[i]? = some x ∧ ∀ j v, (enc x)[j]? = some v → w.cell? ⟨b, o + i * k + j, none⟩ = some v := by
  obtain ⟨b, o, e, hlt, hc⟩ := h.2 (by omega)
  have hx : xs[i]? = some (xs[i]'(by have := h.1; omega)) := List.getElem?_eq_getElem _
  exact ⟨b, o, _, e, hlt, hx, hc i _ hx⟩
end


end Go.Proofs.Yteibmegeoojleaa

namespace Go.Proofs.Yteibmegeoojleaa
open Go.RowKit

def CInt : Int → List Value := fun a => [.int .i64 a]
theorem tint_one : ∀ x : Int, ∀ u ∈ CInt x, u.oneCell' = true := by
  rintro _ u hu
  simp [CInt] at hu
  subst hu; rfl
end Go.Proofs.Yteibmegeoojleaa

namespace Go.Proofs.Yteibmegeoojleaa
open Go.RowKit
theorem own_at {w w' : World} {base size n : Nat} {e : TypeId} {v : Value} {xs : List Value} (h : w.ownsRow base e size v n xs) (hk : ∀ g, v.ownBlock = some g → w'.heap[g]? = w.heap[g]?) : w'.ownsRow base e size v n xs := by
  refine ⟨h.1, ?_⟩
  rcases h.2 with hn | ⟨g, cap, cur, rfl, hb, hgg, rest⟩
  · exact .inl hn
  · exact .inr ⟨g, cap, cur, rfl, hb, (hk g rfl).trans hgg, rest⟩
def I64 (xs : List Int) : List Value := xs.map (Value.int .i64)
theorem info_int : (Try.prog.info? 3).map (fun i => (i.zero, i.size, i.bytes)) = some (some (.int .i64 0), 1, 8) := by kernel_rfl
/-- a slice of numbers that reads as a list, nil let in -/
def JR (w : World) (A : Option Addr) (n : Nat) (xs : List Int) : Prop :=
  xs.length = n ∧ (0 < n → ∃ b o, A = some ⟨b, o, none⟩ ∧ b < w.heap.size ∧ ∀ i, i < n → w.cell? ⟨b, o + i, none⟩ = some (.int .i64 (xs.getD i 0)))
section
variable {w w' : World} {A : Option Addr} {n : Nat} {xs : List Int}
theorem JR.next (h : JR w A n xs) (hb : Below w.heap.size w w') : JR w' A n xs :=
  ⟨h.1, fun hn => by
    obtain ⟨b, o, e, hlt, hc⟩ := h.2 hn
    exact ⟨b, o, e, Nat.lt_of_lt_of_le hlt hb.size, fun i hi => (hb.cell (p := ⟨b, o + i, none⟩) hlt).trans (hc i hi)⟩⟩
theorem JR.at_ {k : Nat} (h : JR w A n xs) (hk : k < n) : ∃ b o, A = some ⟨b, o, none⟩ ∧ b < w.heap.size ∧ w.cell? ⟨b, o + k, none⟩ = some (.int .i64 (xs.getD k 0)) := by
  obtain ⟨b, o, e, hlt, hc⟩ := h.2 (by omega)
  exact ⟨b, o, e, hlt, hc k hk⟩
theorem own_jr {base : Nat} {v : Value} (h : w.ownsRow base 3 1 v xs.length (I64 xs)) : ∃ A c, v = .slice A xs.length c ∧ JR w A xs.length xs := by
  have h0 := h
  rcases h.2 with ⟨rfl, hl⟩ | ⟨g, cap, cur, rfl, hbg, hh, hnc, _⟩
  · exact ⟨none, 0, by rw [hl], rfl, fun hn => by omega⟩
  · refine ⟨_, cap, rfl, rfl, fun _ => ⟨g, 0, rfl, (Array.getElem?_eq_some_iff.1 hh).1, fun i hi => ?_⟩⟩
    rw [Nat.zero_add, h0.cellAt i (by omega)]
    simp [I64, List.getD, hi]
end
theorem JR.block {w w' : World} {A : Option Addr} {n : Nat} {xs : List Int} (h : JR w A n xs) (hb : ∀ b o, A = some ⟨b, o, none⟩ → w'.heap[b]? = w.heap[b]?) : JR w' A n xs :=
  ⟨h.1, fun hn => by
    obtain ⟨b, o, e, hlt, hc⟩ := h.2 hn
    have hk := hb b o e
    refine ⟨b, o, e, ?_, fun i hi => (World.cell?_of_block (a := ⟨b, o + i, none⟩) hk).trans (hc i hi)⟩
    have h1 := Array.getElem?_eq_getElem hlt
    rw [← hk] at h1
    exact (Array.getElem?_eq_some_iff.1 h1).1⟩
end Go.Proofs.Yteibmegeoojleaa


namespace Go.Proofs.Yteibmegeoojleaa
open Go.RowKit Sm Go.Maps
theorem JR.ir {w : World} {A : Option Addr} {n : Nat} {xs : List Int} (h : JR w A n xs) : IR CInt 1 w A n xs :=
  ⟨h.1, fun hn => by
    obtain ⟨b, o, e, hlt, hc⟩ := h.2 hn
    refine ⟨b, o, e, hlt, fun i x hx j v hv => ?_⟩
    have hi : i < n := by have := (List.getElem?_eq_some_iff.1 hx).1; have := h.1; omega
    obtain rfl : j = 0 := by
      rcases j with _ | j
      · rfl
      · simp [CInt] at hv
    have := hc i hi
    simp only [CInt, List.getElem?_cons_zero, Option.some.injEq] at hv
    rw [Nat.mul_one, Nat.add_zero, this, ← hv]
    simp [List.getD, hx]⟩
end Go.Proofs.Yteibmegeoojleaa

namespace Go.Proofs.Yteibmegeoojleaa
open Go.ChangeShapes Go.WideShapes Go.ChangeAt Go.RowKit
/-- what appends ask of a type of slices -/
structure Elem {α : Type} (P : Program) (sl e : TypeId) (enc : α → List Value) (k bytes : Nat) : Prop where
  under : P.underlying sl = some (.slice e)
  info : ∃ i z, P.info? e = some i ∧ i.zero = some z ∧ i.size = k ∧ i.bytes = bytes ∧ z.cells.size = k
  len : ∀ x, (enc x).length = k
  one : ∀ x, ∀ u ∈ enc x, u.oneCell' = true
  pos : 0 < k
  by_ : bytes ≤ 1000
theorem flat_szG {α : Type} {enc : α → List Value} {k : Nat} (hk : ∀ x, (enc x).length = k) : ∀ xs : List α, (xs.flatMap enc).length = xs.length * k
  | [] => by simp
  | x :: xs => by rw [List.flatMap_cons, List.length_append, flat_szG hk xs, hk, List.length_cons, Nat.succ_mul]; omega
theorem flat_clG {α : Type} {enc : α → List Value} {k j : Nat} {v : Value} (hk : ∀ x, (enc x).length = k) : ∀ (ys : List α) (i : Nat) (x : α), ys[i]? = some x → (enc x)[j]? = some v → (ys.flatMap enc)[i * k + j]? = some v
  | [], i, x, h, _ => by simp at h
  | y :: ys, i, x, h, hj => by
    rw [List.flatMap_cons]
    cases i with
    | zero =>
      simp at h
      subst h
      have := (List.getElem?_eq_some_iff.1 hj).1
      rw [Nat.zero_mul, Nat.zero_add, List.getElem?_append_left this]
      exact hj
    | succ i =>
      rw [List.getElem?_append_right (by rw [hk, Nat.succ_mul]; omega), hk, show (i + 1) * k + j - k = i * k + j by rw [Nat.succ_mul]; omega]
      exact flat_clG hk ys i x (by simpa using h) hj
theorem ri_cellsG {α : Type} {enc : α → List Value} {k : Nat} (hk : ∀ x, (enc x).length = k) (h0 : 0 < k) {w : World} {ad : Addr} {m : Nat} {ys : List α} (h : RI enc k w (some ad) m ys) : ∀ j u, (ys.flatMap enc)[j]? = some u → w.cell? (ad.add j) = some u := by
  intro j u hj
  have hl := (List.getElem?_eq_some_iff.1 hj).1
  rw [flat_szG hk] at hl
  have hm := h.len
  have hd : j / k < ys.length := Nat.div_lt_of_lt_mul (by rw [Nat.mul_comm]; exact hl)
  obtain ⟨b, o, e, _, hc⟩ := h.2 (by rw [← hm]; exact Nat.lt_of_le_of_lt (Nat.zero_le _) hd)
  cases e
  have hx : ys[j / k]? = some (ys[j / k]'hd) := List.getElem?_eq_getElem _
  generalize ys[j / k]'hd = x at hx
  have hv : (enc x)[j % k]? = some ((enc x)[j % k]'(by rw [hk]; exact Nat.mod_lt _ h0)) := List.getElem?_eq_getElem _
  have h2 := flat_clG hk ys (j / k) x hx hv
  have e2 : j / k * k + j % k = j := by rw [Nat.mul_comm]; exact Nat.div_add_mod j k
  rw [e2, hj] at h2
  have h3 := hc (j / k) x hx (j % k) _ hv
  rw [Nat.add_assoc, e2] at h3
  cases h2
  rw [add_plain]
  exact h3
/-- a literal of one item, as a row -/
theorem RI.lit {α : Type} {enc : α → List Value} {k : Nat} {w : World} {g : Nat} {t : TypeId} {x : α} (h : Blk w g t (enc x).toArray) : RI enc k w (some ⟨g, 0, none⟩) 1 [x] :=
  ⟨rfl, fun _ => ⟨g, 0, rfl, h.lt, fun i y hx j v hv => by
    have hi : i = 0 := by have := (List.getElem?_eq_some_iff.1 hx).1; simp at this; exact this
    subst hi
    simp at hx
    subst hx
    have := h.cell j
    rw [show (0 : Nat) + 0 * k + j = j by omega, this]
    simpa using hv⟩⟩
theorem RI.new {α : Type} {enc : α → List Value} {k : Nat} (w : World) (t : TypeId) (x : α) {g : Nat} {cs : Array Value} (hg : g = w.heap.size) (hcs : cs = (enc x).toArray) : RI enc k (w.alloc (.cells cs t)) (some ⟨g, 0, none⟩) 1 [x] := by
  subst hg hcs
  exact RI.lit (Blk.new _ _ _)
end Go.Proofs.Yteibmegeoojleaa

namespace Go.Proofs.Yteibmegeoojleaa
open Go.RowKit Sm Go.Maps
theorem elemI : Elem Try.prog 32 3 CInt 1 8 := ⟨Try.underlying32, (by obtain ⟨i0, hi, hz0, hz1, hz2⟩ := info_parts info_int; exact ⟨_, _, hi, hz0, hz1, hz2, rfl⟩), fun _ => rfl, tint_one, by decide, by decide⟩
theorem I64_flat : ∀ xs : List Int, xs.flatMap CInt = I64 xs
  | [] => rfl
  | x :: xs => by
    rw [List.flatMap_cons, I64_flat xs]
    rfl

end Go.Proofs.Yteibmegeoojleaa

namespace Go.Proofs.Yteibmegeoojleaa
open Go.RowKit Sm Go.Maps
structure PRow where
  r : Int
  i : Int
  u : Int
  k : Int × Int
  xs : List Int
end Go.Proofs.Yteibmegeoojleaa

namespace Go.Proofs.Yteibmegeoojleaa
open Go.RowKit Sm Go.Maps Go.Sort
section
open Go.ChangeShapes Go.WideShapes Go.ChangeAt
variable {α : Type} {P : Program} {sl e : TypeId} {enc : α → List Value} {k bytes : Nat}

theorem run_itemsF (E : Elem P sl e enc k bytes) (w : World) (base : Nat) (ot : TypeId) (v : Value) (n : Nat) (xs : List α) (hown : w.ownsRow base e k v n (xs.flatMap enc))
    (A : Option Addr) (m c : Nat) (ys : List α) (hri : RI enc k w A m ys) (hn : n ≤ 1048576) (hm : m ≤ 1048576) (hbase : base ≤ w.heap.size) :
    ∃ v' w', (Builtin.append_ #[sl, sl] ot #[v, .slice A m c]).run P w = .ok v' w' ∧ w'.ownsRow base e k v' (n + m) ((xs ++ ys).flatMap enc) ∧ Below base w w' ∧ w.grownBy w' v.ownBlock ∧ (v'.ownBlock = v.ownBlock ∨ v'.ownBlock = some w.heap.size) := by
  obtain ⟨i, z, hi, hz, hsz, hby, hzc⟩ := E.info
  have ht := E.under
  cases A with
  | none =>
    have h0 : m = 0 := by
      rcases Nat.eq_zero_or_pos m with h0 | h0
      · exact h0
      · obtain ⟨b, o, e, _⟩ := hri.2 h0
        cases e
    subst h0
    obtain rfl : ys = [] := List.eq_nil_of_length_eq_zero hri.len
    have hrun : (Builtin.append_ #[sl, sl] ot #[v, .slice none 0 c]).run P w = .ok v w := by
      rcases hown.2 with ⟨rfl, rfl⟩ | ⟨g, cap, cur, rfl, _, _, hnc, _⟩
      · simp [Builtin.append_, run_underlying ht, sizeOf, typeInfo, hi, Builtin.lenOf, Builtin.firstCells]
      · simp [Builtin.append_, run_underlying ht, sizeOf, typeInfo, hi, Builtin.lenOf, Builtin.firstCells, hnc, storeCells]
    exact ⟨v, w, hrun, by rw [List.append_nil]; exact hown, Below.refl _ _, ⟨rfl, rfl, rfl, Nat.le_refl _, fun _ _ _ => rfl⟩, .inl rfl⟩
  | some ad =>
    have hb1 : (n + m) * bytes ≤ 2097152 * 1000 := Nat.mul_le_mul (by omega) E.by_
    obtain ⟨v', w', hr, h2, h3, _, h6⟩ := run_append_own_at (P := P) w base sl ot e i z k bytes ht hi hz hsz hby hzc E.pos v n _ hown ad m c (ys.flatMap enc) (by rw [flat_szG E.len, hri.len]) (ri_cellsG E.len E.pos hri)
      (by intro u hu; rw [List.mem_flatMap] at hu; obtain ⟨y, _, hy⟩ := hu; exact E.one y u hy) (by unfold maxLen; omega) (by omega) hbase
    exact ⟨v', w', hr, by rw [List.flatMap_append]; exact h2, (Below.refl base w).grown h3 hbase (by intro j hj; exact (hown.lt j hj).1), h3, h6⟩
theorem wpList_itemsF (E : Elem P sl e enc k bytes) {w : World} {ops : Array Oper} {rest : List Oper} {o : Oper} {a : Act} {Q : Exit → Act → World → Prop} (hgd : o.guard = none) (s x : Operand)
    (ho : o.op = .call { callee := .builtin .append, args := #[s, x], argTypes := #[sl, sl] })
    (base : Nat) (v : Value) (n : Nat) (xs : List α) (hs : a.eval s = v) (hown : w.ownsRow base e k v n (xs.flatMap enc))
    (A : Option Addr) (m c : Nat) (ys : List α) (hx : a.eval x = .slice A m c) (hri : RI enc k w A m ys) (hn : n ≤ 1048576) (hm : m ≤ 1048576) (hbase : base ≤ w.heap.size)
    (h : ∀ v' w', w'.ownsRow base e k v' (n + m) ((xs ++ ys).flatMap enc) → Below base w w' → w.grownBy w' v.ownBlock → (v'.ownBlock = v.ownBlock ∨ v'.ownBlock = some w.heap.size) → wpList P ops Q rest (a.put o.dst v') w') : wpList P ops Q (o :: rest) a w := by
  refine wpList_plain hgd fun K hK => ?_
  obtain ⟨v', w', hr, h2, h3, h4, h5⟩ := run_itemsF E w base o.type v n xs hown A m c ys hri hn hm hbase
  unfold Oper.wp
  simp only [execOp, ho, resolve, invoke, builtin, Sem.run_bind, Sem.run_pure, Result.andThen_ok, List.map_toArray, List.map_cons, List.map_nil, hs, hx, hr]
  exact hK _ _ (h v' w' h2 h3 h4 h5)
end
/-- the rows that a block does not lie beneath stay -/
theorem RI.grown {α : Type} {enc : α → List Value} {k : Nat} {w w' : World} {A : Option Addr} {n : Nat} {xs : List α} {ob : Option Nat} (h : RI enc k w A n xs) (hg : w.grownBy w' ob) (ne : ∀ a, A = some a → some a.block ≠ ob) : RI enc k w' A n xs :=
  ⟨h.1, fun hn => by
    obtain ⟨b, o, e, hlt, hc⟩ := h.2 hn
    refine ⟨b, o, e, Nat.lt_of_lt_of_le hlt hg.size, fun i x hx j v hv => ?_⟩
    have := hc i x hx j v hv
    have hb := hg.block b hlt (ne _ e)
    unfold World.cell? at *
    simp only [hb]
    exact this⟩
end Go.Proofs.Yteibmegeoojleaa

namespace Go.Proofs.Yteibmegeoojleaa
open Go.ChangeShapes Go.WideShapes Go.ChangeAt Go.RowKit Sm Go.Maps
/-- a row with the place of its ports in memory -/
structure PMr where
  p : PRow
  A : Option Addr
  c : Nat
def CRw : PMr → List Value := fun m => [.int .i64 m.p.r, .int .i64 m.p.i, .int .i64 m.p.u, .int .u32 m.p.k.1, .int .u32 m.p.k.2, .slice m.A m.p.xs.length m.c]
theorem elemRw : Elem Try.prog 22 43 CRw 6 56 := ⟨Try.underlying22, (by obtain ⟨i, hi, hz, hs, hb⟩ := info_parts (show (Try.prog.info? 43).map (fun i => (i.zero, i.size, i.bytes)) = some (some (.agg #[.int .i64 0, .int .i64 0, .int .i64 0, .int .u32 0, .int .u32 0, .slice none 0 0]), 6, 56) by kernel_rfl); exact ⟨i, _, hi, hz, hs, hb, rfl⟩), fun _ => rfl, fun x u hu => by simp [CRw] at hu; rcases hu with rfl | rfl | rfl | rfl | rfl | rfl <;> rfl, by omega, by omega⟩
theorem JR.grown {w w' : World} {A : Option Addr} {n : Nat} {xs : List Int} {ob : Option Nat} (h : JR w A n xs) (hg : w.grownBy w' ob) (ne : 0 < n → ∀ a, A = some a → some a.block ≠ ob) : JR w' A n xs :=
  ⟨h.1, fun hn => by
    obtain ⟨b, o, e, hlt, hc⟩ := h.2 hn
    refine ⟨b, o, e, Nat.lt_of_lt_of_le hlt hg.size, fun i hi => ?_⟩
    have := hc i hi
    have hb := hg.block b hlt (ne hn _ e)
    unfold World.cell? at *
    simp only [hb]
    exact this⟩
end Go.Proofs.Yteibmegeoojleaa

namespace Go.Proofs.Yteibmegeoojleaa
open Go.ChangeShapes Go.WideShapes Go.ChangeAt Go.RowKit Sm Go.Maps
theorem store6 {W : World} {N b : Nat} {t : TypeId} (hs : Slot W N t 6) (hN : b ≤ N) (w : World) (hB : Below b w W) (v0 v1 v2 v3 v4 v5 : Value) : ∃ W', W' = (((((W.setCell ⟨N, 0, none⟩ v0).setCell ⟨N, 1, none⟩ v1).setCell ⟨N, 2, none⟩ v2).setCell ⟨N, 3, none⟩ v3).setCell ⟨N, 4, none⟩ v4).setCell ⟨N, 5, none⟩ v5 ∧ Blk W' N t #[v0, v1, v2, v3, v4, v5] ∧ Below b w W' ∧ (∀ g, g ≠ N → W'.heap[g]? = W.heap[g]?) := by
  obtain ⟨cs, hz, hb⟩ := hs
  refine ⟨_, rfl, ?_, ((((((hB.setCell (by simpa using hN) v0).setCell (by simpa using hN) v1).setCell (by simpa using hN) v2).setCell (by simpa using hN) v3).setCell (by simpa using hN) v4).setCell (by simpa using hN) v5), fun g hn => by
    have f : ∀ (W : World) (i : Nat) (v : Value), (W.setCell ⟨N, i, none⟩ v).heap[g]? = W.heap[g]? := fun W i v => Below.heap_setCell _ _ _ _ (by simpa using hn)
    rw [f, f, f, f, f, f]⟩
  have h := ((((((hb.set_ 0 v0).set_ 1 v1).set_ 2 v2).set_ 3 v3).set_ 4 v4).set_ 5 v5)
  have e : ((((((cs.setIfInBounds 0 v0).setIfInBounds 1 v1).setIfInBounds 2 v2).setIfInBounds 3 v3).setIfInBounds 4 v4).setIfInBounds 5 v5) = #[v0, v1, v2, v3, v4, v5] := by
    apply Array.ext_getElem?
    intro i
    rcases i with _ | _ | _ | _ | _ | _ | i <;> simp [hz]
  rw [e] at h
  exact h
theorem ret_find (tm : Array Value) (N : Nat) (W : World) (v0 v1 v2 v3 v4 v5 u : Value) (h2 : tm.getD 6 undef = .pointer (some ⟨N, 0, none⟩)) (h3 : tm.getD 7 undef = u) (c0 : W.cell? ⟨N, 0, none⟩ = some v0) (c1 : W.cell? ⟨N, 1, none⟩ = some v1) (c2 : W.cell? ⟨N, 2, none⟩ = some v2) (c3 : W.cell? ⟨N, 3, none⟩ = some v3) (c4 : W.cell? ⟨N, 4, none⟩ = some v4) (c5 : W.cell? ⟨N, 5, none⟩ = some v5) :
    (results Try.f21 tm).run Try.prog W = .ok (.tuple #[.agg #[v0, v1, v2, v3, v4, v5], u]) W := by
  have h2' : tm[6]?.getD undef = .pointer (some ⟨N, 0, none⟩) := by simpa using h2
  have h3' : tm[7]?.getD undef = u := by simpa using h3
  simp [results, Try.results21, go_sem, h2', h3', c0, c1, c2, c3, c4, c5]
/-- the first row of a router and a key -/
def findR (l : List PRow) (r : Int) (k : Int × Int) : Option PRow := l.find? fun p => (p.r == r) && ((p.k.1 == k.1) && (p.k.2 == k.2))
theorem findR_hit : ∀ {l : List PRow} {i : Nat} {p : PRow} {r : Int} {k : Int × Int}, l[i]? = some p → ((p.r == r) && ((p.k.1 == k.1) && (p.k.2 == k.2))) = true → (∀ j y, j < i → l[j]? = some y → ((y.r == r) && ((y.k.1 == k.1) && (y.k.2 == k.2))) = false) → findR l r k = some p
  | [], i, p, r, k, h, _, _ => by simp at h
  | z :: l, 0, p, r, k, h, hp, _ => by
    simp at h
    subst h
    unfold findR
    rw [List.find?_cons_of_pos (by exact hp)]
  | z :: l, i + 1, p, r, k, h, hp, hn => by
    have hz := hn 0 z (by omega) rfl
    unfold findR
    rw [List.find?_cons_of_neg (by rw [hz]; decide)]
    exact findR_hit (l := l) (i := i) (by simpa using h) hp (fun j y hj hy => hn (j + 1) y (by omega) (by simpa using hy))
def FindOK (B : Nat) (e : Ending) (w' : World) : Option PRow → Prop
  | none => e = .returned (.tuple #[.agg #[.int .i64 0, .int .i64 0, .int .i64 0, .int .u32 0, .int .u32 0, .slice none 0 0], .bool false])
  | some p => ∃ A' c', e = .returned (.tuple #[.agg #[.int .i64 p.r, .int .i64 p.i, .int .i64 p.u, .int .u32 p.k.1, .int .u32 p.k.2, .slice A' p.xs.length c'], .bool true]) ∧ w'.ownsRow B 3 1 (.slice A' p.xs.length c') p.xs.length (I64 p.xs)
theorem own_blk0 {w9 : World} {B : Nat} {A9 : Option Addr} {n c9 : Nat} {px : List Int} {b : Nat} (h : w9.ownsRow B 3 1 (.slice A9 n c9) n (I64 px)) (e : (Value.slice A9 n c9).ownBlock = some b) : ∃ o, A9 = some ⟨b, o, none⟩ := by
  rcases h.2 with ⟨h1, _⟩ | ⟨g, cap, cur, h1, _⟩
  · cases h1; simp [Value.ownBlock] at e
  · cases h1; simp [Value.ownBlock] at e; subst e; exact ⟨_, rfl⟩
theorem fr_find {w9 : World} {B Nk N : Nat} {A9 : Option Addr} {n c9 : Nat} {px : List Int} (h : w9.ownsRow B 3 1 (.slice A9 n c9) n (I64 px)) (h3 : Nk < B) (h4 : N < Nk) : ∀ b o, A9 = some ⟨b, o, none⟩ → b ≠ Nk ∧ b ≠ N := fun b o e => by
  subst e
  have h1 : (Value.slice (some ⟨b, o, none⟩) n c9).ownBlock = some b := rfl
  have h2 := (h.lt b h1).1
  omega
set_option maxRecDepth 100000 in
set_option maxHeartbeats 4000000 in
theorem find_any (A : Option Addr) (n c : Nat) (ms : List PMr) (r : Int) (k : Int × Int) (w : World) (h : RI CRw 6 w A n ms) (hj : ∀ m ∈ ms, JR w m.A m.p.xs.length m.p.xs) (hn : n ≤ 1000) (hx : ∀ m ∈ ms, m.p.xs.length ≤ 1000) :
    Calls Try.prog 21 #[.slice A n c, .int .i64 r, .agg #[.int .u32 k.1, .int .u32 k.2]] w fun e w' => FindOK w.heap.size e w' (findR (ms.map PMr.p) r k) ∧ Below w.heap.size w w' := by
  obtain ⟨k1, k2⟩ := k
  have HB0 := Lib.hid (((Below.refl w.heap.size w).alloc (Nat.le_refl _) (.cells #[.int .u32 k1, .int .u32 k2] 27)).alloc (by simp) (.cells #[.int .i64 0, .int .i64 0, .int .i64 0, .int .u32 0, .int .u32 0, .slice none 0 0] 43))
  have HK : Hid (Blk ((w.alloc (.cells #[.int .u32 k1, .int .u32 k2] 27)).alloc (.cells #[.int .i64 0, .int .i64 0, .int .i64 0, .int .u32 0, .int .u32 0, .slice none 0 0] 43)) w.heap.size 27 #[.int .u32 k1, .int .u32 k2]) := Lib.hid ((Blk.new _ _ _).alloc _)
  have HS : Hid (Blk ((w.alloc (.cells #[.int .u32 k1, .int .u32 k2] 27)).alloc (.cells #[.int .i64 0, .int .i64 0, .int .i64 0, .int .u32 0, .int .u32 0, .slice none 0 0] 43)) (w.heap.size + 1) 43 #[.int .i64 0, .int .i64 0, .int .i64 0, .int .u32 0, .int .u32 0, .slice none 0 0]) := Lib.hid (by simpa using Blk.new (w.alloc (.cells #[.int .u32 k1, .int .u32 k2] 27)) 43 #[.int .i64 0, .int .i64 0, .int .i64 0, .int .u32 0, .int .u32 0, .slice none 0 0])
  have HR := Lib.hid h
  have HJ := Lib.hid hj
  have HX := Lib.hid hx
  have HLEN := Lib.hid h.len
  have HNB : Hid (w.heap.size ≤ w.heap.size + 1) := Lib.hid (by omega)
  clear h hj hx
  go_enter Try.func21, Try.ntmps21
  go_upto_region 1 with fail
  generalize (w.alloc (.cells #[.int .u32 k1, .int .u32 k2] 27)).alloc (.cells #[.int .i64 0, .int .i64 0, .int .i64 0, .int .u32 0, .int .u32 0, .slice none 0 0] 43) = W0 at *
  go_wp2_with fail
  go_loopw [12] (fun iv wr => ∃ (i : Nat), i ≤ n ∧ iv = .int .i64 (i : Int) ∧ Hid (∀ j m, j < i → ms[j]? = some m → ((m.p.r == r) && ((m.p.k.1 == k1) && (m.p.k.2 == k2))) = false) ∧ Hid (Below W0.heap.size W0 wr)) (fun iv _ => n - (intOf iv).toNat)
  case atStart => exact ⟨0, Nat.zero_le _, rfl, Lib.hid (fun j m hj => absurd hj (Nat.not_lt_zero _)), Lib.hid (Below.refl _ _)⟩
  case round =>
    obtain ⟨i, hi, rfl, HNO, HB⟩ := hrel
    rcases Nat.lt_or_ge i n with hlt | hge
    · have hi0 : (i : Int) < (n : Int) := by omega
      have HBW := Lib.hid (below_next HB0.out HB.out)
      obtain ⟨b5, o5, m, rfl, hbl, hx, hcl⟩ := (HR.out.next HBW.out).at_ hlt
      have HJM := Lib.hid (HJ.out m (List.mem_of_getElem? hx))
      have HXM := Lib.hid (HX.out m (List.mem_of_getElem? hx))
      have HXI := Lib.hid hx
      obtain ⟨⟨pr, ri, ru, ⟨ks, kg⟩, px⟩, pA, pc⟩ := m
      dsimp only at HJM HXM
      have t0 : wr.cell? ⟨b5, o5 + i * 6, none⟩ = some (.int .i64 pr) := hcl 0 _ rfl
      have t1 : wr.cell? ⟨b5, o5 + i * 6 + 1, none⟩ = some (.int .i64 ri) := hcl 1 _ rfl
      have t2 : wr.cell? ⟨b5, o5 + i * 6 + 2, none⟩ = some (.int .i64 ru) := hcl 2 _ rfl
      have t3 : wr.cell? ⟨b5, o5 + i * 6 + 3, none⟩ = some (.int .u32 ks) := hcl 3 _ rfl
      have t4 : wr.cell? ⟨b5, o5 + i * 6 + 4, none⟩ = some (.int .u32 kg) := hcl 4 _ rfl
      have t5 : wr.cell? ⟨b5, o5 + i * 6 + 5, none⟩ = some (.slice pA px.length pc) := hcl 5 _ rfl
      clear hcl hx hbl
      have HNa := Lib.hid ((Below.refl wr.heap.size wr).alloc (Nat.le_refl _) (.cells #[.int .i64 pr, .int .i64 ri, .int .i64 ru, .int .u32 ks, .int .u32 kg, .slice pA px.length pc] 43))
      have HKa := Lib.hid (Blk.new wr 43 #[.int .i64 pr, .int .i64 ri, .int .i64 ru, .int .u32 ks, .int .u32 kg, .slice pA px.length pc])
      have HNG : Hid (wr.heap.size ≠ w.heap.size + 1 ∧ w.heap.size + 1 < wr.heap.size) := Lib.hid (by have h1 := HS.out.lt; have h2 := HB.out.size; omega)
      go_upto_region 4 with fail
      clear t0 t1 t2 t3 t4 t5
      generalize wr.alloc (.cells #[.int .i64 pr, .int .i64 ri, .int .i64 ru, .int .u32 ks, .int .u32 kg, .slice pA px.length pc] 43) = Wa at *
      have HBa := Lib.hid (below_next HB.out HNa.out)
      have HSZ : Hid (wr.heap.size < Wa.heap.size) := Lib.hid HKa.out.lt
      generalize wr.heap.size = Nk at *
      have q0 : Wa.cell? ⟨Nk, 0, none⟩ = some (.int .i64 pr) := HKa.out.cell 0
      have q3 : Wa.cell? ⟨Nk, 3, none⟩ = some (.int .u32 ks) := HKa.out.cell 3
      have q4 : Wa.cell? ⟨Nk, 4, none⟩ = some (.int .u32 kg) := HKa.out.cell 4
      have z0 : Wa.cell? ⟨w.heap.size, 0, none⟩ = some (.int .u32 k1) := (HK.out.next HBa.out).cell 0
      have z1 : Wa.cell? ⟨w.heap.size, 1, none⟩ = some (.int .u32 k2) := (HK.out.next HBa.out).cell 1
      by_cases hm : pr = r ∧ ks = k1 ∧ kg = k2
      · obtain ⟨rfl, rfl, rfl⟩ := hm
        have HFI : Hid (findR (ms.map PMr.p) pr (ks, kg) = some ⟨pr, ri, ru, (ks, kg), px⟩) := Lib.hid (findR_hit (i := i) (by rw [List.getElem?_map, HXI.out]; rfl) (by simp) (fun j y hj hy => by
          rw [List.getElem?_map] at hy
          cases hz : ms[j]? with
          | none => rw [hz] at hy; cases hy
          | some m0 =>
            rw [hz] at hy
            cases hy
            exact HNO.out j m0 hj hz))
        have q5 : Wa.cell? ⟨Nk, 5, none⟩ = some (.slice pA px.length pc) := HKa.out.cell 5
        have HJa := Lib.hid (HJM.out.next (below_next HB0.out HBa.out))
        have g5 := HKa.out.frozen 5
        have e0 : (pr == pr) = true := by simp
        have e1 : (ks == ks) = true := by simp
        have e2 : (kg == kg) = true := by simp
        have q1 : Wa.cell? ⟨Nk, 1, none⟩ = some (.int .i64 ri) := HKa.out.cell 1
        have q2 : Wa.cell? ⟨Nk, 2, none⟩ = some (.int .i64 ru) := HKa.out.cell 2
        have hpl := HXM.out
        go_upto_region 5 with fail
        clear q0 q1 q2 q3 q4 z0 z1 g5
        go_wp2_with (at_builtin; refine wpList_itemsF elemI rfl _ _ rfl Wa.heap.size (.slice none 0 0) 0 [] rfl (World.ownsRow_nil _ _ _ _) pA px.length pc px rfl HJa.out.ir (by omega) (by omega) (Nat.le_refl _) ?_; intro v9 w9 hown9 hb9 hg9 ho9; rw [I64_flat, List.nil_append, Nat.zero_add] at hown9; obtain ⟨A9, c9, rfl, hj9⟩ := own_jr hown9; have HO9 := Lib.hid hown9; have HK9 := Lib.hid (HKa.out.next hb9); have HB9 := Lib.hid (below_next HBa.out hb9); have HJ9 := Lib.hid hj9; have q5 : w9.cell? ⟨Nk, 5, none⟩ = some (.slice pA px.length pc) := HK9.out.cell 5; have g5 := HK9.out.frozen 5; have HFR : Hid (∀ b o, A9 = some ⟨b, o, none⟩ → b ≠ Nk ∧ b ≠ w.heap.size + 1) := Lib.hid (fr_find HO9.out HSZ.out HNG.out.2); have HK10 : Hid (Blk (w9.setCell ⟨Nk, 5, none⟩ (.slice A9 px.length c9)) Nk 43 #[.int .i64 pr, .int .i64 ri, .int .i64 ru, .int .u32 ks, .int .u32 kg, .slice A9 px.length c9]) := Lib.hid (HK9.out.set_to 5 (.slice A9 px.length c9) rfl); have HS10 := Lib.hid ((HS.out.next HB9.out).far (p := ⟨Nk, 5, none⟩) (by show w.heap.size + 1 ≠ Nk; exact HNG.out.1.symm) (.slice A9 px.length c9)); have HB10 := Lib.hid ((HB0.out.trans (HB9.out.mono HB0.out.size)).setCell (p := ⟨Nk, 5, none⟩) (by show w.heap.size ≤ Nk; have := HNG.out.2; omega) (.slice A9 px.length c9)); have HH10 : Hid (∀ b, b ≠ Nk → (w9.setCell ⟨Nk, 5, none⟩ (.slice A9 px.length c9)).heap[b]? = w9.heap[b]?) := Lib.hid (fun b hb => Below.heap_setCell _ _ _ _ (by simpa using hb)); have n0 : (w9.setCell ⟨Nk, 5, none⟩ (.slice A9 px.length c9)).cell? ⟨Nk, 0, none⟩ = some (.int .i64 pr) := HK10.out.cell 0; have n1 : (w9.setCell ⟨Nk, 5, none⟩ (.slice A9 px.length c9)).cell? ⟨Nk, 1, none⟩ = some (.int .i64 ri) := HK10.out.cell 1; have n2 : (w9.setCell ⟨Nk, 5, none⟩ (.slice A9 px.length c9)).cell? ⟨Nk, 2, none⟩ = some (.int .i64 ru) := HK10.out.cell 2; have n3 : (w9.setCell ⟨Nk, 5, none⟩ (.slice A9 px.length c9)).cell? ⟨Nk, 3, none⟩ = some (.int .u32 ks) := HK10.out.cell 3; have n4 : (w9.setCell ⟨Nk, 5, none⟩ (.slice A9 px.length c9)).cell? ⟨Nk, 4, none⟩ = some (.int .u32 kg) := HK10.out.cell 4; have n5 : (w9.setCell ⟨Nk, 5, none⟩ (.slice A9 px.length c9)).cell? ⟨Nk, 5, none⟩ = some (.slice A9 px.length c9) := HK10.out.cell 5; obtain ⟨W11, hW11, hk11, hb11, hh11⟩ := store6 HS10.out.slot HNB.out w HB10.out (.int .i64 pr) (.int .i64 ri) (.int .i64 ru) (.int .u32 ks) (.int .u32 kg) (.slice A9 px.length c9); have HW11 := Lib.hid hW11; have m0 : (w9.setCell ⟨Nk, 5, none⟩ (.slice A9 px.length c9)).cell? ⟨w.heap.size + 1, 0, none⟩ = some (.int .i64 0) := HS10.out.cell 0; have f0 := HS10.out.frozen 0; have m1 : (w9.setCell ⟨Nk, 5, none⟩ (.slice A9 px.length c9)).cell? ⟨w.heap.size + 1, 1, none⟩ = some (.int .i64 0) := HS10.out.cell 1; have f1 := HS10.out.frozen 1; have m2 : (w9.setCell ⟨Nk, 5, none⟩ (.slice A9 px.length c9)).cell? ⟨w.heap.size + 1, 2, none⟩ = some (.int .i64 0) := HS10.out.cell 2; have f2 := HS10.out.frozen 2; have m3 : (w9.setCell ⟨Nk, 5, none⟩ (.slice A9 px.length c9)).cell? ⟨w.heap.size + 1, 3, none⟩ = some (.int .u32 0) := HS10.out.cell 3; have f3 := HS10.out.frozen 3; have m4 : (w9.setCell ⟨Nk, 5, none⟩ (.slice A9 px.length c9)).cell? ⟨w.heap.size + 1, 4, none⟩ = some (.int .u32 0) := HS10.out.cell 4; have f4 := HS10.out.frozen 4; have m5 : (w9.setCell ⟨Nk, 5, none⟩ (.slice A9 px.length c9)).cell? ⟨w.heap.size + 1, 5, none⟩ = some (.slice none 0 0) := HS10.out.cell 5; have f5 := HS10.out.frozen 5; have HO11 : Hid (W11.ownsRow w.heap.size 3 1 (.slice A9 px.length c9) px.length (I64 px)) := Lib.hid (by have h1 := own_at (w' := W11) HO9.out (fun b e => (by obtain ⟨o, ho⟩ : ∃ o, A9 = some ⟨b, o, none⟩ := own_blk0 HO9.out e; exact (hh11 b (HFR.out b o ho).2).trans (HH10.out b (HFR.out b o ho).1))); exact ⟨h1.1, h1.2.imp id fun ⟨g, cap, cur, h1, h2, h3⟩ => ⟨g, cap, cur, h1, Nat.le_trans (by have := HNG.out.2; have := HSZ.out; omega) h2, h3⟩⟩); have HK11 := Lib.hid (And.intro hk11 hb11); clear hW11 hh11 hk11 hb11 hown9 hj9 hg9 ho9 hb9)
        rw [← HW11.out]
        refine bodyPost_ret (ret_find _ (w.heap.size + 1) _ _ _ _ _ _ _ _ rfl rfl (HK11.out.1.cell 0) (HK11.out.1.cell 1) (HK11.out.1.cell 2) (HK11.out.1.cell 3) (HK11.out.1.cell 4) (HK11.out.1.cell 5)) rfl ?_
        rw [HFI.out]
        exact ⟨⟨A9, c9, rfl, HO11.out⟩, HK11.out.2⟩
      · have HNF : Hid (((pr == r) && ((ks == k1) && (kg == k2))) = false) := Lib.hid (by
          simp only [Bool.and_eq_false_iff, beq_eq_false_iff_ne]
          by_cases h1 : pr = r
          · by_cases h2 : ks = k1
            · exact .inr (.inr (fun h3 => hm ⟨h1, h2, h3⟩))
            · exact .inr (.inl h2)
          · exact .inl h1)
        clear hm
        cases e0 : (pr == r) with
        | false =>
          go_wp2
          go_roundw
          case rel => exact ⟨i + 1, by omega, by go_num, Lib.hid (fun j m hj hm => by
            by_cases e : j = i
            · subst e; rw [HXI.out] at hm; cases hm; exact HNF.out
            · exact HNO.out j m (by omega) hm), HBa⟩
          case measure => simp [intOf]; omega
        | true =>
          cases e1 : (ks == k1) with
          | false =>
            go_wp2
            go_roundw
            case rel => exact ⟨i + 1, by omega, by go_num, Lib.hid (fun j m hj hm => by
              by_cases e : j = i
              · subst e; rw [HXI.out] at hm; cases hm; exact HNF.out
              · exact HNO.out j m (by omega) hm), HBa⟩
            case measure => simp [intOf]; omega
          | true =>
            cases e2 : (kg == k2) with
            | false =>
              go_wp2
              go_roundw
              case rel => exact ⟨i + 1, by omega, by go_num, Lib.hid (fun j m hj hm => by
                by_cases e : j = i
                · subst e; rw [HXI.out] at hm; cases hm; exact HNF.out
                · exact HNO.out j m (by omega) hm), HBa⟩
              case measure => simp [intOf]; omega
            | true =>
              have := HNF.out
              rw [e0, e1, e2] at this
              cases this
    · obtain rfl : i = n := by omega
      have hd : decide ((i : Int) < (i : Int)) = false := by simp
      have HFN : Hid (findR (ms.map PMr.p) r (k1, k2) = none) := Lib.hid (by
        unfold findR
        rw [List.find?_eq_none]
        intro y hy
        obtain ⟨m, hm, rfl⟩ := List.mem_map.1 hy
        obtain ⟨j, hj⟩ := List.mem_iff_getElem?.1 hm
        have := HNO.out j m (by have := (List.getElem?_eq_some_iff.1 hj).1; have := HLEN.out; omega) hj
        rw [this]; decide)
      obtain ⟨W9, hW9, hk9, hb9, _⟩ := store6 (HS.out.next HB.out).slot HNB.out w (HB0.out.trans (HB.out.mono HB0.out.size)) (.int .i64 0) (.int .i64 0) (.int .i64 0) (.int .u32 0) (.int .u32 0) (.slice none 0 0)
      have HW9 := Lib.hid hW9
      have hS2 := HS.out.next HB.out
      have m0 := hS2.cell 0; have m1 := hS2.cell 1; have m2 := hS2.cell 2; have m3 := hS2.cell 3; have m4 := hS2.cell 4; have m5 := hS2.cell 5
      have f0 := hS2.frozen 0; have f1 := hS2.frozen 1; have f2 := hS2.frozen 2; have f3 := hS2.frozen 3; have f4 := hS2.frozen 4; have f5 := hS2.frozen 5
      simp only [List.getElem?_toArray, List.getElem?_cons_zero, List.getElem?_cons_succ] at m0 m1 m2 m3 m4 m5
      clear hW9 hS2
      have HK9 := Lib.hid (And.intro hk9 hb9)
      clear hk9 hb9
      go_wp2
      rw [← HW9.out]
      refine bodyPost_ret (ret_find _ (w.heap.size + 1) _ _ _ _ _ _ _ _ rfl rfl (HK9.out.1.cell 0) (HK9.out.1.cell 1) (HK9.out.1.cell 2) (HK9.out.1.cell 3) (HK9.out.1.cell 4) (HK9.out.1.cell 5)) rfl ?_
      rw [HFN.out]
      exact ⟨rfl, HK9.out.2⟩
end Go.Proofs.Yteibmegeoojleaa

