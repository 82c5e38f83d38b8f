/- GENERIC: append of any row of items, nil let in, behind a row of such items that the call owns. No program is imported. -/
import Derived.Test.YtgodmfacelfhaaaKit
import Derived.Lib.AppendIntMem
import Derived.Deep.RegionHeld3
import Derived.Deep.RegionLaw
import Derived.Deep.DeepAppendRoom
import Derived.Maps.AppendAt
namespace Go.Proofs.Ytgodmfacelfhaaa
open Go.ChangeShapes Go.WideShapes Go.ChangeAt Go.RowKit
/-- what appends ask of a type of slices -/
structure Elem {α : Type} (P : Program) (sl e : TypeId) (enc : α → List Value) (k bytes : Nat) : Prop where
  under : P.underlying sl = some (.slice e)
  info : ∃ i z, P.info? e = some i ∧ i.zero = some z ∧ i.size = k ∧ i.bytes = bytes ∧ z.cells.size = k
  len : ∀ x, (enc x).length = k
  one : ∀ x, ∀ u ∈ enc x, u.oneCell' = true
  pos : 0 < k
  by_ : bytes ≤ 1000
theorem flat_szG {α : Type} {enc : α → List Value} {k : Nat} (hk : ∀ x, (enc x).length = k) : ∀ xs : List α, (xs.flatMap enc).length = xs.length * k
  | [] => by simp
  | x :: xs => by rw [List.flatMap_cons, List.length_append, flat_szG hk xs, hk, List.length_cons, Nat.succ_mul]; omega
theorem flat_clG {α : Type} {enc : α → List Value} {k j : Nat} {v : Value} (hk : ∀ x, (enc x).length = k) : ∀ (ys : List α) (i : Nat) (x : α), ys[i]? = some x → (enc x)[j]? = some v → (ys.flatMap enc)[i * k + j]? = some v
  | [], i, x, h, _ => by simp at h
  | y :: ys, i, x, h, hj => by
    rw [List.flatMap_cons]
    cases i with
    | zero =>
      simp at h
      subst h
      have := (List.getElem?_eq_some_iff.1 hj).1
      rw [Nat.zero_mul, Nat.zero_add, List.getElem?_append_left this]
      exact hj
    | succ i =>
      rw [List.getElem?_append_right (by rw [hk, Nat.succ_mul]; omega), hk, show (i + 1) * k + j - k = i * k + j by rw [Nat.succ_mul]; omega]
      exact flat_clG hk ys i x (by simpa using h) hj
theorem ri_cellsG {α : Type} {enc : α → List Value} {k : Nat} (hk : ∀ x, (enc x).length = k) (h0 : 0 < k) {w : World} {ad : Addr} {m : Nat} {ys : List α} (h : RI enc k w (some ad) m ys) : ∀ j u, (ys.flatMap enc)[j]? = some u → w.cell? (ad.add j) = some u := by
  intro j u hj
  have hl := (List.getElem?_eq_some_iff.1 hj).1
  rw [flat_szG hk] at hl
  have hm := h.len
  have hd : j / k < ys.length := Nat.div_lt_of_lt_mul (by rw [Nat.mul_comm]; exact hl)
  obtain ⟨b, o, e, _, hc⟩ := h.2 (by rw [← hm]; exact Nat.lt_of_le_of_lt (Nat.zero_le _) hd)
  cases e
  have hx : ys[j / k]? = some (ys[j / k]'hd) := List.getElem?_eq_getElem _
  generalize ys[j / k]'hd = x at hx
  have hv : (enc x)[j % k]? = some ((enc x)[j % k]'(by rw [hk]; exact Nat.mod_lt _ h0)) := List.getElem?_eq_getElem _
  have h2 := flat_clG hk ys (j / k) x hx hv
  have e2 : j / k * k + j % k = j := by rw [Nat.mul_comm]; exact Nat.div_add_mod j k
  rw [e2, hj] at h2
  have h3 := hc (j / k) x hx (j % k) _ hv
  rw [Nat.add_assoc, e2] at h3
  cases h2
  rw [add_plain]
  exact h3
/-- a literal of one item, as a row -/
theorem RI.lit {α : Type} {enc : α → List Value} {k : Nat} {w : World} {g : Nat} {t : TypeId} {x : α} (h : Blk w g t (enc x).toArray) : RI enc k w (some ⟨g, 0, none⟩) 1 [x] :=
  ⟨rfl, fun _ => ⟨g, 0, rfl, h.lt, fun i y hx j v hv => by
    have hi : i = 0 := by have := (List.getElem?_eq_some_iff.1 hx).1; simp at this; exact this
    subst hi
    simp at hx
    subst hx
    have := h.cell j
    rw [show (0 : Nat) + 0 * k + j = j by omega, this]
    simpa using hv⟩⟩
theorem RI.new {α : Type} {enc : α → List Value} {k : Nat} (w : World) (t : TypeId) (x : α) {g : Nat} {cs : Array Value} (hg : g = w.heap.size) (hcs : cs = (enc x).toArray) : RI enc k (w.alloc (.cells cs t)) (some ⟨g, 0, none⟩) 1 [x] := by
  subst hg hcs
  exact RI.lit (Blk.new _ _ _)
theorem RI.drop {α : Type} {enc : α → List Value} {k : Nat} {w : World} {A B : Option Addr} {n m : Nat} {xs : List α} (h : RI enc k w A n xs) (hm : m ≤ n) (hB : m < n → B = A.map (·.add (m * k))) : RI enc k w B (n - m) (xs.drop m) := by
  refine ⟨by rw [List.length_drop, h.len], fun hp => ?_⟩
  obtain ⟨b, o, rfl, hl, hc⟩ := h.2 (by omega)
  refine ⟨b, o + m * k, by rw [hB (by omega), Option.map_some, add_plain], hl, fun i x hx j v hv => ?_⟩
  rw [List.getElem?_drop] at hx
  have := hc (m + i) x hx j v hv
  rw [Nat.add_mul] at this
  rw [show o + m * k + i * k + j = o + (m * k + i * k) + j by omega]
  exact this
section
variable {α : Type} {P : Program} {sl e : TypeId} {enc : α → List Value} {k bytes : Nat}
theorem run_items (E : Elem P sl e enc k bytes) (w : World) (base : Nat) (ot : TypeId) (v : Value) (n : Nat) (xs : List α) (hown : w.ownsRow base e k v n (xs.flatMap enc))
    (A : Option Addr) (m c : Nat) (ys : List α) (hri : RI enc k w A m ys) (hn : n ≤ 1048576) (hm : m ≤ 1048576) (hbase : base ≤ w.heap.size) :
    ∃ v' w', (Builtin.append_ #[sl, sl] ot #[v, .slice A m c]).run P w = .ok v' w' ∧ w'.ownsRow base e k v' (n + m) ((xs ++ ys).flatMap enc) ∧ Below base w w' ∧ w.grownBy w' v.ownBlock := by
  obtain ⟨i, z, hi, hz, hsz, hby, hzc⟩ := E.info
  have ht := E.under
  cases A with
  | none =>
    have h0 : m = 0 := by
      rcases Nat.eq_zero_or_pos m with h0 | h0
      · exact h0
      · obtain ⟨b, o, e, _⟩ := hri.2 h0
        cases e
    subst h0
    obtain rfl : ys = [] := List.eq_nil_of_length_eq_zero hri.len
    have hrun : (Builtin.append_ #[sl, sl] ot #[v, .slice none 0 c]).run P w = .ok v w := by
      rcases hown.2 with ⟨rfl, rfl⟩ | ⟨g, cap, cur, rfl, _, _, hnc, _⟩
      · simp [Builtin.append_, run_underlying ht, sizeOf, typeInfo, hi, Builtin.lenOf, Builtin.firstCells]
      · simp [Builtin.append_, run_underlying ht, sizeOf, typeInfo, hi, Builtin.lenOf, Builtin.firstCells, hnc, storeCells]
    exact ⟨v, w, hrun, by rw [List.append_nil]; exact hown, Below.refl _ _, ⟨rfl, rfl, rfl, Nat.le_refl _, fun _ _ _ => rfl⟩⟩
  | some ad =>
    have hb1 : (n + m) * bytes ≤ 2097152 * 1000 := Nat.mul_le_mul (by omega) E.by_
    obtain ⟨v', w', hr, h2, h3, _, _⟩ := run_append_own_at (P := P) w base sl ot e i z k bytes ht hi hz hsz hby hzc E.pos v n _ hown ad m c (ys.flatMap enc) (by rw [flat_szG E.len, hri.len]) (ri_cellsG E.len E.pos hri)
      (by intro u hu; rw [List.mem_flatMap] at hu; obtain ⟨y, _, hy⟩ := hu; exact E.one y u hy) (by unfold maxLen; omega) (by omega) hbase
    exact ⟨v', w', hr, by rw [List.flatMap_append]; exact h2, (Below.refl base w).grown h3 hbase (by intro j hj; exact (hown.lt j hj).1), h3⟩
theorem wpList_items (E : Elem P sl e enc k bytes) {w : World} {ops : Array Oper} {rest : List Oper} {o : Oper} {a : Act} {Q : Exit → Act → World → Prop} (hgd : o.guard = none) (s x : Operand)
    (ho : o.op = .call { callee := .builtin .append, args := #[s, x], argTypes := #[sl, sl] })
    (base : Nat) (v : Value) (n : Nat) (xs : List α) (hs : a.eval s = v) (hown : w.ownsRow base e k v n (xs.flatMap enc))
    (A : Option Addr) (m c : Nat) (ys : List α) (hx : a.eval x = .slice A m c) (hri : RI enc k w A m ys) (hn : n ≤ 1048576) (hm : m ≤ 1048576) (hbase : base ≤ w.heap.size)
    (h : ∀ v' w', w'.ownsRow base e k v' (n + m) ((xs ++ ys).flatMap enc) → Below base w w' → w.grownBy w' v.ownBlock → wpList P ops Q rest (a.put o.dst v') w') : wpList P ops Q (o :: rest) a w := by
  refine wpList_plain hgd fun K hK => ?_
  obtain ⟨v', w', hr, h2, h3, h4⟩ := run_items E w base o.type v n xs hown A m c ys hri hn hm hbase
  unfold Oper.wp
  simp only [execOp, ho, resolve, invoke, builtin, Sem.run_bind, Sem.run_pure, Result.andThen_ok, List.map_toArray, List.map_cons, List.map_nil, hs, hx, hr]
  exact hK _ _ (h v' w' h2 h3 h4)
theorem step_items (E : Elem P sl e enc k bytes) {w : World} {ops : Array Oper} {o : Oper} {a : Act} {K : Act → World → Prop} {Q : Exit → Act → World → Prop} {E' : Prop} (hgd : o.guard = none) (s x : Operand)
    (ho : o.op = .call { callee := .builtin .append, args := #[s, x], argTypes := #[sl, sl] })
    (base : Nat) (v : Value) (n : Nat) (xs : List α) (hs : a.eval s = v) (hown : w.ownsRow base e k v n (xs.flatMap enc))
    (A : Option Addr) (m c : Nat) (ys : List α) (hx : a.eval x = .slice A m c) (hri : RI enc k w A m ys) (hn : n ≤ 1048576) (hm : m ≤ 1048576) (hbase : base ≤ w.heap.size)
    (h : ∀ v' w', w'.ownsRow base e k v' (n + m) ((xs ++ ys).flatMap enc) → Below base w w' → w.grownBy w' v.ownBlock → K (a.put o.dst v') w') :
    if Region.wanted o (yielded ops a.tmps) = true then Oper.wp P o a w K Q else E' := by
  rw [if_pos (by simp [Region.wanted, hgd])]
  obtain ⟨v', w', hr, h2, h3, h4⟩ := run_items E w base o.type v n xs hown A m c ys hri hn hm hbase
  have hk := h v' w' h2 h3 h4
  simp only [Oper.wp, execOp, ho, resolve, invoke, builtin, Sem.run_bind, Sem.run_pure, Result.andThen_ok, List.map_toArray, List.map_cons, List.map_nil, hs, hx, hr]
  exact hk
end
end Go.Proofs.Ytgodmfacelfhaaa

