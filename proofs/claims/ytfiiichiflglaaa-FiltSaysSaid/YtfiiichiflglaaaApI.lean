/- append of any row of members, nil let in, behind a row of members that the call owns; over the seat's program. -/
import Derived.Test.YtfiiichiflglaaaSl
import Derived.Test.YtfiiichiflglaaaAppA
import Derived.Lib.AppendIntMem
import Derived.Deep.RegionHeld3
import Derived.Deep.RegionLaw
import Derived.Deep.DeepAppendRoom
namespace Go.Proofs.Ytfiiichiflglaaa
open Go.ChangeShapes Go.WideShapes Go.ChangeAt Go.RowKit Sm
theorem flat_cells {α : Type} {enc : α → List Value} {k j : Nat} {v : Value} (hk : ∀ x, (enc x).length = k) : ∀ (ys : List α) (i : Nat) (x : α), ys[i]? = some x → (enc x)[j]? = some v → (ys.flatMap enc)[i * k + j]? = some v
  | [], i, x, h, _ => by simp at h
  | y :: ys, i, x, h, hj => by
    rw [List.flatMap_cons]
    cases i with
    | zero =>
      simp at h
      subst h
      have := (List.getElem?_eq_some_iff.1 hj).1
      rw [Nat.zero_mul, Nat.zero_add, List.getElem?_append_left this]
      exact hj
    | succ i =>
      rw [List.getElem?_append_right (by rw [hk, Nat.succ_mul]; omega), hk, show (i + 1) * k + j - k = i * k + j by rw [Nat.succ_mul]; omega]
      exact flat_cells hk ys i x (by simpa using h) hj
theorem flat_size {α : Type} {enc : α → List Value} {k : Nat} (hk : ∀ x, (enc x).length = k) : ∀ xs : List α, (xs.flatMap enc).length = xs.length * k
  | [] => by simp
  | x :: xs => by rw [List.flatMap_cons, List.length_append, flat_size hk xs, hk, List.length_cons, Nat.succ_mul]; omega
theorem ri_cells {α : Type} {enc : α → List Value} {k : Nat} (hk : ∀ x, (enc x).length = k) (h0 : 0 < k) {w : World} {ad : Addr} {m : Nat} {ys : List α} (h : RI enc k w (some ad) m ys) : ∀ j u, (ys.flatMap enc)[j]? = some u → w.cell? (ad.add j) = some u := by
  intro j u hj
  have hl := (List.getElem?_eq_some_iff.1 hj).1
  rw [flat_size hk] at hl
  have hm := h.len
  have hd : j / k < ys.length := Nat.div_lt_of_lt_mul (by rw [Nat.mul_comm]; exact hl)
  obtain ⟨b, o, e, _, hc⟩ := h.2 (by rw [← hm]; exact Nat.lt_of_le_of_lt (Nat.zero_le _) hd)
  cases e
  have hx : ys[j / k]? = some (ys[j / k]'hd) := List.getElem?_eq_getElem _
  generalize ys[j / k]'hd = x at hx
  have hv : (enc x)[j % k]? = some ((enc x)[j % k]'(by rw [hk]; exact Nat.mod_lt _ h0)) := List.getElem?_eq_getElem _
  have h2 := flat_cells hk ys (j / k) x hx hv
  have e2 : j / k * k + j % k = j := by rw [Nat.mul_comm]; exact Nat.div_add_mod j k
  rw [e2, hj] at h2
  have h3 := hc (j / k) x hx (j % k) _ hv
  rw [Nat.add_assoc, e2] at h3
  cases h2
  rw [add_plain]
  exact h3
theorem infoM : (Try.prog.info? 38).map (fun i => (i.zero, i.size, i.bytes)) = some (some (.agg #[.int .i64 0, .int .u32 0, .bool false, .slice none 0 0]), 4, 40) := by kernel_rfl
theorem run_mbs (w : World) (base : Nat) (ot : TypeId) (v : Value) (n : Nat) (xs : List Mb) (hown : w.ownsRow base 38 4 v n (xs.flatMap CMember))
    (A : Option Addr) (m c : Nat) (ys : List Mb) (hri : RI CMember 4 w A m ys) (hn : n ≤ 1048576) (hm : m ≤ 1048576) (hbase : base ≤ w.heap.size) :
    ∃ v' w', (Builtin.append_ #[22, 22] ot #[v, .slice A m c]).run Try.prog w = .ok v' w' ∧ w'.ownsRow base 38 4 v' (n + m) ((xs ++ ys).flatMap CMember) ∧ Below base w w' ∧ w.grownBy w' v.ownBlock := by
  obtain ⟨i, hi, hz, hsz, hby⟩ := info_parts infoM
  have ht := Try.underlying22
  cases A with
  | none =>
    have h0 : m = 0 := by
      rcases Nat.eq_zero_or_pos m with h0 | h0
      · exact h0
      · obtain ⟨b, o, e, _⟩ := hri.2 h0
        cases e
    subst h0
    obtain rfl : ys = [] := List.eq_nil_of_length_eq_zero hri.len
    have hrun : (Builtin.append_ #[22, 22] ot #[v, .slice none 0 c]).run Try.prog w = .ok v w := by
      rcases hown.2 with ⟨rfl, rfl⟩ | ⟨g, cap, cur, rfl, _, _, hnc, _⟩
      · simp [Builtin.append_, run_underlying ht, sizeOf, typeInfo, hi, Builtin.lenOf, Builtin.firstCells]
      · simp [Builtin.append_, run_underlying ht, sizeOf, typeInfo, hi, Builtin.lenOf, Builtin.firstCells, hnc, storeCells]
    exact ⟨v, w, hrun, by rw [List.append_nil]; exact hown, Below.refl _ _, ⟨rfl, rfl, rfl, Nat.le_refl _, fun _ _ _ => rfl⟩⟩
  | some ad =>
    obtain ⟨v', w', hr, h2, h3, _, _⟩ := run_append_own_at (P := Try.prog) w base 22 ot 38 i (.agg #[.int .i64 0, .int .u32 0, .bool false, .slice none 0 0]) 4 40 ht hi hz hsz hby rfl (by decide) v n _ hown ad m c (ys.flatMap CMember) (by rw [flat_size (k := 4) (fun _ => rfl), hri.len]) (ri_cells (enc := CMember) (k := 4) (fun _ => rfl) (by decide) hri)
      (by intro u hu; rw [List.mem_flatMap] at hu; obtain ⟨y, _, hy⟩ := hu; simp [CMember] at hy; rcases hy with rfl | rfl | rfl | rfl <;> rfl) (by unfold maxLen; omega) (by omega) hbase
    exact ⟨v', w', hr, by rw [List.flatMap_append]; exact h2, (Below.refl base w).grown h3 hbase (by intro j hj; exact (hown.lt j hj).1), h3⟩
theorem step_mbs {w : World} {ops : Array Oper} {o : Oper} {a : Act} {K : Act → World → Prop} {Q : Exit → Act → World → Prop} {E : Prop} (hgd : o.guard = none) (s x : Operand)
    (ho : o.op = .call { callee := .builtin .append, args := #[s, x], argTypes := #[22, 22] })
    (base : Nat) (v : Value) (n : Nat) (xs : List Mb) (hs : a.eval s = v) (hown : w.ownsRow base 38 4 v n (xs.flatMap CMember))
    (A : Option Addr) (m c : Nat) (ys : List Mb) (hx : a.eval x = .slice A m c) (hri : RI CMember 4 w A m ys) (hn : n ≤ 1048576) (hm : m ≤ 1048576) (hbase : base ≤ w.heap.size)
    (h : ∀ v' w', w'.ownsRow base 38 4 v' (n + m) ((xs ++ ys).flatMap CMember) → Below base w w' → w.grownBy w' v.ownBlock → K (a.put o.dst v') w') :
    if Region.wanted o (yielded ops a.tmps) = true then Oper.wp Try.prog o a w K Q else E := by
  rw [if_pos (by simp [Region.wanted, hgd])]
  obtain ⟨v', w', hr, h2, h3, h4⟩ := run_mbs w base o.type v n xs hown A m c ys hri hn hm hbase
  have hk := h v' w' h2 h3 h4
  simp only [Oper.wp, execOp, ho, resolve, invoke, builtin, Sem.run_bind, Sem.run_pure, Result.andThen_ok, List.map_toArray, List.map_cons, List.map_nil, hs, hx, hr]
  exact hk
theorem wpList_mbs {w : World} {ops : Array Oper} {rest : List Oper} {o : Oper} {a : Act} {Q : Exit → Act → World → Prop} (hgd : o.guard = none) (s x : Operand)
    (ho : o.op = .call { callee := .builtin .append, args := #[s, x], argTypes := #[22, 22] })
    (base : Nat) (v : Value) (n : Nat) (xs : List Mb) (hs : a.eval s = v) (hown : w.ownsRow base 38 4 v n (xs.flatMap CMember))
    (A : Option Addr) (m c : Nat) (ys : List Mb) (hx : a.eval x = .slice A m c) (hri : RI CMember 4 w A m ys) (hn : n ≤ 1048576) (hm : m ≤ 1048576) (hbase : base ≤ w.heap.size)
    (h : ∀ v' w', w'.ownsRow base 38 4 v' (n + m) ((xs ++ ys).flatMap CMember) → Below base w w' → w.grownBy w' v.ownBlock → wpList Try.prog ops Q rest (a.put o.dst v') w') : wpList Try.prog ops Q (o :: rest) a w := by
  refine wpList_plain hgd fun K hK => ?_
  obtain ⟨v', w', hr, h2, h3, h4⟩ := run_mbs w base o.type v n xs hown A m c ys hri hn hm hbase
  unfold Oper.wp
  simp only [execOp, ho, resolve, invoke, builtin, Sem.run_bind, Sem.run_pure, Result.andThen_ok, List.map_toArray, List.map_cons, List.map_nil, hs, hx, hr]
  exact hK _ _ (h v' w' h2 h3 h4)
theorem grow_full {P : Program} (w : World) (base : Nat) (t ty e : TypeId) (i : TypeInfo) (z : Value) (size bytes : Nat) (ht : P.underlying t = some (.slice e)) (hi : P.info? e = some i) (hz : i.zero = some z)
    (hsize : i.size = size) (hby : i.bytes = bytes) (hzs : z.cells.size = size) (hsz : 0 < size) (g n : Nat) (xs : List Value) (hown : w.ownsRow base e size (.slice (some ⟨g, 0, none⟩) n n) n xs)
    (a : Addr) (m c : Nat) (news : List Value) (hl : news.length = m * size) (hnews : ∀ j u, news[j]? = some u → w.cell? (a.add j) = some u) (h1 : ∀ u ∈ news, u.oneCell' = true)
    (hm : 0 < m) (hn6 : n ≤ 1000000) (hm6 : m ≤ 1000000) (hb6 : bytes ≤ 1000) (hbase : base ≤ w.heap.size) :
    ∃ g' c' w', (Builtin.append_ #[t, t] ty #[.slice (some ⟨g, 0, none⟩) n n, .slice (some a) m c]).run P w = .ok (.slice (some ⟨g', 0, none⟩) (n + m) c') w' ∧ w'.ownsRow w.heap.size e size (.slice (some ⟨g', 0, none⟩) (n + m) c') (n + m) (xs ++ news) ∧ Below w.heap.size w w' := by
  have hnb : (n + m) * bytes ≤ 2000000 * 1000 := Nat.mul_le_mul (by omega) hb6
  obtain ⟨v', w', hr, ho, _, _, hat⟩ := run_append_own_at (P := P) w base t ty e i z size bytes ht hi hz hsize hby hzs hsz _ n xs hown a m c news hl hnews h1 (by unfold maxLen; omega) (by omega) hbase
  have hcap := nextslicecap_le (need := n + m) (old := n) (by omega)
  have hg := run_append_grow (P := P) (w := w) t ty e i z ht hi hz ⟨g, 0, none⟩ n n xs (by rw [hown.1, hsize]) (fun j u hj => by
      rw [WideShapes.add_plain, Nat.zero_add]
      have hjl := (List.getElem?_eq_some_iff.1 hj).1
      rw [hown.1] at hjl
      rw [hown.cellAt j hjl]; exact hj) a m c news (by rw [hl, hsize]) hnews (by omega) (by omega) (Nat.le_trans (Nat.mul_le_mul hcap (Nat.le_of_eq hby)) (by
        have : 2 * (n + m) * bytes ≤ 4000000 * 1000 := Nat.mul_le_mul (by omega) hb6
        omega))
  rw [hr] at hg
  injection hg with e1 e2
  subst e1 e2
  refine ⟨_, _, _, hr, ?_, ((Below.refl _ _).drew).alloc (by simp) _⟩
  refine ⟨ho.1, ?_⟩
  rcases ho.2 with ⟨h, _⟩ | ⟨g2, cap, cur, h, _, rest⟩
  · cases h
  · refine .inr ⟨g2, cap, cur, h, ?_, rest⟩
    simp only [Value.slice.injEq, Option.some.injEq, Addr.mk.injEq, and_true] at h
    omega
/-- append of any row of members behind an empty literal: a new row, all else as it was -/
theorem run_mbs0 (w : World) (base g : Nat) (ot : TypeId) (hown : w.ownsRow base 38 4 (.slice (some ⟨g, 0, none⟩) 0 0) 0 [])
    (A : Option Addr) (m c : Nat) (ys : List Mb) (hri : RI CMember 4 w A m ys) (hm : m ≤ 1000000) (hbase : base ≤ w.heap.size) :
    ∃ v' w', (Builtin.append_ #[22, 22] ot #[.slice (some ⟨g, 0, none⟩) 0 0, .slice A m c]).run Try.prog w = .ok v' w' ∧ w'.ownsRow base 38 4 v' m (ys.flatMap CMember) ∧ Below w.heap.size w w' := by
  obtain ⟨i, hi, hz, hsz, hby⟩ := info_parts infoM
  have ht := Try.underlying22
  rcases Nat.eq_zero_or_pos m with h0 | h0
  · subst h0
    obtain rfl : ys = [] := List.eq_nil_of_length_eq_zero hri.len
    have hrun : (Builtin.append_ #[22, 22] ot #[.slice (some ⟨g, 0, none⟩) 0 0, .slice A 0 c]).run Try.prog w = .ok (.slice (some ⟨g, 0, none⟩) 0 0) w := by
      cases A <;> simp [Builtin.append_, run_underlying ht, sizeOf, typeInfo, hi, Builtin.lenOf, Builtin.firstCells, storeCells, loadCells, loadCellsFrom]
    exact ⟨_, w, hrun, hown, Below.refl _ _⟩
  · obtain ⟨b, o, rfl, _, _⟩ := hri.2 h0
    obtain ⟨g', c', w', hr, ho, hb⟩ := grow_full (P := Try.prog) w base 22 ot 38 i (.agg #[.int .i64 0, .int .u32 0, .bool false, .slice none 0 0]) 4 40 ht hi hz hsz hby rfl (by decide) g 0 [] hown ⟨b, o, none⟩ m c (ys.flatMap CMember) (by rw [flat_size (k := 4) (fun _ => rfl), hri.len]) (ri_cells (enc := CMember) (k := 4) (fun _ => rfl) (by decide) hri)
      (by intro u hu; rw [List.mem_flatMap] at hu; obtain ⟨y, _, hy⟩ := hu; simp [CMember] at hy; rcases hy with rfl | rfl | rfl | rfl <;> rfl) h0 (by omega) hm (by omega) hbase
    rw [Nat.zero_add] at hr ho
    exact ⟨_, w', hr, ownk_up ho hbase, hb⟩
theorem wpList_mbs0 {w : World} {ops : Array Oper} {rest : List Oper} {o : Oper} {a : Act} {Q : Exit → Act → World → Prop} (hgd : o.guard = none) (s x : Operand)
    (ho : o.op = .call { callee := .builtin .append, args := #[s, x], argTypes := #[22, 22] })
    (base g : Nat) (hs : a.eval s = .slice (some ⟨g, 0, none⟩) 0 0) (hown : w.ownsRow base 38 4 (.slice (some ⟨g, 0, none⟩) 0 0) 0 [])
    (A : Option Addr) (m c : Nat) (ys : List Mb) (hx : a.eval x = .slice A m c) (hri : RI CMember 4 w A m ys) (hm : m ≤ 1000000) (hbase : base ≤ w.heap.size)
    (h : ∀ v' w', w'.ownsRow base 38 4 v' m (ys.flatMap CMember) → Below w.heap.size w w' → wpList Try.prog ops Q rest (a.put o.dst v') w') : wpList Try.prog ops Q (o :: rest) a w := by
  refine wpList_plain hgd fun K hK => ?_
  obtain ⟨v', w', hr, h2, h3⟩ := run_mbs0 w base g o.type hown A m c ys hri hm hbase
  unfold Oper.wp
  simp only [execOp, ho, resolve, invoke, builtin, Sem.run_bind, Sem.run_pure, Result.andThen_ok, List.map_toArray, List.map_cons, List.map_nil, hs, hx, hr]
  exact hK _ _ (h v' w' h2 h3)
/-- what an operation of a drawn region does: the memory of before is as it was; but for operation x, all memory is; blocks of one type stay -/
structure KP (w0 : World) (t : TypeId) (x i : Nat) (W W' : World) : Prop where
  b : Below w0.heap.size w0 W'
  s : i ≠ x → Below W.heap.size W W'
  f : ∀ g cs, Blk W g t cs → Blk W' g t cs
theorem KP.same {w0 W : World} {t : TypeId} {x i : Nat} (h : Below w0.heap.size w0 W) : KP w0 t x i W W := ⟨h, fun _ => Below.refl _ _, fun _ _ h => h⟩
theorem KP.of {w0 W W' : World} {t : TypeId} {x i : Nat} (h : Below w0.heap.size w0 W) (h2 : Below W.heap.size W W') : KP w0 t x i W W' := ⟨h.trans (h2.mono h.size), fun _ => h2, fun _ _ h => h.next h2⟩
theorem grown_blk {w w' : World} {base e k n g : Nat} {v : Value} {xs : List Value} {t : TypeId} {cs : Array Value} (ho : w.ownsRow base e k v n xs) (hg : w.grownBy w' v.ownBlock) (hb : Blk w g t cs) (ne : t ≠ e) : Blk w' g t cs := by
  refine (hg.block g hb.lt ?_).trans hb
  intro he
  rcases ho.2 with ⟨rfl, _⟩ | ⟨g2, cap, cur, rfl, _, hh, _⟩
  · cases he
  · have : g = g2 := by cases he; rfl
    subst this
    have hb' : w.heap[g]? = some (.cells cs t (0, 0)) := hb
    rw [hb'] at hh
    cases hh
    exact ne rfl
end Go.Proofs.Ytfiiichiflglaaa

