/- append of any addresses that read as a list, nil let in, behind what the call owns; one address in a literal; over the seat's program. -/
import Derived.Test.YtdljpokhcfhhfaaGreatDoorAs
import Derived.Laws.AppendOwnNone
import Derived.Test.YtdljpokhcfhhfaaGreatDoorProg
namespace Go.Proofs.YtdljpokhcfhhfaaGreatDoor
open Go.RowKit Sm
theorem infoA : (Tryz.prog.info? 42).map (fun i => (i.zero, i.size, i.bytes)) = some (some (.int .u32 0), 1, 4) := by kernel_rfl
theorem infoA' : ∃ i, Tryz.prog.info? 42 = some i ∧ i.zero = some (.int .u32 0) ∧ i.size = 1 ∧ i.bytes = 4 := by
  have h := infoA
  cases hi : Tryz.prog.info? 42 with
  | none => rw [hi] at h; cases h
  | some i => rw [hi] at h; simp at h; exact ⟨i, rfl, h.1, h.2.1, h.2.2⟩
theorem wpList_appA {w : World} {ops : Array Oper} {rest : List Oper} {o : Oper} {a : Act} {Q : Exit → Act → World → Prop} (hgd : o.guard = none) (s x : Operand)
    (ho : o.op = .call { callee := .builtin .append, args := #[s, x], argTypes := #[31, 31] })
    (base : Nat) (v : Value) (n : Nat) (xs : List Int) (hs : a.eval s = v) (hown : w.ownsRow base 42 1 v n (A32 xs))
    (A : Option Addr) (m c : Nat) (ys : List Int) (hx : a.eval x = .slice A m c) (har : AR w A m ys) (hn : n ≤ 1048576) (hm : m ≤ 1048576) (hbase : base ≤ w.heap.size)
    (h : ∀ v' w', w'.ownsRow base 42 1 v' (n + m) (A32 (xs ++ ys)) → Below base w w' → wpList Tryz.prog ops Q rest (a.put o.dst v') w') : wpList Tryz.prog ops Q (o :: rest) a w := by
  obtain ⟨i, hi, hz, hsize, hby⟩ := infoA'
  have ht := Tryz.underlying31
  cases A with
  | none =>
    have h0 : m = 0 := by
      rcases Nat.eq_zero_or_pos m with h0 | h0
      · exact h0
      · obtain ⟨b, o, e, _⟩ := har.2.2 h0
        cases e
    subst h0
    obtain rfl : ys = [] := List.eq_nil_of_length_eq_zero har.len
    refine wpList_plain hgd fun K hK => ?_
    have hrun : (Builtin.append_ #[31, 31] o.type #[v, .slice none 0 c]).run Tryz.prog w = .ok v w := by
      rcases hown.2 with ⟨rfl, rfl⟩ | ⟨g, cap, cur, rfl, _, _, hnc, _⟩
      · simp [Builtin.append_, run_underlying ht, sizeOf, typeInfo, hi, Builtin.lenOf, Builtin.firstCells]
      · simp [Builtin.append_, run_underlying ht, sizeOf, typeInfo, hi, Builtin.lenOf, Builtin.firstCells, hnc, storeCells]
    unfold Oper.wp
    simp [execOp, ho, resolve, invoke, builtin, hs, hx, hrun, Result.andThen]
    exact hK _ _ (h v w (by rw [List.append_nil]; exact hown) (Below.refl _ _))
  | some ad =>
    refine wpList_append_own w hgd s x 31 ho base 42 i (.int .u32 0) 1 4 ht hi hz hsize hby rfl (by decide) v n (A32 xs) hs hown ad m c (A32 ys) hx (by rw [A32_len, har.len]; omega) ?_ (A32_one _) (by unfold maxLen; omega) (by omega) hbase ?_
    · intro j u hj
      have hjm : j < m := by
        have := (List.getElem?_eq_some_iff.1 hj).1
        rw [A32_len, har.len] at this
        exact this
      obtain ⟨b, o', e', _, hc⟩ := har.2.2 (by omega)
      cases e'
      rw [WideShapes.add_plain, hc j hjm, ← hj, A32_at (by rw [har.len]; exact hjm)]
    · intro v' w' hown' hg _
      refine h v' w' (by rw [A32_app]; exact hown') ((Below.refl _ _).grown hg hbase ?_)
      intro k hk
      exact (hown.lt k hk).1
theorem sz_alloc (w : World) (o : Obj) : (w.alloc o).heap.size = w.heap.size + 1 := by simp
theorem ar_lit {w : World} {g : Nat} {t : TypeId} {x : Int} (h : Blk w g t #[.int .u32 x]) (hx : isA x) : AR w (some ⟨g, 0, none⟩) 1 [x] :=
  ⟨rfl, fun y hy => by simp at hy; subst hy; exact hx, fun _ => ⟨g, 0, rfl, h.lt, fun i hi => by
    have e : i = 0 := by omega
    subst e
    simpa using h.cell 0⟩⟩
end Go.Proofs.YtdljpokhcfhhfaaGreatDoor

