/- Package trie's calls, over the seat's program: a trie that lies at a place, all of whose blocks are told. -/
import Derived.Test.YtnnoigdedjbbmaaMp
import Derived.Test.YtnnoigdedjbbmaaAddr
import Derived.Test.YtnnoigdedjbbmaaBy
import Derived.WalkKit
import Derived.BigQuiet
import Derived.Deep.QuietTactic
import Derived.Deep.RegionHeld3
import Derived.Deep.DeepAppendRoom
import Derived.Lib.SliceRun
import Derived.WalkSpells
import Derived.Outline
import Derived.Maps.OwnSet
import Derived.Deep.RegionLaw
namespace Go.Proofs.Ytnnoigdedjbbmaa
open Go.RowKit
structure TR (w : World) (F : Nat → Prop) (N : Nat) (L : Tr.Row) : Prop where
  own : F N
  lt : ∀ i, F i → i < w.heap.size
  var : ∃ m, Blk w N 31 #[m] ∧ ((m = .map none ∧ L = []) ∨ ∃ b, m = .map (some b) ∧ b ≠ N ∧ MR w F b L)
theorem TR.kept {w w' : World} {F : Nat → Prop} {N : Nat} {L : Tr.Row} (h : TR w F N L) (hk : ∀ i, F i → w'.heap[i]? = w.heap[i]?) (hz : w.heap.size ≤ w'.heap.size) : TR w' F N L := by
  obtain ⟨h1, h2, m, h3, h4⟩ := h
  refine ⟨h1, fun i hi => Nat.lt_of_lt_of_le (h2 i hi) hz, m, (hk N h1).trans h3, ?_⟩
  rcases h4 with h4 | ⟨b, e, hn, es, clock, h4⟩
  · exact .inl h4
  · exact .inr ⟨b, e, hn, es, clock, h4.kept hk (fun _ h => h)⟩
theorem TR.next {w w' : World} {F : Nat → Prop} {N : Nat} {L : Tr.Row} (h : TR w F N L) (hb : Below w.heap.size w w') : TR w' F N L :=
  h.kept (fun i hi => hb.block i (h.lt i hi)) hb.size
theorem TR.new (w : World) : TR (w.alloc (.cells #[.map none] 31)) (· = w.heap.size) w.heap.size [] :=
  ⟨rfl, fun i hi => by subst hi; simp, _, Blk.new _ _ _, .inl ⟨rfl, rfl⟩⟩
theorem info_int : (Try.prog.info? 3).map (fun i => (i.zero, i.size, i.bytes)) = some (some (.int .i64 0), 1, 8) := by kernel_rfl
theorem clone_any (v : Value) (xs : List Int) (w : World) (h : w.ownsRow 0 3 1 v xs.length (I64 xs)) (hn : xs.length ≤ 1048576) :
    Calls Try.prog 22 #[v] w fun e w' => ∃ v', e = .returned v' ∧ w'.ownsRow w.heap.size 3 1 v' xs.length (I64 xs) ∧ Below w.heap.size w w' := by
  obtain ⟨i0, hi, hz0, hz1, hz2⟩ := info_parts info_int
  have q22 : ∀ (w : World) (a : Option Addr) (n c n' c' : Nat), (binOp .eql 39 (.slice a n c) (.slice none n' c')).run Try.prog w = .ok (.bool a.isNone) w := fun w a n c n' c' => Lib.run_eql_slice_nil w _ _ a n c n' c' Try.underlying39
  have h0 := h
  rcases h.2 with ⟨rfl, hl⟩ | ⟨g, cap, cur, rfl, _, hg, hnc, hcm, _⟩
  · obtain rfl : xs = [] := List.eq_nil_of_length_eq_zero hl
    clear h h0 hl
    go_enter Try.func22, Try.ntmps22
    go_wp2
    go_ret
    exact ⟨_, rfl, World.ownsRow_nil _ _ _ _, Below.refl _ _⟩
  · have hc : ∀ j u, (I64 xs)[j]? = some u → w.cell? ((⟨g, 0, none⟩ : Addr).add j) = some u := h0.cells rfl
    have A := Lib.hid hc
    generalize hm : xs.length = m at *
    have hl : (I64 xs).length = m * 1 := by rw [I64_len]; omega
    have hmm := Lib.hid hm
    clear hc h h0 hg hm
    go_enter Try.func22, Try.ntmps22
    go_wp2_with (at_builtin; refine wpList_append_own _ rfl _ _ 39 rfl w.heap.size 3 i0 (.int .i64 0) 1 8 Try.underlying39 hi hz0 hz1 hz2 rfl (by decide) _ _ _ rfl (World.ownsRow_made w #[] 0 (Nat.le_refl _) (Nat.zero_le _) rfl) ⟨g, 0, none⟩ m cap (I64 xs) rfl hl (fun j u hj => Lib.cell?_alloc_some _ (A.out j u hj)) (I64_one xs) (by unfold maxLen; omega) (by omega) (by simp) ?_; intro v' w1 hown hgrow hnil)
    go_wp2
    go_ret
    rw [Nat.zero_add, List.nil_append] at hown
    have hb : Below w.heap.size w w1 := ((Below.refl _ w).alloc (Nat.le_refl _) _).grown hgrow (by simp) (by intro k hk; have e : w.heap.size = k := Option.some.inj hk; omega)
    exact ⟨v', rfl, hown, hb⟩
theorem wpList_len_map {P : Program} (w : World) {ops : Array Oper} {rest : List Oper} {o : Oper} {a : Act} {Q : Exit → Act → World → Prop}
    (hg : o.guard = none) (m : Operand) (t : TypeId) (hop : o.op = Op.call { callee := Callee.builtin Builtin.len, args := #[m], argTypes := #[t] })
    (k e : TypeId) (ht : P.underlying t = some (.map k e)) (b : Nat) (es : Array MapEntry) (clock : Nat) (hm : a.eval m = .map (some b)) (hb : w.heap[b]? = some (.map es clock))
    (hK : wpList P ops Q rest (a.put o.dst (.int .i64 es.size)) w) :
    wpList P ops Q (o :: rest) a w := by
  refine wpList_plain hg fun K' hK' => ?_
  unfold Oper.wp
  simp [execOp, hop, resolve, invoke, builtin, hm, Builtin.len_, run_underlying ht, MapKept.run_getObj_map hb, goInt, Result.andThen]
  exact hK' _ _ hK
theorem len_any (w : World) (F : Nat → Prop) (N : Nat) (L : Tr.Row) (h : TR w F N L) :
    Calls Try.prog 16 #[.pointer (some ⟨N, 0, none⟩)] w fun e w' => e = .returned (.int .i64 L.length) ∧ w = w' := by
  obtain ⟨h1, h2, m, h3, h4⟩ := h
  have hc := h3.cell 0
  simp at hc
  rcases h4 with ⟨rfl, rfl⟩ | ⟨b, rfl, hn, es, clock, h4⟩
  · go_enter Try.func16, Try.ntmps16
    go_wp2
    go_ret
    exact ⟨rfl, rfl⟩
  · have hs := Lib.hid h4.size
    have hb := h4.block
    go_enter Try.func16, Try.ntmps16
    go_wp2_with (at_len; refine wpList_len_map _ rfl _ 29 rfl 27 39 Try.underlying29 b es clock rfl hb ?_)
    go_wp2
    go_ret
    exact ⟨ret_int (by rw [hs.out]), rfl⟩
/-- a look-up, in whatever trie -/
theorem TR.look {w : World} {F : Nat → Prop} {N : Nat} {L : Tr.Row} {p : Tr.Pf} (h : TR w F N L) (hp : wfP p) : ∃ m v, (∀ W, Below w.heap.size w W → W.cell? ⟨N, 0, none⟩ = some m) ∧
    (∀ W, Below w.heap.size w W → (Instr.lookup 29 m (pv p) true).run Try.prog W = .ok (.tuple #[v, .bool (Tr.get L p).isSome]) W) ∧
    w.ownsRow 0 3 1 v ((Tr.get L p).getD []).length (I64 ((Tr.get L p).getD [])) := by
  obtain ⟨h1, h2, m, h3, h4⟩ := h
  have hc := h3.cell 0
  simp at hc
  have hcc : ∀ W, Below w.heap.size w W → W.cell? ⟨N, 0, none⟩ = some m := fun W hW => (hW.cell (p := ⟨N, 0, none⟩) (h2 N h1)).trans hc
  rcases h4 with ⟨rfl, rfl⟩ | ⟨b, rfl, hn, h4⟩
  · obtain ⟨kl, hkl⟩ := pv_key hp
    refine ⟨_, .slice none 0 0, hcc, fun W _ => ?_, World.ownsRow_nil _ _ _ _⟩
    rcases lawP.find W hkl [] (by simp) with ⟨f1, _⟩ | ⟨j, e0, _, f2, _⟩
    · simp [Instr.lookup, run_underlying Try.underlying29, lawP.check W _ hkl, f1, Result.andThen, Tr.get]
    · simp at f2
  · obtain ⟨v, hr, h5, h6⟩ := h4.look hp
    obtain ⟨es, clock, hI⟩ := h4
    exact ⟨_, v, hcc, fun W hW => hr W (hW.block b (h2 b hI.own)), h5⟩
theorem get_any (w : World) (F : Nat → Prop) (N : Nat) (L : Tr.Row) (p : Tr.Pf) (h : TR w F N L) (hp : wfP p) (hn : ((Tr.get L p).getD []).length ≤ 1048576) :
    Calls Try.prog 14 #[.pointer (some ⟨N, 0, none⟩), pv p] w fun e w' => ∃ v, e = .returned (.tuple #[v, .bool (Tr.get L p).isSome]) ∧ w'.ownsRow w.heap.size 3 1 v ((Tr.get L p).getD []).length (I64 ((Tr.get L p).getD [])) ∧ Below w.heap.size w w' := by
  obtain ⟨m, v, hc, hr, hown⟩ := h.look hp
  have hB1 : Below w.heap.size w (w.alloc (.cells #[.int .u32 p.1, .int .i64 p.2] 27)) := (Below.refl _ _).alloc (Nat.le_refl _) _
  unfold pv at hr ⊢
  have c0 := hc _ hB1
  have c1 := hr _ hB1
  have c2 := fun n => hr _ (below_drewN hB1 n)
  have HO := Lib.hid hown
  have HB := Lib.hid hB1
  generalize (Tr.get L p).getD [] = xs at *
  generalize (Tr.get L p).isSome = is at *
  clear h hown hB1 hc hr
  go_enter Try.func14, Try.ntmps14
  go_wp2_with fail
  go_quiet (fail)
  go_wp2_with fail
  have hB2 := below_drewN HB.out nq
  refine (clone_any v xs _ (own_next HO.out hB2) hn).mono ?_
  rintro e w1 ⟨v1, rfl, hown1, hb1⟩
  go_wp2
  go_ret2
  exact ⟨v1, rfl, own_up hown1 (by simp), hB2.trans (hb1.mono (by simp))⟩
end Go.Proofs.Ytnnoigdedjbbmaa

