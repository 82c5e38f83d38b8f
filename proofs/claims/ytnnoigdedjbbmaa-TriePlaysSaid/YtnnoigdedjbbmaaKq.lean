/- slices.AppendSeq, Collect over an iterator of prefixes: what has come, in new memory, in that order. -/
import Derived.Test.YtnnoigdedjbbmaaKp
namespace Go.Proofs.Ytnnoigdedjbbmaa
open Go.RowKit Go.Maps Go.Sort Go.Shelf
attribute [local go_sem] Oper.semAt_some
theorem info_pf : (Try.prog.info? 27).map (fun i => (i.zero, i.size, i.bytes)) = some (some (.agg #[.int .u32 0, .int .i64 0]), 2, 16) := by kernel_rfl
/-- the cells of a row of prefixes -/
def PF (l : List Tr.Pf) : List Value := (l.map fun p => [Value.int .u32 p.1, .int .i64 p.2]).flatten
theorem PF_app (l m : List Tr.Pf) : PF (l ++ m) = PF l ++ PF m := by simp [PF]
theorem PF_len (l : List Tr.Pf) : (PF l).length = l.length * 2 := by
  induction l with
  | nil => rfl
  | cons x r ih =>
    have : PF (x :: r) = [Value.int .u32 x.1, .int .i64 x.2] ++ PF r := rfl
    rw [this, List.length_append, ih]; simp; omega
theorem PF_one (l : List Tr.Pf) : ∀ u ∈ PF l, u.oneCell' = true := by
  intro u hu
  unfold PF at hu
  obtain ⟨m, hm, hu⟩ := List.mem_flatten.1 hu
  obtain ⟨p, _, rfl⟩ := List.mem_map.1 hm
  simp at hu
  rcases hu with rfl | rfl <;> rfl
def ApAct (w0 : World) (sv : Value) (B : Nat) (x : Tr.Pf) (a : Act) (W : World) : Prop :=
  ∃ Bx, w0.heap.size < Bx ∧ Blk W Bx 27 #[.int .u32 x.1, .int .i64 x.2] ∧
    a = { tmps := #[.slice none 0 0, sv, .pointer (some ⟨B, 0, none⟩), undef, .slice none 0 0, .pointer (some ⟨Bx, 0, none⟩), sv, .agg #[.int .u32 x.1, .int .i64 x.2], undef, undef, undef, undef, undef], defers := [] }
set_option maxRecDepth 100000 in
set_option maxHeartbeats 2000000 in
theorem appendSeq_in (F : Fence) (n : Nat) (h11 : F.fn 33) (hro : F.round = none) (hn : 2 ≤ n) (g : Nat) (lb : Array Value) (hFg : F.fn g) (eg : ∀ args w, (callFunc g args).run Try.prog w = .ok (.enter g args) w)
    (S Sp : List Tr.Pf → Prop) (N : Nat) (hN : N ≤ 1000000) (w w0 : World) (hb0 : Below w0.heap.size w0 w) (hseq : SeqStopsK F (n - 1) Try.prog g lb (fun x : Tr.Pf => #[pv x]) KeepsWalks S Sp N w0) :
    CallsIn F n Try.prog 33 #[.slice none 0 0, .func (.func g) #[] lb] w fun e w' => ∃ (v : Value) (ss : List Tr.Pf), e = .returned v ∧ S ss ∧ w'.ownsRow w.heap.size 27 2 v ss.length (PF ss) ∧ Below w.heap.size w w' := by
  have h1 : 1 ≤ n := by omega
  obtain ⟨i0, hi, hz0, hz1, hz2⟩ := info_parts info_pf
  refine callsIn_of_wp_marks Try.func33 rfl h11 ?_ hro
  simp only [Try.ntmps33, List.size_toArray, List.length_cons, List.length_nil, Nat.reduceAdd, Nat.reduceSub, Array.replicate_succ, Array.replicate_zero, List.push_toArray, List.append_toArray, List.nil_append, List.cons_append]
  gi_wp2
  have bB := Boxed.new w 32 (.slice none 0 0)
  have hB1 : Below w.heap.size w (w.alloc (.cells #[.slice none 0 0] 32)) := (Below.refl _ w).alloc (Nat.le_refl _) _
  have hsz : (w.alloc (.cells #[.slice none 0 0] 32)).heap.size = w.heap.size + 1 := by simp
  have hb01 : Below w0.heap.size w0 (w.alloc (.cells #[.slice none 0 0] 32)) := hb0.trans (hB1.mono hb0.size)
  generalize w.alloc (.cells #[.slice none 0 0] 32) = W0 at bB hB1 hsz hb01 ⊢
  refine wpIn_rangeFunc_ownH hro h1 (gf := g) (lb := lb) rfl hFg eg hseq walksK_t walksK_b hb01 (fun _ => rfl)
    (fun pre W => (∃ v, Boxed W w.heap.size 32 v ∧ W.ownsRow w.heap.size 27 2 v pre.length (PF pre) ∧ True) ∧ Below w.heap.size w W)
    (fun _ _ _ => False)
    (OwnFrom.and (Own.from (holdsRow_own w.heap.size w.heap.size 32 27 2 (fun pre : List Tr.Pf => pre.length) (fun pre => PF pre) (fun _ _ => True)) _) (ownFrom_below (Nat.le_refl _) (by omega)))
    (fun _ _ _ _ _ h _ _ => h) ⟨⟨_, bB, World.ownsRow_nil _ _ _ _, trivial⟩, hB1⟩ (ApAct w (.func (.func g) #[] lb) w.heap.size) ?_ ?assign ?body ?done ?stop
  · rintro x a' u A B row ⟨Bx, h1x, h2x, h3x⟩ hg hr
    refine ⟨Bx, h1x, (hg.block Bx h2x.lt (fun e => ?_)).trans h2x, h3x⟩
    obtain ⟨_, o, ho, hc⟩ := hr Bx e.symm
    rw [show A.heap[Bx]? = _ from h2x] at ho
    cases ho; cases hc
  case assign =>
    rintro l pre ⟨x1, x2⟩ W K ⟨⟨v, hv, hr, _⟩, hB⟩ hK
    have hpv : pv (x1, x2) = .agg #[.int .u32 x1, .int .i64 x2] := rfl
    simp only [hpv]
    have hf : Hid (Blk (W.alloc (.cells #[.int .u32 x1, .int .i64 x2] 27)) W.heap.size 27 #[.int .u32 x1, .int .i64 x2]) := Lib.hid (Blk.new _ _ _)
    clear hpv
    gi_wp2
    refine hK _ _ ((KeepsOthers.alloc _ _).from _) (KeepsWalks.alloc _ _) ⟨⟨v, hv.alloc _, hr.alloc _, trivial⟩, hB.alloc hB.size _⟩ ⟨W.heap.size, by have := hv.lt; omega, hf.out, rfl⟩
  case body =>
    rintro l pre ⟨x1, x2⟩ a' W hl ⟨r, hr⟩ ⟨⟨v, hv, hrow, _⟩, hB⟩ ⟨Bx, hBx, bX, rfl⟩ hlt
    have c0 := hv.cell
    have d0 : W.cell? ⟨Bx, 0, none⟩ = some (.int .u32 x1) := by simpa using bX.cell 0
    have d1 : W.cell? ⟨Bx, 1, none⟩ = some (.int .i64 x2) := by simpa using bX.cell 1
    have e0 := hv.lt
    have e1 := bX.lt
    gi_wp2_with (first
      | (gi_at_builtin; refine wpListIn_append_own _ rfl _ _ 32 rfl w.heap.size 27 i0 _ 2 16 Try.underlying32 hi hz0 hz1 hz2 rfl (by decide) _ _ _ rfl (hrow.alloc _) ⟨W.heap.size, 0, none⟩ 1 1 (PF [(x1, x2)]) rfl rfl (fun j u hj => by
          match j, hj with
          | 0, hj => simp [PF] at hj; subst hj; go_simp
          | 1, hj => simp [PF] at hj; subst hj; go_simp
          | j + 2, hj => simp [PF] at hj) (PF_one _) (by unfold maxLen; omega) (by omega) (by have := hB.size; simp; omega) ?_; intro v' w1 hown' hgrow _; obtain ⟨g', cap', rfl⟩ := ownsRow_succ hown'; obtain ⟨hv1, hv2, hr2, hk2, hb2⟩ := hv.appended (by decide) hrow hB.size (Nat.le_refl _) hown' hgrow; have hc1 := hv1.cell; have hf1 := hv1.frozen)
      | gi_in)
    refine ⟨hk2.from _, hk2.walks, ⟨⟨_, hv2, ?_⟩, hB.trans hb2⟩⟩
    rw [PF_app, List.length_append]
    exact hr2
  case done =>
    rintro D xs W hD hS ⟨⟨v, hv, hrow, _⟩, hB⟩ hK
    have c0 := hv.cell
    gi_wp2
    refine ⟨by simp, .inl ⟨_, _, rfl, run_takeDeferred hK, ?_⟩⟩
    exact ⟨_, results_tmp rfl _ _ _, v, xs, rfl, hS, ownsRow_putObj hrow _ hK rfl, hB.trans (belowK_b (w := w) (Nat.le_refl _) W D _ _ (by omega) hK rfl rfl)⟩
  case stop =>
    rintro D c pre W _ _ hF
    exact hF.elim
set_option maxHeartbeats 1000000 in
theorem collect_in (F : Fence) (n : Nat) (h8 : F.fn 27) (h11 : F.fn 33) (hro : F.round = none) (hn : 3 ≤ n) (g : Nat) (lb : Array Value) (hFg : F.fn g) (eg : ∀ args w, (callFunc g args).run Try.prog w = .ok (.enter g args) w)
    (S Sp : List Tr.Pf → Prop) (N : Nat) (hN : N ≤ 1000000) (w w0 : World) (hb0 : Below w0.heap.size w0 w) (hseq : SeqStopsK F (n - 1 - 1) Try.prog g lb (fun x : Tr.Pf => #[pv x]) KeepsWalks S Sp N w0) :
    CallsIn F n Try.prog 27 #[.func (.func g) #[] lb] w fun e w' => ∃ (v : Value) (ss : List Tr.Pf), e = .returned v ∧ S ss ∧ w'.ownsRow w.heap.size 27 2 v ss.length (PF ss) ∧ Below w.heap.size w w' := by
  have h1 : 1 ≤ n := by omega
  refine callsIn_of_wp Try.func27 rfl h8 ?_ hro
  simp only [Try.ntmps27, List.size_toArray, List.length_cons, List.length_nil, Nat.reduceAdd, Nat.reduceSub, Array.replicate_succ, Array.replicate_zero, List.push_toArray, List.append_toArray, List.nil_append, List.cons_append]
  gi_wp2_with (gi_at_call 33; refine (appendSeq_in F (n - 1) h11 hro (by omega) g lb hFg eg S Sp N hN _ w0 hb0 hseq).mono ?_; rintro e w' ⟨v, ss, rfl, hS, hrow, hb⟩)
  go_ret
  exact ⟨v, ss, rfl, hS, hrow, hb⟩
end Go.Proofs.Ytnnoigdedjbbmaa

