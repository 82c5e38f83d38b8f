/- Keys as keys of a map: maps.Keys over a map of keys, slices.AppendSeq, Collect over an iterator of keys: what has come, in new memory; over the seat's program. -/
import Derived.Test.YtgicmgljllaliaaGreatDoorKit
import Derived.Test.YtgicmgljllaliaaGreatDoorProg
import Derived.RangeFuncNested
import Derived.RangeFuncBound
import Derived.RangeFuncCalls
import Derived.RangeFuncLeaves
import Derived.RangeFuncGives
import Derived.Shelf.Abstract
import Derived.Shelf.AbstractIn
import Derived.Shelf.RegionOpen
import Derived.WalkKit
import Derived.OwnWalkIn
import Derived.TacticsInMore
import Derived.RegionIn
import Derived.LoopNIn
import Derived.LoopIn
import Derived.Maps.AppendAt
import Derived.Maps.OwnSet
import Derived.Maps.Keyed
import Derived.Maps.OwnRows
import Derived.DeepKeys4
import Derived.WideKeyEntry
namespace Go.Proofs.YtgicmgljllaliaaGreatDoor
open Go.RowKit Go.Maps Go.Sort Go.Shelf
open Go.WideElems (Fit)
/-- a key, by its source and its group -/
def kv (p : Int × Int) : Value := .agg #[.int .u32 p.1, .int .u32 p.2]
def UK (p : Int × Int) : Prop := U32 p.1 ∧ U32 p.2
theorem kv_inj {p q : Int × Int} (h : kv p = kv q) : p = q := by
  unfold kv at h
  simp at h
  exact Prod.ext h.1 h.2
theorem kv_inj' (x y : Int × Int) (h : kv x = kv y) : x = y := kv_inj h
theorem laidK : laidOutB Tryz.prog = true := by kernel_rfl
theorem lawK : WideMaps.KeyLaw Tryz.prog 44 := deep_law_laid laidK (m := 2) (by omega) (of_decide_eq_true (by kernel_rfl)) (by kernel_rfl) (by kernel_rfl)
theorem keyTK : Tryz.prog.keyType 44 = true := by kernel_rfl
theorem cellsK : Tryz.prog.cellsOf 44 = 2 := by kernel_rfl
theorem cellsAK : Tryz.prog.cellsOf 42 = 1 := by kernel_rfl
theorem keyedPK : Keyed Tryz.prog 44 := Keyed.of_law lawK
set_option maxRecDepth 100000 in
theorem kv_key' {p : Int × Int} (h : UK p) : ∃ kl, keyOf Tryz.prog 44 (kv p) = some kl := by
  obtain ⟨⟨h0, h1⟩, h2, h3⟩ := h
  have wa : (Lit.int .u32 p.1).wf = true := by simp [Lit.wf, IntKind.min, IntKind.max, IntKind.signed, IntKind.bits]; omega
  have wb : (Lit.int .u32 p.2).wf = true := by simp [Lit.wf, IntKind.min, IntKind.max, IntKind.signed, IntKind.bits]; omega
  have hf : (kv p).formed Tryz.prog 44 = true := by simp [kv, Value.formed, Tryz.underlying44, cellsK]
  unfold keyOf
  simp only [Tryz.underlying44, keyTK, hf, Bool.and_self, if_true]
  have hl : ∀ n, ∃ ls, Tryz.prog.keyLits (n + 2) 44 (kv p).cells.toList = some ls := by
    intro n
    simp [Program.keyLits, kv, Value.cells, Tryz.underlying44, Tryz.underlying42, cellsK, cellsAK, wa, wb]
  have hs : ∃ n, Tryz.prog.types.size + 1 = n + 2 := ⟨Tryz.prog.types.size - 1, by
    have : 1 ≤ Tryz.prog.types.size := of_decide_eq_true (by kernel_rfl)
    omega⟩
  obtain ⟨n, hn⟩ := hs
  obtain ⟨ls, hls⟩ := hl n
  rw [hn, hls]
  exact ⟨_, rfl⟩
/-- a key's literal -/
noncomputable def klit (p : Int × Int) : Lit := (keyOf Tryz.prog 44 (kv p)).getD (.bool false)
theorem kv_key {p : Int × Int} (h : UK p) : keyOf Tryz.prog 44 (kv p) = some (klit p) := by
  obtain ⟨kl, hk⟩ := kv_key' h
  unfold klit
  rw [hk]; rfl
theorem klit_inj {p q : Int × Int} (hp : UK p) (hq : UK q) (h : klit p = klit q) : p = q := by
  have h1 := kv_key hp
  rw [h] at h1
  exact kv_inj (keyedPK.inj h1 (kv_key hq))
set_option maxRecDepth 100000 in
/-- what reads as a key of keys is a key -/
theorem key_kv {v : Value} {kl : Lit} (h : keyOf Tryz.prog 44 v = some kl) : ∃ p : Int × Int, v = kv p ∧ UK p := by
  unfold keyOf at h
  simp only [Tryz.underlying44, keyTK, Bool.true_and] at h
  split at h
  · rename_i hf
    have hs : ∃ n, Tryz.prog.types.size + 1 = n + 2 := ⟨Tryz.prog.types.size - 1, by
      have : 1 ≤ Tryz.prog.types.size := of_decide_eq_true (by kernel_rfl)
      omega⟩
    obtain ⟨n, hn⟩ := hs
    rw [hn] at h
    cases v <;> simp [Value.formed, Tryz.underlying44, cellsK] at hf
    rename_i cs
    obtain ⟨cs⟩ := cs
    match cs, hf with
    | [a, b], _ =>
      simp only [Option.map_eq_some_iff] at h
      obtain ⟨ls, hl, _⟩ := h
      simp [Program.keyLits, Value.cells, Tryz.underlying44, Tryz.underlying42, cellsK, cellsAK] at hl
      cases a with
      | int qa x =>
        by_cases hqa : qa = .u32 ∧ (Lit.int qa x).wf = true
        · cases b with
          | int qb y =>
            by_cases hqb : qb = .u32 ∧ (Lit.int qb y).wf = true
            · exact ⟨(x, y), by rw [hqa.1, hqb.1]; rfl, wf_u32 (by rw [← hqa.1]; exact hqa.2), wf_u32 (by rw [← hqb.1]; exact hqb.2)⟩
            · simp only [if_neg (show ¬ (qb = .u32 ∧ (Lit.int .u32 y).wf = true) from fun h => hqb ⟨h.1, by rw [h.1]; exact h.2⟩)] at hl
              cases h1 : (if qa = .u32 ∧ (Lit.int .u32 x).wf = true then some [Lit.int .u32 x] else none) <;> simp [h1] at hl
          | _ => cases h1 : (if qa = .u32 ∧ (Lit.int .u32 x).wf = true then some [Lit.int .u32 x] else none) <;> simp [h1] at hl
        · simp only [if_neg (show ¬ (qa = .u32 ∧ (Lit.int .u32 x).wf = true) from fun h => hqa ⟨h.1, by rw [h.1]; exact h.2⟩)] at hl
          simp at hl
      | _ => simp at hl
  · cases h
def AllMetK (D0 : DataW Unit) (ss : List (Int × Int)) : Prop := ∃ left, Met Tryz.prog 44 kv D0 left ss ∧ ∀ kl, left kl = false
set_option maxRecDepth 100000 in
set_option maxHeartbeats 1000000 in
theorem keys1_inK (F : Fence) (n : Nat) (h10 : F.fn 62) (hro : F.round = none) (hn : 1 ≤ n) (l Bm b nn : Nat) (D0 : DataW Unit) (J Jx : List (Int × Int) → World → Prop)
    (hY : ∀ pre x W, J pre W → pre.length < Maps.size D0 → YieldAt F (n - 1) Tryz.prog l #[kv x] W fun e W' => (e = .returned (.bool true) ∧ J (pre ++ [x]) W' ∧ KeepsWalks W W') ∨ (e = .returned (.bool false) ∧ Jx (pre ++ [x]) W'))
    (W : World) (hJ : AbidesFrom W.heap.size J) (hm : W.cell? ⟨Bm, 0, none⟩ = some (.map (some b))) (hown : W.ownsMap Tryz.prog 44 (plainElem (H := Unit) Tryz.prog 3) b nn D0) (h0 : J [] W) :
    CallsIn F n Tryz.prog 62 #[.func (.yield l) #[] #[], .pointer (some ⟨Bm, 0, none⟩)] W fun e W' => (∃ v, e = .returned v) ∧ ((∃ ss : List (Int × Int), AllMetK D0 ss ∧ J ss W') ∨ (∃ pre : List (Int × Int), True ∧ Jx pre W')) := by
  refine callsIn_of_wp Tryz.func62 rfl h10 ?_ hro
  simp only [Tryz.ntmps62, List.size_toArray, List.length_cons, List.length_nil, Nat.reduceAdd, Nat.reduceSub, Array.replicate_succ, Array.replicate_zero, List.push_toArray, List.append_toArray, List.nil_append, List.cons_append]
  gi_wp2_with (first
    | (gi_at_range; refine wpListIn_range_own _ rfl _ 74 rfl 44 3 keyedPK Tryz.underlying74 _ b nn _ rfl hown ?_; intro w0 hrg0 hg0 hs0)
    | gi_in)
  go_frame
  gi_loopw [3] (fun _ wr => ∃ (left : Lit → Bool) (cnt : Nat) (ss : List (Int × Int)), wr.ranges Tryz.prog 44 (plainElem (H := Unit) Tryz.prog 3) b W.heap.size nn D0 left cnt ∧ ss.length + cnt ≤ Maps.size D0 ∧ Met Tryz.prog 44 kv D0 left ss ∧ J ss wr)
    (fun _ wr => wr.rangeLeft b W.heap.size)
  case atStart =>
    exact ⟨_, _, [], hrg0, by simp, Met.start, hJ [] W w0 none h0 hg0 (fun r e => by cases e)⟩
  case round =>
    obtain ⟨left, cnt, ss, hrg, hcs, hC, hJs⟩ := hrel
    gi_wp2_with (first
      | (gi_at_next; refine wpListIn_next_ranges _ rfl _ rfl 44 keyedPK (plainElem (H := Unit) Tryz.prog 3) kv id (fun key kl hk => (key_kv hk).imp fun _ h => h.1) (fun v _ _ => ⟨v, rfl⟩) b W.heap.size nn _ _ _ rfl hrg ?_ ?_)
      | gi_in)
    · intro hc0 hl0
      gi_wp2
      go_end0
      exact ⟨⟨_, rfl⟩, .inl ⟨ss, ⟨_, hC, hl0⟩, hJs⟩⟩
    · intro x1 x2 c kl yd yp w2 cnt2 hkey hlk hv hat hrg2 hlt hg2 hs2 hen
      have hJ2 : J ss w2 := hJ ss wr w2 (some W.heap.size) hJs hg2 (fun r e => by cases e; exact ⟨Nat.le_refl _, hrg.iter_walk⟩)
      have hJ3 : J ss (w2.alloc (.cells #[.int .u32 x1, .int .u32 x2] 44)) := hJ ss w2 _ none hJ2 (World.grownBy_alloc _ _ _) (fun r e => by cases e)
      have hrg3 := hrg2.of_walks (KeepsWalks.alloc w2 (.cells #[.int .u32 x1, .int .u32 x2] 44))
      have hC3 := hC.step keyedPK kv_inj' hkey hlk hat
      obtain ⟨fn, tmps, assign, body, hy, hR⟩ := hY ss (x1, x2) _ hJ3 (by omega)
      have hyy : (Instr.yield l #[.agg #[.int .u32 x1, .int .u32 x2]]).run Tryz.prog (w2.alloc (.cells #[.int .u32 x1, .int .u32 x2] 44)) = _ := hy
      clear hs2 hy
      unfold kv at hen
      gi_wp2
      refine hR.mono ?_
      rintro e W3 (⟨rfl, hJ4, hk3⟩ | ⟨rfl, hJx3⟩)
      · gi_wp2
        have hrg4 := hrg3.of_walks hk3
        go_roundw
        case rel => exact ⟨_, cnt2, ss ++ [(x1, x2)], hrg4, by simp; omega, hC3, hJ4⟩
        case measure => rw [hrg4.left_eq, hrg.left_eq]; exact hlt
      · gi_wp2
        refine bodyPost_ret (results_none rfl _ _ _) rfl ?_
        exact ⟨⟨_, rfl⟩, .inr ⟨_, trivial, hJx3⟩⟩
set_option maxHeartbeats 1000000 in
theorem keys_inK (F : Fence) (n : Nat) (h7 : F.fn 34) (hro : F.round = none) (mb : Option Nat) (w : World) :
    CallsIn F n Tryz.prog 34 #[.map mb] w fun e w' => e = .returned (.func (.func 62) #[] #[.pointer (some ⟨w.heap.size, 0, none⟩)]) ∧ w' = w.alloc (.cells #[.map mb] 74) := by
  refine callsIn_of_wp Tryz.func34 rfl h7 ?_ hro
  simp only [Tryz.ntmps34, List.size_toArray, List.length_cons, List.length_nil, Nat.reduceAdd, Nat.reduceSub, Array.replicate_succ, Array.replicate_zero, List.push_toArray, List.append_toArray, List.nil_append, List.cons_append]
  gi_wp2
  go_ret
  exact ⟨rfl, rfl⟩
set_option maxRecDepth 100000 in
set_option maxHeartbeats 1000000 in
theorem keys1_nil_inK (F : Fence) (n : Nat) (h10 : F.fn 62) (hro : F.round = none) (l Bm : Nat) (J Jx : List (Int × Int) → World → Prop) (W : World) (hJ : AbidesFrom W.heap.size J)
    (hm : W.cell? ⟨Bm, 0, none⟩ = some (.map none)) (h0 : J [] W) :
    CallsIn F n Tryz.prog 62 #[.func (.yield l) #[] #[], .pointer (some ⟨Bm, 0, none⟩)] W fun e W' => (∃ v, e = .returned v) ∧ ((∃ ss : List (Int × Int), ss = [] ∧ J ss W') ∨ (∃ pre : List (Int × Int), True ∧ Jx pre W')) := by
  refine callsIn_of_wp Tryz.func62 rfl h10 ?_ hro
  simp only [Tryz.ntmps62, List.size_toArray, List.length_cons, List.length_nil, Nat.reduceAdd, Nat.reduceSub, Array.replicate_succ, Array.replicate_zero, List.push_toArray, List.append_toArray, List.nil_append, List.cons_append]
  have hrg := run_range_nilMap (P := Tryz.prog) W 74 44 3 Tryz.underlying74
  have hnx : ∀ ty, (Instr.next (.pointer (some ⟨W.heap.size, 0, none⟩)) false ty).run Tryz.prog (W.alloc (.mapIter none 0 #[] 0)) = _ := fun ty => run_next_nilMap _ ty 0 0 #[]
  gi_wp2
  refine wpIn_loop_rounds 1 ?_
  rw [roundsIn_succ]
  gi_wp2
  go_end0
  exact ⟨⟨_, rfl⟩, .inl ⟨[], rfl, hJ [] W _ none h0 (World.grownBy_alloc W _ none) (fun r e => by cases e)⟩⟩
/-- maps.Keys hands back an iterator over the map's keys -/
theorem keys_stopsK (F : Fence) (n : Nat) (h10 : F.fn 62) (hro : F.round = none) (hn : 1 ≤ n) (Bm b nn : Nat) (D0 : DataW Unit) (w : World) (hBm : Bm < w.heap.size)
    (hm : w.cell? ⟨Bm, 0, none⟩ = some (.map (some b))) (hown : w.ownsMap Tryz.prog 44 (plainElem (H := Unit) Tryz.prog 3) b nn D0) :
    SeqStopsK F n Tryz.prog 62 #[.pointer (some ⟨Bm, 0, none⟩)] (fun x : (Int × Int) => #[kv x]) KeepsWalks (AllMetK D0) (fun _ => True) (Maps.size D0) w := fun l J Jx W hW hJ _ hY h0 => by
  have hown' : W.ownsMap Tryz.prog 44 (plainElem (H := Unit) Tryz.prog 3) b nn D0 := by
    have hbl := hown.lt
    obtain ⟨es, clock, hb, Ft, hs, hD⟩ := hown
    exact ⟨es, clock, (hW.block b hbl).trans hb, Ft, hs, hD⟩
  exact keys1_inK F n h10 hro hn l Bm b nn D0 J Jx hY W hJ ((hW.cell (p := ⟨Bm, 0, none⟩) hBm).trans hm) hown' h0
theorem keys_stops_nilK (F : Fence) (n : Nat) (h10 : F.fn 62) (hro : F.round = none) (Bm : Nat) (w : World) (hBm : Bm < w.heap.size)
    (hm : w.cell? ⟨Bm, 0, none⟩ = some (.map none)) :
    SeqStopsK F n Tryz.prog 62 #[.pointer (some ⟨Bm, 0, none⟩)] (fun x : (Int × Int) => #[kv x]) KeepsWalks (fun ss => ss = []) (fun _ => True) 0 w := fun l J Jx W hW hJ _ _ h0 =>
  keys1_nil_inK F n h10 hro l Bm J Jx W hJ ((hW.cell (p := ⟨Bm, 0, none⟩) hBm).trans hm) h0
attribute [local go_sem] Oper.semAt_some
theorem info_pfK : (Tryz.prog.info? 44).map (fun i => (i.zero, i.size, i.bytes)) = some (some (.agg #[.int .u32 0, .int .u32 0]), 2, 8) := by kernel_rfl
/-- the cells of a row of prefixes -/
def PFK (l : List (Int × Int)) : List Value := (l.map fun p => [Value.int .u32 p.1, .int .u32 p.2]).flatten
theorem PF_appK (l m : List (Int × Int)) : PFK (l ++ m) = PFK l ++ PFK m := by simp [PFK]
theorem PF_lenK (l : List (Int × Int)) : (PFK l).length = l.length * 2 := by
  induction l with
  | nil => rfl
  | cons x r ih =>
    have : PFK (x :: r) = [Value.int .u32 x.1, .int .u32 x.2] ++ PFK r := rfl
    rw [this, List.length_append, ih]; simp; omega
theorem PF_oneK (l : List (Int × Int)) : ∀ u ∈ PFK l, u.oneCell' = true := by
  intro u hu
  unfold PFK at hu
  obtain ⟨m, hm, hu⟩ := List.mem_flatten.1 hu
  obtain ⟨p, _, rfl⟩ := List.mem_map.1 hm
  simp at hu
  rcases hu with rfl | rfl <;> rfl
def ApActK (w0 : World) (sv : Value) (B : Nat) (x : (Int × Int)) (a : Act) (W : World) : Prop :=
  ∃ Bx, w0.heap.size < Bx ∧ Blk W Bx 44 #[.int .u32 x.1, .int .u32 x.2] ∧
    a = { tmps := #[.slice none 0 0, sv, .pointer (some ⟨B, 0, none⟩), undef, .slice none 0 0, .pointer (some ⟨Bx, 0, none⟩), sv, .agg #[.int .u32 x.1, .int .u32 x.2], undef, undef, undef, undef, undef], defers := [] }
set_option maxRecDepth 100000 in
set_option maxHeartbeats 2000000 in
theorem appendSeq_inK (F : Fence) (n : Nat) (h11 : F.fn 113) (hro : F.round = none) (hn : 2 ≤ n) (g : Nat) (lb : Array Value) (hFg : F.fn g) (eg : ∀ args w, (callFunc g args).run Tryz.prog w = .ok (.enter g args) w)
    (S Sp : List (Int × Int) → Prop) (N : Nat) (hN : N ≤ 1000000) (w w0 : World) (hb0 : Below w0.heap.size w0 w) (hseq : SeqStopsK F (n - 1) Tryz.prog g lb (fun x : (Int × Int) => #[kv x]) KeepsWalks S Sp N w0) :
    CallsIn F n Tryz.prog 113 #[.slice none 0 0, .func (.func g) #[] lb] w fun e w' => ∃ (v : Value) (ss : List (Int × Int)), e = .returned v ∧ S ss ∧ w'.ownsRow w.heap.size 44 2 v ss.length (PFK ss) ∧ Below w.heap.size w w' := by
  have h1 : 1 ≤ n := by omega
  obtain ⟨i0, hi, hz0, hz1, hz2⟩ := info_parts info_pfK
  refine callsIn_of_wp_marks Tryz.func113 rfl h11 ?_ hro
  simp only [Tryz.ntmps113, List.size_toArray, List.length_cons, List.length_nil, Nat.reduceAdd, Nat.reduceSub, Array.replicate_succ, Array.replicate_zero, List.push_toArray, List.append_toArray, List.nil_append, List.cons_append]
  gi_wp2
  have bB := Boxed.new w 38 (.slice none 0 0)
  have hB1 : Below w.heap.size w (w.alloc (.cells #[.slice none 0 0] 38)) := (Below.refl _ w).alloc (Nat.le_refl _) _
  have hsz : (w.alloc (.cells #[.slice none 0 0] 38)).heap.size = w.heap.size + 1 := by simp
  have hb01 : Below w0.heap.size w0 (w.alloc (.cells #[.slice none 0 0] 38)) := hb0.trans (hB1.mono hb0.size)
  generalize w.alloc (.cells #[.slice none 0 0] 38) = W0 at bB hB1 hsz hb01 ⊢
  refine wpIn_rangeFunc_ownH hro h1 (gf := g) (lb := lb) rfl hFg eg hseq walksK_t walksK_b hb01 (fun _ => rfl)
    (fun pre W => (∃ v, Boxed W w.heap.size 38 v ∧ W.ownsRow w.heap.size 44 2 v pre.length (PFK pre) ∧ True) ∧ Below w.heap.size w W)
    (fun _ _ _ => False)
    (OwnFrom.and (Own.from (holdsRow_own w.heap.size w.heap.size 38 44 2 (fun pre : List (Int × Int) => pre.length) (fun pre => PFK pre) (fun _ _ => True)) _) (ownFrom_below (Nat.le_refl _) (by omega)))
    (fun _ _ _ _ _ h _ _ => h) ⟨⟨_, bB, World.ownsRow_nil _ _ _ _, trivial⟩, hB1⟩ (ApActK w (.func (.func g) #[] lb) w.heap.size) ?_ ?assign ?body ?done ?stop
  · rintro x a' u A B row ⟨Bx, h1x, h2x, h3x⟩ hg hr
    refine ⟨Bx, h1x, (hg.block Bx h2x.lt (fun e => ?_)).trans h2x, h3x⟩
    obtain ⟨_, o, ho, hc⟩ := hr Bx e.symm
    rw [show A.heap[Bx]? = _ from h2x] at ho
    cases ho; cases hc
  case assign =>
    rintro l pre ⟨x1, x2⟩ W K ⟨⟨v, hv, hr, _⟩, hB⟩ hK
    have hpv : kv (x1, x2) = .agg #[.int .u32 x1, .int .u32 x2] := rfl
    simp only [hpv]
    have hf : Hid (Blk (W.alloc (.cells #[.int .u32 x1, .int .u32 x2] 44)) W.heap.size 44 #[.int .u32 x1, .int .u32 x2]) := Lib.hid (Blk.new _ _ _)
    clear hpv
    gi_wp2
    refine hK _ _ ((KeepsOthers.alloc _ _).from _) (KeepsWalks.alloc _ _) ⟨⟨v, hv.alloc _, hr.alloc _, trivial⟩, hB.alloc hB.size _⟩ ⟨W.heap.size, by have := hv.lt; omega, hf.out, rfl⟩
  case body =>
    rintro l pre ⟨x1, x2⟩ a' W hl ⟨r, hr⟩ ⟨⟨v, hv, hrow, _⟩, hB⟩ ⟨Bx, hBx, bX, rfl⟩ hlt
    have c0 := hv.cell
    have d0 : W.cell? ⟨Bx, 0, none⟩ = some (.int .u32 x1) := by simpa using bX.cell 0
    have d1 : W.cell? ⟨Bx, 1, none⟩ = some (.int .u32 x2) := by simpa using bX.cell 1
    have e0 := hv.lt
    have e1 := bX.lt
    gi_wp2_with (first
      | (gi_at_builtin; refine wpListIn_append_own _ rfl _ _ 38 rfl w.heap.size 44 i0 _ 2 8 Tryz.underlying38 hi hz0 hz1 hz2 rfl (by decide) _ _ _ rfl (hrow.alloc _) ⟨W.heap.size, 0, none⟩ 1 1 (PFK [(x1, x2)]) rfl rfl (fun j u hj => by
          match j, hj with
          | 0, hj => simp [PFK] at hj; subst hj; go_simp
          | 1, hj => simp [PFK] at hj; subst hj; go_simp
          | j + 2, hj => simp [PFK] at hj) (PF_oneK _) (by unfold maxLen; omega) (by omega) (by have := hB.size; simp; omega) ?_; intro v' w1 hown' hgrow _; obtain ⟨g', cap', rfl⟩ := ownsRow_succ hown'; obtain ⟨hv1, hv2, hr2, hk2, hb2⟩ := hv.appended (by decide) hrow hB.size (Nat.le_refl _) hown' hgrow; have hc1 := hv1.cell; have hf1 := hv1.frozen)
      | gi_in)
    refine ⟨hk2.from _, hk2.walks, ⟨⟨_, hv2, ?_⟩, hB.trans hb2⟩⟩
    rw [PF_appK, List.length_append]
    exact hr2
  case done =>
    rintro D xs W hD hS ⟨⟨v, hv, hrow, _⟩, hB⟩ hK
    have c0 := hv.cell
    gi_wp2
    refine ⟨by simp, .inl ⟨_, _, rfl, run_takeDeferred hK, ?_⟩⟩
    exact ⟨_, results_tmp rfl _ _ _, v, xs, rfl, hS, ownsRow_putObj hrow _ hK rfl, hB.trans (belowK_b (w := w) (Nat.le_refl _) W D _ _ (by omega) hK rfl rfl)⟩
  case stop =>
    rintro D c pre W _ _ hF
    exact hF.elim
set_option maxHeartbeats 1000000 in
theorem collect_inK (F : Fence) (n : Nat) (h8 : F.fn 60) (h11 : F.fn 113) (hro : F.round = none) (hn : 3 ≤ n) (g : Nat) (lb : Array Value) (hFg : F.fn g) (eg : ∀ args w, (callFunc g args).run Tryz.prog w = .ok (.enter g args) w)
    (S Sp : List (Int × Int) → Prop) (N : Nat) (hN : N ≤ 1000000) (w w0 : World) (hb0 : Below w0.heap.size w0 w) (hseq : SeqStopsK F (n - 1 - 1) Tryz.prog g lb (fun x : (Int × Int) => #[kv x]) KeepsWalks S Sp N w0) :
    CallsIn F n Tryz.prog 60 #[.func (.func g) #[] lb] w fun e w' => ∃ (v : Value) (ss : List (Int × Int)), e = .returned v ∧ S ss ∧ w'.ownsRow w.heap.size 44 2 v ss.length (PFK ss) ∧ Below w.heap.size w w' := by
  have h1 : 1 ≤ n := by omega
  refine callsIn_of_wp Tryz.func60 rfl h8 ?_ hro
  simp only [Tryz.ntmps60, List.size_toArray, List.length_cons, List.length_nil, Nat.reduceAdd, Nat.reduceSub, Array.replicate_succ, Array.replicate_zero, List.push_toArray, List.append_toArray, List.nil_append, List.cons_append]
  gi_wp2_with (gi_at_call 113; refine (appendSeq_inK F (n - 1) h11 hro (by omega) g lb hFg eg S Sp N hN _ w0 hb0 hseq).mono ?_; rintro e w' ⟨v, ss, rfl, hS, hrow, hb⟩)
  go_ret
  exact ⟨v, ss, rfl, hS, hrow, hb⟩
end Go.Proofs.YtgicmgljllaliaaGreatDoor

