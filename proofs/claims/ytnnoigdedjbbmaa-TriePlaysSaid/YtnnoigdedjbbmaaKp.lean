/- maps.Keys over a map of prefixes: its iterator, whatever the loop does that runs over it. -/
import Derived.Test.YtnnoigdedjbbmaaKs
import Derived.Test.YtnnoigdedjbbmaaMp
import Derived.RangeFuncNested
import Derived.RangeFuncBound
import Derived.RangeFuncCalls
import Derived.RangeFuncLeaves
import Derived.RangeFuncGives
import Derived.Shelf.Abstract
import Derived.Shelf.AbstractIn
import Derived.Shelf.RegionOpen
import Derived.WalkKit
import Derived.OwnWalkIn
import Derived.TacticsInMore
import Derived.RegionIn
import Derived.LoopNIn
import Derived.LoopIn
import Derived.Maps.AppendAt
namespace Go.Proofs.Ytnnoigdedjbbmaa
open Go.RowKit Go.Maps Go.Sort Go.Shelf
open Go.WideElems (Fit)
/-- what reads as a key of prefixes is a prefix -/
theorem key_pv {v : Value} {kl : Lit} (h : keyOf Try.prog 27 v = some kl) : ∃ p : Tr.Pf, v = pv p := by
  unfold keyOf at h
  simp only [Try.underlying27, keyT, Bool.true_and] at h
  split at h
  · rename_i hf
    have hs : ∃ n, Try.prog.types.size + 1 = n + 2 := ⟨Try.prog.types.size - 1, by
      have : 1 ≤ Try.prog.types.size := of_decide_eq_true (by kernel_rfl)
      omega⟩
    obtain ⟨n, hn⟩ := hs
    rw [hn] at h
    cases v <;> simp [Value.formed, Try.underlying27, cellsP] at hf
    rename_i cs
    obtain ⟨cs⟩ := cs
    match cs, hf with
    | [a, b], _ =>
      simp only [Option.map_eq_some_iff] at h
      obtain ⟨ls, hl, _⟩ := h
      simp [Program.keyLits, Value.cells, Try.underlying27, Try.underlying25, Try.underlying3, cellsP, cellsA, cellsI] at hl
      cases a with
      | int qa x =>
        by_cases hqa : qa = .u32 ∧ (Lit.int qa x).wf = true
        · cases b with
          | int qb y =>
            by_cases hqb : qb = .i64 ∧ (Lit.int qb y).wf = true
            · exact ⟨(x, y), by rw [hqa.1, hqb.1]; rfl⟩
            · simp only [if_neg (show ¬ (qb = .i64 ∧ (Lit.int .i64 y).wf = true) from fun h => hqb ⟨h.1, by rw [h.1]; exact h.2⟩)] at hl
              cases h1 : (if qa = .u32 ∧ (Lit.int .u32 x).wf = true then some [Lit.int .u32 x] else none) <;> simp [h1] at hl
          | _ => cases h1 : (if qa = .u32 ∧ (Lit.int .u32 x).wf = true then some [Lit.int .u32 x] else none) <;> simp [h1] at hl
        · simp only [if_neg (show ¬ (qa = .u32 ∧ (Lit.int .u32 x).wf = true) from fun h => hqa ⟨h.1, by rw [h.1]; exact h.2⟩)] at hl
          simp at hl
      | _ => simp at hl
  · cases h
theorem pv_inj' (x y : Tr.Pf) (h : pv x = pv y) : x = y := pv_inj h
theorem keyedP : Keyed Try.prog 27 := Keyed.of_law lawP
def AllMet (D0 : DataW Unit) (ss : List Tr.Pf) : Prop := ∃ left, Met Try.prog 27 pv D0 left ss ∧ ∀ kl, left kl = false
set_option maxRecDepth 100000 in
set_option maxHeartbeats 1000000 in
theorem keys1_in (F : Fence) (n : Nat) (h10 : F.fn 29) (hro : F.round = none) (hn : 1 ≤ n) (l Bm b nn : Nat) (D0 : DataW Unit) (J Jx : List Tr.Pf → World → Prop)
    (hY : ∀ pre x W, J pre W → pre.length < Maps.size D0 → YieldAt F (n - 1) Try.prog l #[pv x] W fun e W' => (e = .returned (.bool true) ∧ J (pre ++ [x]) W' ∧ KeepsWalks W W') ∨ (e = .returned (.bool false) ∧ Jx (pre ++ [x]) W'))
    (W : World) (hJ : AbidesFrom W.heap.size J) (hm : W.cell? ⟨Bm, 0, none⟩ = some (.map (some b))) (hown : W.ownsMap Try.prog 27 R0 b nn D0) (h0 : J [] W) :
    CallsIn F n Try.prog 29 #[.func (.yield l) #[] #[], .pointer (some ⟨Bm, 0, none⟩)] W fun e W' => (∃ v, e = .returned v) ∧ ((∃ ss : List Tr.Pf, AllMet D0 ss ∧ J ss W') ∨ (∃ pre : List Tr.Pf, True ∧ Jx pre W')) := by
  refine callsIn_of_wp Try.func29 rfl h10 ?_ hro
  simp only [Try.ntmps29, List.size_toArray, List.length_cons, List.length_nil, Nat.reduceAdd, Nat.reduceSub, Array.replicate_succ, Array.replicate_zero, List.push_toArray, List.append_toArray, List.nil_append, List.cons_append]
  gi_wp2_with (first
    | (gi_at_range; refine wpListIn_range_own _ rfl _ 29 rfl 27 39 keyedP Try.underlying29 _ b nn _ rfl hown ?_; intro w0 hrg0 hg0 hs0)
    | gi_in)
  go_frame
  gi_loopw [3] (fun _ wr => ∃ (left : Lit → Bool) (cnt : Nat) (ss : List Tr.Pf), wr.ranges Try.prog 27 R0 b W.heap.size nn D0 left cnt ∧ ss.length + cnt ≤ Maps.size D0 ∧ Met Try.prog 27 pv D0 left ss ∧ J ss wr)
    (fun _ wr => wr.rangeLeft b W.heap.size)
  case atStart =>
    exact ⟨_, _, [], hrg0, by simp, Met.start, hJ [] W w0 none h0 hg0 (fun r e => by cases e)⟩
  case round =>
    obtain ⟨left, cnt, ss, hrg, hcs, hC, hJs⟩ := hrel
    gi_wp2_with (first
      | (gi_at_next; refine wpListIn_next_ranges _ rfl _ rfl 27 keyedP R0 pv id (fun key kl hk => key_pv hk) (fun v _ _ => ⟨v, rfl⟩) b W.heap.size nn _ _ _ rfl hrg ?_ ?_)
      | gi_in)
    · intro hc0 hl0
      gi_wp2
      go_end0
      exact ⟨⟨_, rfl⟩, .inl ⟨ss, ⟨_, hC, hl0⟩, hJs⟩⟩
    · intro x1 x2 c kl yd yp w2 cnt2 hkey hlk hv hat hrg2 hlt hg2 hs2 hen
      have hJ2 : J ss w2 := hJ ss wr w2 (some W.heap.size) hJs hg2 (fun r e => by cases e; exact ⟨Nat.le_refl _, hrg.iter_walk⟩)
      have hJ3 : J ss (w2.alloc (.cells #[.int .u32 x1, .int .i64 x2] 27)) := hJ ss w2 _ none hJ2 (World.grownBy_alloc _ _ _) (fun r e => by cases e)
      have hrg3 := hrg2.of_walks (KeepsWalks.alloc w2 (.cells #[.int .u32 x1, .int .i64 x2] 27))
      have hC3 := hC.step keyedP pv_inj' hkey hlk hat
      obtain ⟨fn, tmps, assign, body, hy, hR⟩ := hY ss (x1, x2) _ hJ3 (by omega)
      have hyy : (Instr.yield l #[.agg #[.int .u32 x1, .int .i64 x2]]).run Try.prog (w2.alloc (.cells #[.int .u32 x1, .int .i64 x2] 27)) = _ := hy
      clear hs2 hy
      unfold pv at hen
      gi_wp2
      refine hR.mono ?_
      rintro e W3 (⟨rfl, hJ4, hk3⟩ | ⟨rfl, hJx3⟩)
      · gi_wp2
        have hrg4 := hrg3.of_walks hk3
        go_roundw
        case rel => exact ⟨_, cnt2, ss ++ [(x1, x2)], hrg4, by simp; omega, hC3, hJ4⟩
        case measure => rw [hrg4.left_eq, hrg.left_eq]; exact hlt
      · gi_wp2
        refine bodyPost_ret (results_none rfl _ _ _) rfl ?_
        exact ⟨⟨_, rfl⟩, .inr ⟨_, trivial, hJx3⟩⟩
set_option maxHeartbeats 1000000 in
theorem keys_in (F : Fence) (n : Nat) (h7 : F.fn 24) (hro : F.round = none) (mb : Option Nat) (w : World) :
    CallsIn F n Try.prog 24 #[.map mb] w fun e w' => e = .returned (.func (.func 29) #[] #[.pointer (some ⟨w.heap.size, 0, none⟩)]) ∧ w' = w.alloc (.cells #[.map mb] 29) := by
  refine callsIn_of_wp Try.func24 rfl h7 ?_ hro
  simp only [Try.ntmps24, List.size_toArray, List.length_cons, List.length_nil, Nat.reduceAdd, Nat.reduceSub, Array.replicate_succ, Array.replicate_zero, List.push_toArray, List.append_toArray, List.nil_append, List.cons_append]
  gi_wp2
  go_ret
  exact ⟨rfl, rfl⟩
set_option maxRecDepth 100000 in
set_option maxHeartbeats 1000000 in
theorem keys1_nil_in (F : Fence) (n : Nat) (h10 : F.fn 29) (hro : F.round = none) (l Bm : Nat) (J Jx : List Tr.Pf → World → Prop) (W : World) (hJ : AbidesFrom W.heap.size J)
    (hm : W.cell? ⟨Bm, 0, none⟩ = some (.map none)) (h0 : J [] W) :
    CallsIn F n Try.prog 29 #[.func (.yield l) #[] #[], .pointer (some ⟨Bm, 0, none⟩)] W fun e W' => (∃ v, e = .returned v) ∧ ((∃ ss : List Tr.Pf, ss = [] ∧ J ss W') ∨ (∃ pre : List Tr.Pf, True ∧ Jx pre W')) := by
  refine callsIn_of_wp Try.func29 rfl h10 ?_ hro
  simp only [Try.ntmps29, List.size_toArray, List.length_cons, List.length_nil, Nat.reduceAdd, Nat.reduceSub, Array.replicate_succ, Array.replicate_zero, List.push_toArray, List.append_toArray, List.nil_append, List.cons_append]
  have hrg := run_range_nilMap (P := Try.prog) W 29 27 39 Try.underlying29
  have hnx : ∀ ty, (Instr.next (.pointer (some ⟨W.heap.size, 0, none⟩)) false ty).run Try.prog (W.alloc (.mapIter none 0 #[] 0)) = _ := fun ty => run_next_nilMap _ ty 0 0 #[]
  gi_wp2
  refine wpIn_loop_rounds 1 ?_
  rw [roundsIn_succ]
  gi_wp2
  go_end0
  exact ⟨⟨_, rfl⟩, .inl ⟨[], rfl, hJ [] W _ none h0 (World.grownBy_alloc W _ none) (fun r e => by cases e)⟩⟩
/-- maps.Keys hands back an iterator over the map's keys -/
theorem keys_stops (F : Fence) (n : Nat) (h10 : F.fn 29) (hro : F.round = none) (hn : 1 ≤ n) (Bm b nn : Nat) (D0 : DataW Unit) (w : World) (hBm : Bm < w.heap.size)
    (hm : w.cell? ⟨Bm, 0, none⟩ = some (.map (some b))) (hown : w.ownsMap Try.prog 27 R0 b nn D0) :
    SeqStopsK F n Try.prog 29 #[.pointer (some ⟨Bm, 0, none⟩)] (fun x : Tr.Pf => #[pv x]) KeepsWalks (AllMet D0) (fun _ => True) (Maps.size D0) w := fun l J Jx W hW hJ _ hY h0 => by
  have hown' : W.ownsMap Try.prog 27 R0 b nn D0 := by
    have hbl := hown.lt
    obtain ⟨es, clock, hb, Ft, hs, hD⟩ := hown
    exact ⟨es, clock, (hW.block b hbl).trans hb, Ft, hs, hD⟩
  exact keys1_in F n h10 hro hn l Bm b nn D0 J Jx hY W hJ ((hW.cell (p := ⟨Bm, 0, none⟩) hBm).trans hm) hown' h0
theorem keys_stops_nil (F : Fence) (n : Nat) (h10 : F.fn 29) (hro : F.round = none) (Bm : Nat) (w : World) (hBm : Bm < w.heap.size)
    (hm : w.cell? ⟨Bm, 0, none⟩ = some (.map none)) :
    SeqStopsK F n Try.prog 29 #[.pointer (some ⟨Bm, 0, none⟩)] (fun x : Tr.Pf => #[pv x]) KeepsWalks (fun ss => ss = []) (fun _ => True) 0 w := fun l J Jx W hW hJ _ _ h0 =>
  keys1_nil_in F n h10 hro l Bm J Jx W hJ ((hW.cell (p := ⟨Bm, 0, none⟩) hBm).trans hm) h0
end Go.Proofs.Ytnnoigdedjbbmaa

