/- topo.groups over a network without sources and members: no groups; over the seat's program. topo.groups of any network: the groups that a source sends to, or a member listens to, rising, each once; over the seat's program. -/
import Derived.Test.YtdljpokhcfhhfaaGreatDoorCw
import Derived.Test.YtdljpokhcfhhfaaGreatDoorKa
import Derived.Test.YtdljpokhcfhhfaaGreatDoorShelf
import Derived.Test.YtdljpokhcfhhfaaGreatDoorSk
import Derived.Test.YtdljpokhcfhhfaaGreatDoorCl0
import Derived.OwnWalk
import Derived.Handy
import Derived.Carry
import Derived.Test.YtdljpokhcfhhfaaGreatDoorNw0
namespace Go.Proofs.YtdljpokhcfhhfaaGreatDoor
open Go.RowKit Lx
set_option maxHeartbeats 1000000 in
theorem sorted0_any (Bm b nn : Nat) (w : World) (hBm : Bm < w.heap.size) (hm : w.cell? ⟨Bm, 0, none⟩ = some (.map (some b))) (hown : w.ownsMap Tryz.prog 42 (plainElem (H := Unit) Tryz.prog 3) b nn (.map [])) :
    Calls Tryz.prog 106 #[.func (.func 185) #[] #[.pointer (some ⟨Bm, 0, none⟩)]] w fun e w' =>
      ∃ (A : Option Addr) (c : Nat), e = .returned (.slice A 0 c) ∧ w'.ownsRow w.heap.size 42 1 (.slice A 0 c) 0 [] ∧ Below w.heap.size w w' := by
  have hcol := callsIn_wide.1 (collect_inU Fence.wide 3 trivial trivial rfl (by omega) _ _ trivial eKeysU _ _ _ (by simp [Maps.size]) w w (Below.refl _ _) (keys_stopsU Fence.wide 1 trivial rfl (by omega) Bm b nn (.map []) w hBm hm hown))
  clear hown hm
  go_enter Tryz.func106, Tryz.ntmps106
  go_wp2_with fail
  refine hcol.mono ?_
  rintro e w1 ⟨v, ss, rfl, hS, hrow, hb⟩
  obtain rfl := allMet_nil hS
  have hv : ∃ (A : Option Addr) (c : Nat), v = .slice A 0 c := by
    rcases hrow.2 with ⟨rfl, _⟩ | ⟨g, cap, cur, rfl, _⟩
    · exact ⟨_, _, rfl⟩
    · exact ⟨_, _, rfl⟩
  obtain ⟨A, c, rfl⟩ := hv
  have HB := Lib.hid hb
  have HR := Lib.hid hrow
  clear hrow hS hb hcol
  go_wp2_with (go_at_call 119; refine (sort0_any A c _).mono ?_; rintro e w2 ⟨rfl, hb2⟩)
  go_ret
  exact ⟨A, c, rfl, ownk_next HR.out hb2, below_next HB.out hb2⟩
set_option maxHeartbeats 1000000 in
theorem groups0_any (M : Cm) (w : World) (hs : M.s.n = 0) (hm : M.m.n = 0) :
    Calls Tryz.prog 47 #[.agg #[.slice M.r.A M.r.n M.r.c, .slice M.l.A M.l.n M.l.c, .slice M.p.A M.p.n M.p.c, .slice M.o.A M.o.n M.o.c, .slice M.g.A M.g.n M.g.c, .slice M.s.A M.s.n M.s.c, .slice M.m.A M.m.n M.m.c]] w fun e w' => ∃ (A : Option Addr) (c : Nat), e = .returned (.slice A 0 c) ∧ w'.ownsRow w.heap.size 42 1 (.slice A 0 c) 0 [] ∧ Below w.heap.size w w' := by
  rw [hs, hm]
  have hmm := @run_makeMap Tryz.prog
  go_enter Tryz.func47, Tryz.ntmps47
  go_wp2
  generalize hW1 : (w.alloc (.cells #[.slice M.r.A M.r.n M.r.c, .slice M.l.A M.l.n M.l.c, .slice M.p.A M.p.n M.p.c, .slice M.o.A M.o.n M.o.c, .slice M.g.A M.g.n M.g.c, .slice M.s.A 0 M.s.c, .slice M.m.A 0 M.m.c] 30)).alloc (.map #[] 0) = W1
  have y6 : W1.cell? ⟨w.heap.size, 6, none⟩ = some (.slice M.m.A 0 M.m.c) := by rw [← hW1]; exact Blk.cell ((Blk.new _ _ _).alloc _) 6
  have hown : W1.ownsMap Tryz.prog 42 (plainElem (H := Unit) Tryz.prog 3) (w.heap.size + 1) 0 (.map []) := by
    have := World.ownsMap_made (w.alloc (.cells #[.slice M.r.A M.r.n M.r.c, .slice M.l.A M.l.n M.l.c, .slice M.p.A M.p.n M.p.c, .slice M.o.A M.o.n M.o.c, .slice M.g.A M.g.n M.g.c, .slice M.s.A 0 M.s.c, .slice M.m.A 0 M.m.c] 30)) Tryz.prog 42 (plainElem (H := Unit) Tryz.prog 3)
    rw [hW1] at this
    simpa using this
  have hb : Below w.heap.size w W1 := by
    rw [← hW1]
    exact ((Below.refl _ _).alloc (Nat.le_refl _) _).alloc (by simp) _
  have HO := Lib.hid hown
  have HB := Lib.hid hb
  clear hW1 hown hb
  go_loopw [12] (fun i wr => i = .int .i64 0 ∧ wr = W1) (fun _ _ => 0)
  case atStart => exact ⟨rfl, rfl⟩
  case round =>
    obtain ⟨rfl, rfl⟩ := hrel
    go_wp2
    go_loopw [26] (fun i wr' => i = .int .i64 0 ∧ wr' = wr) (fun _ _ => 0)
    case atStart => exact ⟨rfl, rfl⟩
    case round =>
      obtain ⟨rfl, rfl⟩ := hrel
      go_wp2_with (first
        | (go_at_call 107; refine (callsIn_wide.1 (keys_inU Fence.wide 1 trivial rfl (some (w.heap.size + 1)) _)).mono ?_; rintro e w1 ⟨rfl, hw1⟩)
        | (go_at_call 106; subst hw1; refine (sorted0_any wr.heap.size (w.heap.size + 1) 0 _ (by simp) (by go_simp) (HO.out.alloc _)).mono ?_; rintro e w2 ⟨A, c, rfl, hr2, hb2⟩))
      go_ret
      exact ⟨A, c, rfl, ownk_up hr2 (by have := HB.out.size; simp; omega), (HB.out.alloc HB.out.size _).trans (hb2.mono (by have := HB.out.size; simp; omega))⟩
end Go.Proofs.YtdljpokhcfhhfaaGreatDoor
namespace Go.Proofs.YtdljpokhcfhhfaaGreatDoor
open Go.RowKit Lx Sm Go.Maps Go.Sort Go.Shelf
/-- the groups that are named, in their order -/
def grpL (x : Cfg) : List Int := x.ss.map (·.2.2) ++ x.ms.map (·.g)
theorem grown_trans {w w1 w2 : World} {b : Nat} (h1 : w.grownBy w1 (some b)) (h2 : w1.grownBy w2 (some b)) : w.grownBy w2 (some b) :=
  ⟨h2.os.trans h1.os, h2.tape.trans h1.tape, h2.output.trans h1.output, Nat.le_trans h1.size h2.size, fun k hk hne => (h2.block k (Nat.lt_of_lt_of_le hk h1.size) hne).trans (h1.block k hk hne)⟩
set_option maxRecDepth 100000 in
set_option maxHeartbeats 4000000 in
theorem tgrp_any (M : Cm) (x : Cfg) (w : World) (h : CW w M x) (hn : (nubA (grpL x)).length ≤ 1000000) (hsm : M.s.n + M.m.n ≤ 1000000) :
    Calls Tryz.prog 47 #[.agg #[.slice M.r.A M.r.n M.r.c, .slice M.l.A M.l.n M.l.c, .slice M.p.A M.p.n M.p.c, .slice M.o.A M.o.n M.o.c, .slice M.g.A M.g.n M.g.c, .slice M.s.A M.s.n M.s.c, .slice M.m.A M.m.n M.m.c]] w fun e w' => ∃ (A : Option Addr) (c : Nat), e = .returned (.slice A (groupsL (grpL x)).length c) ∧ w'.ownsRow w.heap.size 42 1 (.slice A (groupsL (grpL x)).length c) (groupsL (grpL x)).length (A32 (groupsL (grpL x))) ∧ Below w.heap.size w w' := by
  have H := Lib.hid h
  have hsn := Lib.hid h.s.len
  have hmn := Lib.hid h.m.len
  have hs6 : M.s.n ≤ 1000000 := h.sok.2
  have hm6 : M.m.n ≤ 1000000 := h.mok.2
  have HU : Hid ((∀ a ∈ grpL x, U32 a) ∧ (nubA (grpL x)).length ≤ 1000000) := Lib.hid ⟨by
    intro a ha
    unfold grpL at ha
    rw [List.mem_append, List.mem_map, List.mem_map] at ha
    rcases ha with ⟨y, hy, rfl⟩ | ⟨y, hy, rfl⟩
    · exact (h.ok.2.2.2.2.1 y hy).2
    · exact h.ok.2.2.2.2.2 y hy, hn⟩
  have hmm := @run_makeMap Tryz.prog
  clear h hn
  go_enter Tryz.func47, Tryz.ntmps47
  go_upto_region 2 with fail
  have hbk := (Blk.new w 30 #[.slice M.r.A M.r.n M.r.c, .slice M.l.A M.l.n M.l.c, .slice M.p.A M.p.n M.p.c, .slice M.o.A M.o.n M.o.c, .slice M.g.A M.g.n M.g.c, .slice M.s.A M.s.n M.s.c, .slice M.m.A M.m.n M.m.c]).alloc (.map #[] 0)
  have hown : ((w.alloc (.cells #[.slice M.r.A M.r.n M.r.c, .slice M.l.A M.l.n M.l.c, .slice M.p.A M.p.n M.p.c, .slice M.o.A M.o.n M.o.c, .slice M.g.A M.g.n M.g.c, .slice M.s.A M.s.n M.s.c, .slice M.m.A M.m.n M.m.c] 30)).alloc (.map #[] 0)).ownsMap Tryz.prog 42 (plainElem (H := Unit) Tryz.prog 3) (w.heap.size + 1) 0 (.map []) := by
    have := World.ownsMap_made (w.alloc (.cells #[.slice M.r.A M.r.n M.r.c, .slice M.l.A M.l.n M.l.c, .slice M.p.A M.p.n M.p.c, .slice M.o.A M.o.n M.o.c, .slice M.g.A M.g.n M.g.c, .slice M.s.A M.s.n M.s.c, .slice M.m.A M.m.n M.m.c] 30)) Tryz.prog 42 (plainElem (H := Unit) Tryz.prog 3)
    simpa using this
  have HB1 := Lib.hid (((Below.refl w.heap.size w).alloc (Nat.le_refl _) (.cells #[.slice M.r.A M.r.n M.r.c, .slice M.l.A M.l.n M.l.c, .slice M.p.A M.p.n M.p.c, .slice M.o.A M.o.n M.o.c, .slice M.g.A M.g.n M.g.c, .slice M.s.A M.s.n M.s.c, .slice M.m.A M.m.n M.m.c] 30)).alloc (by simp) (.map #[] 0))
  clear hmm
  generalize (w.alloc (.cells #[.slice M.r.A M.r.n M.r.c, .slice M.l.A M.l.n M.l.c, .slice M.p.A M.p.n M.p.c, .slice M.o.A M.o.n M.o.c, .slice M.g.A M.g.n M.g.c, .slice M.s.A M.s.n M.s.c, .slice M.m.A M.m.n M.m.c] 30)).alloc (.map #[] 0) = W1 at *
  have HO := Lib.hid hown
  have z5 : W1.cell? ⟨w.heap.size, 5, none⟩ = some (.slice M.s.A M.s.n M.s.c) := hbk.cell 5
  have y6 : W1.cell? ⟨w.heap.size, 6, none⟩ = some (.slice M.m.A M.m.n M.m.c) := hbk.cell 6
  have hmbc : w.heap.size ≠ w.heap.size + 1 := by omega
  have hwm : w.heap.size ≤ w.heap.size + 1 := by omega
  generalize w.heap.size + 1 = mb at *
  have bwr : ∀ {wr : World}, W1.grownBy wr (some mb) → Below w.heap.size w wr := fun hg => HB1.out.grown hg HB1.out.size (by intro j hj; cases hj; exact hwm)
  clear hbk hown
  go_wp2_with fail
  go_loopw [12] (fun iv wr => ∃ (k : Nat) (D : DataW Unit) (L : List Int), k ≤ M.s.n ∧ iv = .int .i64 k ∧ Hid (L = (x.ss.take k).map (·.2.2)) ∧ Hid (CntOK D L ∧ wr.ownsMap Tryz.prog 42 (plainElem (H := Unit) Tryz.prog 3) mb L.length D ∧ W1.grownBy wr (some mb))) (fun iv _ => M.s.n - (intOf iv).toNat)
  case atStart => exact ⟨0, .map [], [], Nat.zero_le _, rfl, Lib.hid rfl, Lib.hid ⟨cnt_nil, HO.out, ⟨rfl, rfl, rfl, Nat.le_refl _, fun _ _ _ => rfl⟩⟩⟩
  case round =>
    obtain ⟨k, D, L, hk, rfl, HL0, HI⟩ := hrel
    have HBw := Lib.hid (bwr HI.out.2.2)
    rcases Nat.lt_or_ge k M.s.n with hlt | hge
    · obtain ⟨bq, oq, ⟨l1, s1, g1⟩, hA, hb, hx, hc0', hc1', hc2'⟩ := ISource.cells (IR.next H.out.s HBw.out) hlt
      have hi0 : (k : Int) < (M.s.n : Int) := by omega
      have hu : U32 g1 := (H.out.ok.2.2.2.2.1 _ (List.mem_of_getElem? hx)).2
      have HT : Hid (L ++ [g1] = (x.ss.take (k + 1)).map (·.2.2)) := Lib.hid (by rw [HL0.out, List.take_add_one, hx]; simp)
      have hLn : L.length ≤ 2000000 := by rw [HL0.out, List.length_map, List.length_take]; omega
      have hcl : L.count g1 ≤ L.length := List.count_le_length
      have hz : (zeroValue 3).run Tryz.prog (wr.alloc (.cells #[.int .i64 l1, .int .u32 s1, .int .u32 g1] 147)) = .ok (.int .i64 0) (wr.alloc (.cells #[.int .i64 l1, .int .u32 s1, .int .u32 g1] 147)) := by kernel_rfl
      obtain ⟨c, hrun, hat, hwc⟩ := (HI.out.2.1.alloc (.cells #[.int .i64 l1, .int .u32 s1, .int .u32 g1] 147)).lookup_int keyedU Tryz.underlying110 Tryz.underlying3 hz (keyOf_int_mk Tryz.underlying42 (wf_a hu))
      rw [(HI.out.1.2 g1 hu).2] at hat
      simp only [DataW.lit.injEq, Lit.int.injEq, true_and] at hat
      subst hat
      obtain ⟨W8, hrun8, hm8, hg8⟩ := (HI.out.2.1.alloc (.cells #[.int .i64 l1, .int .u32 s1, .int .u32 g1] 147)).update (val := .int .i64 (((L.count g1 : Nat) : Int) + 1)) keyedU Tryz.underlying110 (by unfold maxLen; omega) (keyOf_int_mk Tryz.underlying42 (wf_a hu)) (plainElem_int Tryz.underlying3 (by simp [Lit.wf, IntKind.min, IntKind.max, IntKind.signed, IntKind.bits]; omega))
      have HI8 : Hid (CntOK (D.put (.int .u32 g1) (.lit (.int .i64 (((L.count g1 : Nat) : Int) + 1)))) (L ++ [g1]) ∧ W8.ownsMap Tryz.prog 42 (plainElem (H := Unit) Tryz.prog 3) mb (L ++ [g1]).length (D.put (.int .u32 g1) (.lit (.int .i64 (((L.count g1 : Nat) : Int) + 1)))) ∧ W1.grownBy W8 (some mb)) :=
        Lib.hid ⟨cnt_put HI.out.1 g1, by simpa using hm8, (grown_trans (grown_trans HI.out.2.2 (World.grownBy_alloc wr _ _)) hg8)⟩
      rw [hA]
      generalize hcc : ((L.count g1 : Nat) : Int) = cc at *
      have hc0 : 0 ≤ cc := by omega
      have hc1 : cc ≤ 2000000 := by omega
      clear z5 hx hu hm8 hg8 hz hcl hcc
      go_wp2
      go_roundw
      case rel => exact ⟨k + 1, _, L ++ [g1], hlt, by go_num, HT, HI8⟩
      case measure => simp [intOf]; omega
    · obtain rfl : k = M.s.n := by omega
      have hd : decide ((M.s.n : Int) < (M.s.n : Int)) = false := by simp
      have z6 := grown_cell HI.out.2.2 y6 hmbc
      go_wp2_with fail
      go_loopw [26] (fun iv wr => ∃ (k : Nat) (D : DataW Unit) (L : List Int), k ≤ M.m.n ∧ iv = .int .i64 k ∧ Hid (L = x.ss.map (·.2.2) ++ (x.ms.take k).map (·.g)) ∧ Hid (CntOK D L ∧ wr.ownsMap Tryz.prog 42 (plainElem (H := Unit) Tryz.prog 3) mb L.length D ∧ W1.grownBy wr (some mb))) (fun iv _ => M.m.n - (intOf iv).toNat)
      case atStart => exact ⟨0, D, L, Nat.zero_le _, rfl, Lib.hid (by rw [HL0.out, ← hsn.out, List.take_length]; simp), HI⟩
      case round =>
        obtain ⟨k, D, L, hk, rfl, HL0, HI⟩ := hrel
        have HBw := Lib.hid (bwr HI.out.2.2)
        rcases Nat.lt_or_ge k M.m.n with hlt | hge
        · obtain ⟨bq, oq, ⟨l1, g1, o1, A1, n1, c1, ys1⟩, hA, hb, hx, hc0', hc1', hc2', hc3'⟩ := IMember.cells (IR.next H.out.m HBw.out) hlt
          have hi0 : (k : Int) < (M.m.n : Int) := by omega
          have hu : U32 g1 := H.out.ok.2.2.2.2.2 _ (List.mem_of_getElem? hx)
          have HT : Hid (L ++ [g1] = x.ss.map (·.2.2) ++ (x.ms.take (k + 1)).map (·.g)) := Lib.hid (by rw [HL0.out, List.take_add_one, hx]; simp)
          have hLn : L.length ≤ 2000000 := by rw [HL0.out, List.length_append, List.length_map, List.length_map, List.length_take, hsn.out]; omega
          have hcl : L.count g1 ≤ L.length := List.count_le_length
          have hz : (zeroValue 3).run Tryz.prog (wr.alloc (.cells #[.int .i64 l1, .int .u32 g1, .bool o1, .slice A1 n1 c1] 115)) = .ok (.int .i64 0) (wr.alloc (.cells #[.int .i64 l1, .int .u32 g1, .bool o1, .slice A1 n1 c1] 115)) := by kernel_rfl
          obtain ⟨c, hrun, hat, hwc⟩ := (HI.out.2.1.alloc (.cells #[.int .i64 l1, .int .u32 g1, .bool o1, .slice A1 n1 c1] 115)).lookup_int keyedU Tryz.underlying110 Tryz.underlying3 hz (keyOf_int_mk Tryz.underlying42 (wf_a hu))
          rw [(HI.out.1.2 g1 hu).2] at hat
          simp only [DataW.lit.injEq, Lit.int.injEq, true_and] at hat
          subst hat
          obtain ⟨W8, hrun8, hm8, hg8⟩ := (HI.out.2.1.alloc (.cells #[.int .i64 l1, .int .u32 g1, .bool o1, .slice A1 n1 c1] 115)).update (val := .int .i64 (((L.count g1 : Nat) : Int) + 1)) keyedU Tryz.underlying110 (by unfold maxLen; omega) (keyOf_int_mk Tryz.underlying42 (wf_a hu)) (plainElem_int Tryz.underlying3 (by simp [Lit.wf, IntKind.min, IntKind.max, IntKind.signed, IntKind.bits]; omega))
          have HI8 : Hid (CntOK (D.put (.int .u32 g1) (.lit (.int .i64 (((L.count g1 : Nat) : Int) + 1)))) (L ++ [g1]) ∧ W8.ownsMap Tryz.prog 42 (plainElem (H := Unit) Tryz.prog 3) mb (L ++ [g1]).length (D.put (.int .u32 g1) (.lit (.int .i64 (((L.count g1 : Nat) : Int) + 1)))) ∧ W1.grownBy W8 (some mb)) :=
            Lib.hid ⟨cnt_put HI.out.1 g1, by simpa using hm8, (grown_trans (grown_trans HI.out.2.2 (World.grownBy_alloc wr _ _)) hg8)⟩
          rw [hA]
          generalize hcc : ((L.count g1 : Nat) : Int) = cc at *
          have hc0 : 0 ≤ cc := by omega
          have hc1 : cc ≤ 2000000 := by omega
          clear z6 hx hu hm8 hg8 hz hcl hcc
          go_wp2
          go_roundw
          case rel => exact ⟨k + 1, _, L ++ [g1], hlt, by go_num, HT, HI8⟩
          case measure => simp [intOf]; omega
        · obtain rfl : k = M.m.n := by omega
          have hd : decide ((M.m.n : Int) < (M.m.n : Int)) = false := by simp
          have HLL : Hid (L = grpL x) := Lib.hid (by rw [HL0.out, ← hmn.out, List.take_length]; rfl)
          have HSR := Lib.hid fun W Bm hB hc hW => sorted_any Bm mb L.length D L W hB hc hW HI.out.1.has (by rw [HLL.out]; exact HU.out.1) (by rw [HLL.out]; exact HU.out.2) (by rw [HLL.out]; unfold grpL; rw [List.length_append, List.length_map, List.length_map, hsn.out, hmn.out]; omega)
          have HRES : Hid (groupsL L = groupsL (grpL x)) := Lib.hid (by rw [HLL.out])
          go_wp2_with (first
            | (go_at_call 107; refine (callsIn_wide.1 (keys_inU Fence.wide 1 trivial rfl (some mb) _)).mono ?_; rintro e w1 ⟨rfl, hw1⟩)
            | (go_at_call 106; subst hw1; refine (HSR.out _ wr.heap.size (by simp) (by go_simp) (HI.out.2.1.alloc _)).mono ?_; rintro e w2 ⟨A, c, rfl, hr2, hb2⟩))
          go_ret
          rw [← HRES.out]
          exact ⟨A, c, rfl, ownk_up hr2 (by have := HBw.out.size; simp; omega), (HBw.out.alloc HBw.out.size _).trans (hb2.mono (by have := HBw.out.size; simp; omega))⟩
end Go.Proofs.YtdljpokhcfhhfaaGreatDoor

