/- Who is asked is another router, on the link by which its packets come in; at its own address a router asks nobody; walked. -/
import Derived.Test.YtojahaphkjdenaaGreatDoorRu
import Derived.Test.YtojahaphkjdenaaGreatDoorUn
import Derived.Test.YtojahaphkjdenaaGreatDoorEt
import Derived.Deep.RegionHeld3
import Derived.Deep.Cut
namespace Go.Proofs.YtojahaphkjdenaaGreatDoor
open Go.RowKit Lx Sm Go.Maps
set_option maxHeartbeats 8000000 in
set_option maxRecDepth 100000 in
theorem law_up (ads : List Addr) (M : Cm) (x : Cfg) (r a : Int) (w : World) (hE : EnvC ads w) (hL : LW w M x) (hu : U32 a) :
    Calls Tryz.prog 6 #[.agg #[.slice M.r.A M.r.n M.r.c, .slice M.l.A M.l.n M.l.c, .slice M.p.A M.p.n M.p.c, .slice M.o.A M.o.n M.o.c, .slice M.g.A M.g.n M.g.c, .slice M.s.A M.s.n M.s.c, .slice M.m.A M.m.n M.m.c], .int .i64 r, .int .u32 a] w fun e w' => e = .returned (.bool true) ∧ Below w.heap.size w w' := by
  have HB0 := Lib.hid ((Below.refl w.heap.size w).alloc (Nat.le_refl _) (.cells #[.slice M.r.A M.r.n M.r.c, .slice M.l.A M.l.n M.l.c, .slice M.p.A M.p.n M.p.c, .slice M.o.A M.o.n M.o.c, .slice M.g.A M.g.n M.g.c, .slice M.s.A M.s.n M.s.c, .slice M.m.A M.m.n M.m.c] 30))
  have HK0 : Hid (Blk (w.alloc (.cells #[.slice M.r.A M.r.n M.r.c, .slice M.l.A M.l.n M.l.c, .slice M.p.A M.p.n M.p.c, .slice M.o.A M.o.n M.o.c, .slice M.g.A M.g.n M.g.c, .slice M.s.A M.s.n M.s.c, .slice M.m.A M.m.n M.m.c] 30)) w.heap.size 30 #[.slice M.r.A M.r.n M.r.c, .slice M.l.A M.l.n M.l.c, .slice M.p.A M.p.n M.p.c, .slice M.o.A M.o.n M.o.c, .slice M.g.A M.g.n M.g.c, .slice M.s.A M.s.n M.s.c, .slice M.m.A M.m.n M.m.c]) := Lib.hid (Blk.new _ _ _)
  have HF := Lib.hid (first11_any ads _ (hE.below HB0.out))
  have HE := Lib.hid hE
  have HL := Lib.hid hL
  clear hE hL
  go_enter Tryz.func6, Tryz.ntmps6
  go_upto_region 1 with fail
  generalize w.alloc (.cells #[.slice M.r.A M.r.n M.r.c, .slice M.l.A M.l.n M.l.c, .slice M.p.A M.p.n M.p.c, .slice M.o.A M.o.n M.o.c, .slice M.g.A M.g.n M.g.c, .slice M.s.A M.s.n M.s.c, .slice M.m.A M.m.n M.m.c] 30) = W0 at *
  go_wp2_with fail
  refine HF.out.mono ?_
  rintro e w1 ⟨rfl, hb1⟩
  have HB1 := Lib.hid (below_next HB0.out hb1)
  have HK1 := Lib.hid (HK0.out.next hb1)
  have y0 : w1.cell? ⟨w.heap.size, 0, none⟩ = some (.slice M.r.A M.r.n M.r.c) := HK1.out.cell 0
  have y1 : w1.cell? ⟨w.heap.size, 1, none⟩ = some (.slice M.l.A M.l.n M.l.c) := HK1.out.cell 1
  have y2 : w1.cell? ⟨w.heap.size, 2, none⟩ = some (.slice M.p.A M.p.n M.p.c) := HK1.out.cell 2
  have y3 : w1.cell? ⟨w.heap.size, 3, none⟩ = some (.slice M.o.A M.o.n M.o.c) := HK1.out.cell 3
  have y4 : w1.cell? ⟨w.heap.size, 4, none⟩ = some (.slice M.g.A M.g.n M.g.c) := HK1.out.cell 4
  have y5 : w1.cell? ⟨w.heap.size, 5, none⟩ = some (.slice M.s.A M.s.n M.s.c) := HK1.out.cell 5
  have y6 : w1.cell? ⟨w.heap.size, 6, none⟩ = some (.slice M.m.A M.m.n M.m.c) := HK1.out.cell 6
  have HG := Lib.hid (light_any M x 8 w1 (HL.out.next HB1.out) (by omega))
  clear hb1 HF
  go_wp2_with fail
  refine HG.out.mono ?_
  rintro e w2 ⟨rfl, hb2⟩
  have HB2 := Lib.hid (below_next HB1.out hb2)
  have HK2 := Lib.hid (HK1.out.next hb2)
  clear y0 y1 y2 y3 y4 y5 y6 HG hb2
  cases hlp : lightP x 8 with
  | false =>
    go_wp2
    go_ret
    exact ⟨rfl, HB2.out⟩
  | true =>
    have HOK := Lib.hid (lt_ok hlp (by omega))
    have HRL := Lib.hid (lt_rl hlp)
    have HC2 := Lib.hid ((HL.out.next HB2.out).cw HOK.out)
    have HN := Lib.hid (new_light ads M x w2 (HE.out.below HB2.out) HC2.out HOK.out)
    have y0 : w2.cell? ⟨w.heap.size, 0, none⟩ = some (.slice M.r.A M.r.n M.r.c) := HK2.out.cell 0
    have y1 : w2.cell? ⟨w.heap.size, 1, none⟩ = some (.slice M.l.A M.l.n M.l.c) := HK2.out.cell 1
    have y2 : w2.cell? ⟨w.heap.size, 2, none⟩ = some (.slice M.p.A M.p.n M.p.c) := HK2.out.cell 2
    have y3 : w2.cell? ⟨w.heap.size, 3, none⟩ = some (.slice M.o.A M.o.n M.o.c) := HK2.out.cell 3
    have y4 : w2.cell? ⟨w.heap.size, 4, none⟩ = some (.slice M.g.A M.g.n M.g.c) := HK2.out.cell 4
    have y5 : w2.cell? ⟨w.heap.size, 5, none⟩ = some (.slice M.s.A M.s.n M.s.c) := HK2.out.cell 5
    have y6 : w2.cell? ⟨w.heap.size, 6, none⟩ = some (.slice M.m.A M.m.n M.m.c) := HK2.out.cell 6
    clear hlp HL HB1 HK1 HB0 HK0
    by_cases hr : r < 0 ∨ (M.r.n : Int) ≤ r
    · cases e1 : decide (r < 0) with
      | true => go_wp2; go_ret; exact ⟨rfl, HB2.out⟩
      | false =>
        have e2 : decide ((M.r.n : Int) ≤ r) = true := by simp only [decide_eq_false_iff_not, decide_eq_true_eq] at e1 ⊢; omega
        go_wp2; go_ret; exact ⟨rfl, HB2.out⟩
    obtain ⟨q, rfl⟩ : ∃ q : Nat, r = (q : Int) := ⟨r.toNat, by omega⟩
    have hqn : q < M.r.n := by omega
    have e1 : decide ((q : Int) < 0) = false := by simp
    have e2 : decide ((M.r.n : Int) ≤ (q : Int)) = false := by simp; omega
    clear hr
    go_wp2_with fail
    refine HN.out.mono ?_
    rintro e w4 ⟨T, x', rfl, hT, hal, hb4⟩
    have HT := Lib.hid hT
    have HAL := Lib.hid hal
    have HB4 := Lib.hid (below_next HB2.out hb4)
    have HK4 := Lib.hid (HK2.out.next hb4)
    have HC4 := Lib.hid (HC2.out.next hb4)
    clear y0 y1 y2 y3 y4 y5 y6 HN hT hal hb4 HC2 HK2
    have qr : M.r.n ≤ 16 := by have := HC4.out.r.len; have := HOK.out.rl; omega
    have ql : M.l.n ≤ 12 := by have := HC4.out.l.len; have := HOK.out.ll; omega
    have qp : M.p.n ≤ 24 := by have := HC4.out.p.len; have := HOK.out.pl; omega
    have qo : M.o.n ≤ 30 := by have := HC4.out.o.len; have := HOK.out.ol; omega
    have qg : M.g.n ≤ 4 := by have := HC4.out.g.len; have := HOK.out.gl; omega
    have qs : M.s.n ≤ 5 := by have := HC4.out.s.len; have := HOK.out.sl; omega
    have qm : M.m.n ≤ 10 := by have := HC4.out.m.len; have := HOK.out.ml; omega
    clear e1 e2
    have HM := Lib.hid (of_al (q : Int) w4 HT.out HAL.out)
    have HTO := Lib.hid (fun W (hW : Below w4.heap.size w4 W) a (ha : U32 a) => to_al (q : Int) a ha W (HT.out.next hW) HAL.out HOK.out)
    have HOTH := Lib.hid (fun W (hW : Below w4.heap.size w4 W) p lN r1 a1 hp hl => others_al (x := x) p lN r1 a1 hp hl W (HT.out.next hW) HAL.out)
    have HU : Hid (∀ y ∈ x.ps, U32 y.2.2) := Lib.hid (fun y hy => HC4.out.ok.2.1 y hy)
    have hrl := HC4.out.r.len
    have hpl := HC4.out.p.len
    have hps : x.ps.length ≤ 24 := HOK.out.pl
    have hrn : (rowF x (q : Int)).length ≤ 24 := Nat.le_trans (rowF_le x _) hps
    have HRW : Hid (rowF x (q : Int) = picks (fun y => y.1 == (q : Int)) x.ps x.ps.length) := Lib.hid (rowF_at (by omega) (by omega))
    have HCS := Lib.hid (toA_cases HOK.out (q : Int) a)
    go_wp2_with (go_at_call 24; refine HM.out.mono ?_; rintro e w5 ⟨A5, c5, rfl, hj, hb5⟩; have HJ5 := Lib.hid hj; have HB5 := Lib.hid hb5; clear hj hb5)
    generalize hR : rowF x (q : Int) = R at *
    have HRR := Lib.hid hR
    clear hR
    have HW5 := Lib.hid (HB4.out.trans (HB5.out.mono HB4.out.size))
    clear HM
    go_loopw [11] (fun iv wr => ∃ (k : Nat), k ≤ R.length ∧ iv = .int .i64 k ∧ Hid (Below w5.heap.size w5 wr)) (fun iv _ => R.length - (intOf iv).toNat)
    case atStart => exact ⟨0, Nat.zero_le _, rfl, Lib.hid (Below.refl _ _)⟩
    case round =>
      obtain ⟨k, hk, rfl, HB⟩ := hrel
      have HBw := Lib.hid (HB5.out.trans (HB.out.mono HB5.out.size))
      rcases Nat.lt_or_ge k R.length with hlt | hge
      · have hi0 : (k : Int) < (R.length : Int) := by omega
        have hm : R.getD k 0 ∈ picks (fun y => y.1 == (q : Int)) x.ps x.ps.length := by
          rw [← HRW.out, List.getD_eq_getElem?_getD, List.getElem?_eq_getElem hlt]
          exact List.getElem_mem hlt
        obtain ⟨p, hp, hqe, ⟨r1, l1, a1⟩, hx, hy⟩ := picks_mem hm
        obtain rfl : r1 = (q : Int) := by simpa using hy
        have HTA : Hid (toA x (q : Int) a1 = ((-1, -1, 0, true), true)) := Lib.hid (toA_own HOK.out hx)
        have ha1 : U32 a1 := HU.out _ (List.mem_of_getElem? hx)
        obtain ⟨bj, oj, rfl, hbj, hcj⟩ := ((HJ5.out.next HB.out).at_ hlt)
        obtain ⟨bp, op, ⟨r2, l2, a2⟩, hA, hbp, hx2, c0, c1, c2⟩ := IPort.cells (IR.next HC4.out.p HBw.out) (i := p) (by omega)
        rw [hx] at hx2
        cases hx2
        have y2 : wr.cell? ⟨w.heap.size, 2, none⟩ = some (.slice M.p.A M.p.n M.p.c) := (HK4.out.next HBw.out).cell 2
        rw [hA] at y2
        rw [hqe] at hcj
        have hpn : (p : Int) < (M.p.n : Int) := by omega
        have CJ := Lib.hid (fun W (hW : Below wr.heap.size wr W) => (hW.cell (p := ⟨bj, oj + k, none⟩) hbj).trans hcj)
        have CP := Lib.hid (fun W (hW : Below wr.heap.size wr W) => (hW.cell (p := ⟨bp, op + p * 3 + 2, none⟩) hbp).trans c2)
        have CY := Lib.hid (fun W (hW : Below wr.heap.size wr W) => (show W.cell? ⟨w.heap.size, 2, none⟩ = some (.slice (some ⟨bp, op, none⟩) M.p.n M.p.c) by rw [← hA]; exact ((HK4.out.next HBw.out).next hW).cell 2))
        have HT1 := Lib.hid (fun W (hW : Below wr.heap.size wr W) => HTO.out W (HBw.out.trans (hW.mono HBw.out.size)) a1 ha1)
        rw [HTA.out] at HT1
        clear hm hx hy hqe hbj hcj hbp c0 c1 c2 hA y2 HTA ha1
        go_wp2_with fail
        refine wp_region_held_drew (S := fun _ => True) (by kernel_rfl) trivial (fun _ => ?_)
        refine wpAnyH_each (md := .any) (m := 0) (rem := [0, 1, 2, 3, 4, 5, 6, 7, 8, 9, 10, 11, 12, 13, 14, 15, 16, 17]) (tail := []) (deps := fun i => match i with | 3 => [2] | 6 => [4, 5] | 7 => [6] | 8 => [3, 7] | 9 => [8] | 10 => [9] | 11 => [0, 1, 10] | 12 => [11] | 13 => [12] | 14 => [12] | 16 => [13, 15] | 17 => [14] | _ => []) (fun _ W => Below wr.heap.size wr W) (Ks wr.heap.size 16 74 4)
          (fun ix ds v W => match ix with | 0 => v = .pointer (some ⟨T.N, 0, none⟩) | 1 => v = .int .i64 (q : Int) | 2 => v = .pointer (some ⟨w.heap.size, 2, none⟩) | 3 => v = .slice (some ⟨bp, op, none⟩) M.p.n M.p.c | 4 => v = .slice (some ⟨bj, oj, none⟩) R.length c5 | 5 => v = .int .i64 ((k : Nat) : Int) | 6 => v = .pointer (some ⟨bj, oj + k, none⟩) | 7 => v = .int .i64 ((p : Nat) : Int) | 8 => v = .pointer (some ⟨bp, op + p * 3, none⟩) | 9 => v = .pointer (some ⟨bp, op + p * 3 + 2, none⟩) | 10 => v = .int .u32 a1 | 11 => v = .tuple #[.agg #[.int .i64 (-1), .int .i64 (-1), .int .i64 0, .bool true], .bool true] | 12 => v = .tuple #[.agg #[.int .i64 (-1), .int .i64 (-1), .int .i64 0, .bool true], .bool true] | 13 => v = .agg #[.int .i64 (-1), .int .i64 (-1), .int .i64 0, .bool true] | 14 => v = .bool true | 15 => ∃ g, v = .pointer (some ⟨g, 0, none⟩) ∧ wr.heap.size ≤ g ∧ Slot W g 74 4 | 16 => ∃ g, ds.getD 1 undef = .pointer (some ⟨g, 0, none⟩) ∧ Blk W g 74 #[.int .i64 (-1), .int .i64 (-1), .int .i64 0, .bool true] | 17 => v = .bool true | _ => True) (eachB_spec (by kernel_rfl)) (fun _ _ _ _ _ _ _ h k => Ks.below h k) (fun _ _ _ => trivial) ?_ (fun _ _ _ _ => True) (fun _ _ _ _ _ _ _ _ _ _ _ _ _ _ => ⟨trivial, trivial⟩) ?_ ?_ (Below.refl _ _).drew
        · intro i hi j _ hij hjd ds v u l W W' _ _ hk h
          simp only [List.mem_cons, List.not_mem_nil, or_false] at hi
          rcases hi with rfl | rfl | rfl | rfl | rfl | rfl | rfl | rfl | rfl | rfl | rfl | rfl | rfl | rfl | rfl | rfl | rfl | rfl
          · exact h
          · exact h
          · exact h
          · exact h
          · exact h
          · exact h
          · exact h
          · exact h
          · exact h
          · exact h
          · exact h
          · exact h
          · exact h
          · exact h
          · exact h
          · obtain ⟨g, e, h1, h2⟩ := h; exact ⟨g, e, h1, Ks.slot hk h2⟩
          · obtain ⟨g, e, h1⟩ := h; exact ⟨g, e, h1.next (Ks.ne hk (Ne.symm hij))⟩
          · exact h
        · refine AllO.cons [] rfl rfl (fun vs l W hl hT hd => ?_) ?_
          · dsimp only [lay, List.foldl, List.map, dstOf]
            go_wp2
            exact ⟨rfl, _, rfl, Ks.mk (by decide) (Below.refl _ _), rfl⟩
          refine AllO.cons [] rfl rfl (fun vs l W hl hT hd => ?_) ?_
          · dsimp only [lay, List.foldl, List.map, dstOf]
            go_wp2
            exact ⟨rfl, _, rfl, Ks.mk (by decide) (Below.refl _ _), rfl⟩
          refine AllO.cons [] rfl rfl (fun vs l W hl hT hd => ?_) ?_
          · dsimp only [lay, List.foldl, List.map, dstOf]
            go_wp2
            exact ⟨rfl, _, rfl, Ks.mk (by decide) (Below.refl _ _), rfl⟩
          refine AllO.cons [2] rfl rfl (fun vs l W hl hT hd => ?_) ?_
          · have e2 : vs 2 = .pointer (some ⟨w.heap.size, 2, none⟩) := hd 2 (by simp)
            have f1 := CY.out W hT
            dsimp only [lay, List.foldl, List.map, dstOf]
            rw [e2]
            go_wp2
            exact ⟨rfl, _, rfl, Ks.mk (by decide) (Below.refl _ _), rfl⟩
          refine AllO.cons [] rfl rfl (fun vs l W hl hT hd => ?_) ?_
          · dsimp only [lay, List.foldl, List.map, dstOf]
            go_wp2
            exact ⟨rfl, _, rfl, Ks.mk (by decide) (Below.refl _ _), rfl⟩
          refine AllO.cons [] rfl rfl (fun vs l W hl hT hd => ?_) ?_
          · dsimp only [lay, List.foldl, List.map, dstOf]
            go_wp2
            exact ⟨rfl, _, rfl, Ks.mk (by decide) (Below.refl _ _), rfl⟩
          refine AllO.cons [4, 5] rfl rfl (fun vs l W hl hT hd => ?_) ?_
          · have e4 : vs 4 = .slice (some ⟨bj, oj, none⟩) R.length c5 := hd 4 (by simp)
            have e5 : vs 5 = .int .i64 ((k : Nat) : Int) := hd 5 (by simp)
            dsimp only [lay, List.foldl, List.map, dstOf]
            rw [e4, e5]
            go_wp2
            exact ⟨rfl, _, rfl, Ks.mk (by decide) (Below.refl _ _), rfl⟩
          refine AllO.cons [6] rfl rfl (fun vs l W hl hT hd => ?_) ?_
          · have e6 : vs 6 = .pointer (some ⟨bj, oj + k, none⟩) := hd 6 (by simp)
            have f1 := CJ.out W hT
            dsimp only [lay, List.foldl, List.map, dstOf]
            rw [e6]
            go_wp2
            exact ⟨rfl, _, rfl, Ks.mk (by decide) (Below.refl _ _), rfl⟩
          refine AllO.cons [3, 7] rfl rfl (fun vs l W hl hT hd => ?_) ?_
          · have e3 : vs 3 = .slice (some ⟨bp, op, none⟩) M.p.n M.p.c := hd 3 (by simp)
            have e7 : vs 7 = .int .i64 ((p : Nat) : Int) := hd 7 (by simp)
            dsimp only [lay, List.foldl, List.map, dstOf]
            rw [e3, e7]
            go_wp2
            exact ⟨rfl, _, rfl, Ks.mk (by decide) (Below.refl _ _), rfl⟩
          refine AllO.cons [8] rfl rfl (fun vs l W hl hT hd => ?_) ?_
          · have e8 : vs 8 = .pointer (some ⟨bp, op + p * 3, none⟩) := hd 8 (by simp)
            dsimp only [lay, List.foldl, List.map, dstOf]
            rw [e8]
            go_wp2
            exact ⟨rfl, _, rfl, Ks.mk (by decide) (Below.refl _ _), rfl⟩
          refine AllO.cons [9] rfl rfl (fun vs l W hl hT hd => ?_) ?_
          · have e9 : vs 9 = .pointer (some ⟨bp, op + p * 3 + 2, none⟩) := hd 9 (by simp)
            have f1 := CP.out W hT
            dsimp only [lay, List.foldl, List.map, dstOf]
            rw [e9]
            go_wp2
            exact ⟨rfl, _, rfl, Ks.mk (by decide) (Below.refl _ _), rfl⟩
          refine AllO.cons [0, 1, 10] rfl rfl (fun vs l W hl hT hd => ?_) ?_
          · have e0 : vs 0 = .pointer (some ⟨T.N, 0, none⟩) := hd 0 (by simp)
            have e1 : vs 1 = .int .i64 (q : Int) := hd 1 (by simp)
            have e10 : vs 10 = .int .u32 a1 := hd 10 (by simp)
            have hC := Lib.hid (HT1.out W hT)
            dsimp only [lay, List.foldl, List.map, dstOf]
            rw [e0, e1, e10]
            go_wp2_with (go_at_call 43; refine hC.out.mono ?_; rintro e w1 ⟨rfl, hb1⟩)
            exact ⟨rfl, _, (by first | rfl | (simp [Act.put]; omega)), Ks.mk (by decide) hb1, rfl⟩
          refine AllO.cons [11] rfl rfl (fun vs l W hl hT hd => ?_) ?_
          · have e11 : vs 11 = .tuple #[.agg #[.int .i64 (-1), .int .i64 (-1), .int .i64 0, .bool true], .bool true] := hd 11 (by simp)
            dsimp only [lay, List.foldl, List.map, dstOf]
            rw [e11]
            go_wp2
            exact ⟨rfl, _, rfl, Ks.mk (by decide) (Below.refl _ _), rfl⟩
          refine AllO.cons [12] rfl rfl (fun vs l W hl hT hd => ?_) ?_
          · have e12 : vs 12 = .tuple #[.agg #[.int .i64 (-1), .int .i64 (-1), .int .i64 0, .bool true], .bool true] := hd 12 (by simp)
            dsimp only [lay, List.foldl, List.map, dstOf]
            rw [e12]
            go_wp2
            exact ⟨rfl, _, rfl, Ks.mk (by decide) (Below.refl _ _), rfl⟩
          refine AllO.cons [12] rfl rfl (fun vs l W hl hT hd => ?_) ?_
          · have e12 : vs 12 = .tuple #[.agg #[.int .i64 (-1), .int .i64 (-1), .int .i64 0, .bool true], .bool true] := hd 12 (by simp)
            dsimp only [lay, List.foldl, List.map, dstOf]
            rw [e12]
            go_wp2
            exact ⟨rfl, _, rfl, Ks.mk (by decide) (Below.refl _ _), rfl⟩
          refine AllO.cons [] rfl rfl (fun vs l W hl hT hd => ?_) ?_
          · dsimp only [lay, List.foldl, List.map, dstOf]
            go_wp2
            exact ⟨rfl, _, rfl, Ks.mk (by decide) ((Below.refl _ _).alloc (Nat.le_refl _) _), _, rfl, hT.size, (Blk.new _ _ _).slot⟩
          refine AllO.cons [13, 15] rfl rfl (fun vs l W hl hT hd => ?_) ?_
          · have e13 : vs 13 = .agg #[.int .i64 (-1), .int .i64 (-1), .int .i64 0, .bool true] := hd 13 (by simp)
            obtain ⟨g15, e15, hg15, hs15⟩ := hd 15 (by simp)
            dsimp only [lay, List.foldl, List.map, dstOf]
            rw [e13, e15]
            obtain ⟨W9, hW9, hk9, hb9, ho9⟩ := store4 hs15 hg15 W (Below.refl _ _) (.int .i64 (-1)) (.int .i64 (-1)) (.int .i64 0) (.bool true)
            have z0 := hs15.cell (i := 0) (by decide)
            have z1 := hs15.cell (i := 1) (by decide)
            have z2 := hs15.cell (i := 2) (by decide)
            have z3 := hs15.cell (i := 3) (by decide)
            have f0 := hs15.frozen 0
            have f1 := hs15.frozen 1
            have f2 := hs15.frozen 2
            have f3 := hs15.frozen 3
            have HW9 := Lib.hid hW9
            clear hW9
            go_wp2
            rw [← HW9.out]
            have hKK := Ks.mks (v := undef) (s := 16) hb9 (fun g' hs' => (by
                by_cases e : g' = g15
                · subst e; exact hk9.slot
                · obtain ⟨cs, hz, hb⟩ := hs'; exact ⟨cs, hz, ho9 g' _ cs e hb⟩))
            first | exact ⟨rfl, undef, rfl, hKK, hk9⟩ | exact ⟨rfl, undef, rfl, hKK, _, e15, hk9⟩
          refine AllO.cons [14] rfl rfl (fun vs l W hl hT hd => ?_) AllO.nil
          · have e14 : vs 14 = .bool true := hd 14 (by simp)
            dsimp only [lay, List.foldl, List.map, dstOf]
            rw [e14]
            go_wp2
            exact ⟨rfl, _, rfl, Ks.mk (by decide) (Below.refl _ _), rfl⟩
        · intro vs l W hall hT hF _ aE LE ha hL
          have e0 : vs 0 = .pointer (some ⟨T.N, 0, none⟩) := hF 0 (by simp)
          have e1 : vs 1 = .int .i64 (q : Int) := hF 1 (by simp)
          have e2 : vs 2 = .pointer (some ⟨w.heap.size, 2, none⟩) := hF 2 (by simp)
          have e3 : vs 3 = .slice (some ⟨bp, op, none⟩) M.p.n M.p.c := hF 3 (by simp)
          have e4 : vs 4 = .slice (some ⟨bj, oj, none⟩) R.length c5 := hF 4 (by simp)
          have e5 : vs 5 = .int .i64 ((k : Nat) : Int) := hF 5 (by simp)
          have e6 : vs 6 = .pointer (some ⟨bj, oj + k, none⟩) := hF 6 (by simp)
          have e7 : vs 7 = .int .i64 ((p : Nat) : Int) := hF 7 (by simp)
          have e8 : vs 8 = .pointer (some ⟨bp, op + p * 3, none⟩) := hF 8 (by simp)
          have e9 : vs 9 = .pointer (some ⟨bp, op + p * 3 + 2, none⟩) := hF 9 (by simp)
          have e10 : vs 10 = .int .u32 a1 := hF 10 (by simp)
          have e11 : vs 11 = .tuple #[.agg #[.int .i64 (-1), .int .i64 (-1), .int .i64 0, .bool true], .bool true] := hF 11 (by simp)
          have e12 : vs 12 = .tuple #[.agg #[.int .i64 (-1), .int .i64 (-1), .int .i64 0, .bool true], .bool true] := hF 12 (by simp)
          have e13 : vs 13 = .agg #[.int .i64 (-1), .int .i64 (-1), .int .i64 0, .bool true] := hF 13 (by simp)
          have e14 : vs 14 = .bool true := hF 14 (by simp)
          obtain ⟨g15, e15, hg15, hs15⟩ := hF 15 (by simp)
          have e17 : vs 17 = .bool true := hF 17 (by simp)
          obtain ⟨gS, eS, hkS⟩ := hF 16 (by simp)
          have eS' : vs 15 = .pointer (some ⟨gS, 0, none⟩) := eS
          rw [e15] at eS'
          cases eS'
          have hL' : LE = #[true, true, true, true, true, true, true, true, true, true, true, true, true, true, true, true, true, true] := hL.trans (by kernel_rfl)
          dsimp only [lay, List.foldl, dstOf] at ha
          rw [e0, e1, e2, e3, e4, e5, e6, e7, e8, e9, e10, e11, e12, e13, e14, e15, e17] at ha
          have hgS := hg15
          clear e0 e1 e2 e3 e4 e5 e6 e7 e8 e9 e10 e11 e12 e13 e14 e15 e17 eS hL hF hall hg15 hs15
          subst ha hL'
          refine wpAnyH_done (by kernel_rfl) ?_ _
          have n0 : W.cell? ⟨g15, 0, none⟩ = some (.int .i64 (-1)) := hkS.cell 0
          have n1 : W.cell? ⟨g15, 1, none⟩ = some (.int .i64 (-1)) := hkS.cell 1
          have n2 : W.cell? ⟨g15, 2, none⟩ = some (.int .i64 0) := hkS.cell 2
          have n3 : W.cell? ⟨g15, 3, none⟩ = some (.bool true) := hkS.cell 3
          have HB9 := Lib.hid (below_next HB.out hT)
          clear hkS hT hgS CJ CP CY HT1
          go_wp2
          go_roundw
          case rel => exact ⟨k + 1, hlt, by go_num, HB9⟩
          case measure => simp [intOf]; omega
      · obtain rfl : k = R.length := by omega
        have hd : decide ((R.length : Int) < (R.length : Int)) = false := by simp
        have HT2 := Lib.hid (HTO.out wr HBw.out a hu)
        have hcs := HCS.out
        clear HCS
        rcases hcs with hc | hc | ⟨p, lN, a1, u, cst, t, hc, hx, hl, hin, hup, hc0, hc1⟩
        · rw [hc] at HT2
          clear hc
          go_upto_region 17 with (go_at_call 43; refine HT2.out.mono ?_; rintro e w6 ⟨rfl, hb6⟩; have HB6 := Lib.hid (HBw.out.trans (hb6.mono HBw.out.size)); clear hb6)
          have HB7 := Lib.hid (HB6.out.alloc HB6.out.size (.cells #[.int .i64 0, .int .i64 0, .int .i64 0, .bool false] 74))
          have hk7 := Blk.new w6 74 #[.int .i64 0, .int .i64 0, .int .i64 0, .bool false]
          generalize w6.alloc (.cells #[.int .i64 0, .int .i64 0, .int .i64 0, .bool false] 74) = W7 at *
          have n0 := hk7.cell 0
          have n1 := hk7.cell 1
          simp only [List.getElem?_toArray, List.getElem?_cons_zero, List.getElem?_cons_succ] at n0 n1
          clear hk7
          go_wp2
          go_ret
          exact ⟨rfl, HB4.out.trans (HB7.out.mono HB4.out.size)⟩
        · rw [hc] at HT2
          clear hc
          go_upto_region 17 with (go_at_call 43; refine HT2.out.mono ?_; rintro e w6 ⟨rfl, hb6⟩; have HB6 := Lib.hid (HBw.out.trans (hb6.mono HBw.out.size)); clear hb6)
          have HB7 := Lib.hid (HB6.out.alloc HB6.out.size (.cells #[.int .i64 (-1), .int .i64 (-1), .int .i64 0, .bool true] 74))
          have hk7 := Blk.new w6 74 #[.int .i64 (-1), .int .i64 (-1), .int .i64 0, .bool true]
          generalize w6.alloc (.cells #[.int .i64 (-1), .int .i64 (-1), .int .i64 0, .bool true] 74) = W7 at *
          have n0 := hk7.cell 0
          have n1 := hk7.cell 1
          simp only [List.getElem?_toArray, List.getElem?_cons_zero, List.getElem?_cons_succ] at n0 n1
          clear hk7
          go_wp2
          go_ret
          exact ⟨rfl, HB4.out.trans (HB7.out.mono HB4.out.size)⟩
        · rw [hc] at HT2
          clear hc
          go_upto_region 17 with (go_at_call 43; refine HT2.out.mono ?_; rintro e w6 ⟨rfl, hb6⟩; have HB6 := Lib.hid (HBw.out.trans (hb6.mono HBw.out.size)); have HJ6 := Lib.hid ((HJ5.out.next HB.out).next hb6); clear hb6)
          have HB67 := Lib.hid ((Below.refl w6.heap.size w6).alloc (Nat.le_refl _) (.cells #[.int .i64 (p : Int), .int .i64 u, .int .i64 cst, .bool t] 74))
          have HB7 := Lib.hid (HB6.out.alloc HB6.out.size (.cells #[.int .i64 (p : Int), .int .i64 u, .int .i64 cst, .bool t] 74))
          have HJ7 := Lib.hid (HJ6.out.next HB67.out)
          have hk7 := Blk.new w6 74 #[.int .i64 (p : Int), .int .i64 u, .int .i64 cst, .bool t]
          generalize w6.alloc (.cells #[.int .i64 (p : Int), .int .i64 u, .int .i64 cst, .bool t] 74) = W7 at *
          have HK7 := Lib.hid hk7
          have n0 := hk7.cell 0
          simp only [List.getElem?_toArray, List.getElem?_cons_zero] at n0
          have e1 : decide ((p : Int) < 0) = false := by simp
          clear hk7
          go_upto_region 21 with fail
          clear n0 e1
          have HCI : Hid (R.contains (p : Int) = true) := Lib.hid (List.contains_iff_mem.2 hin)
          have HA1 := Lib.hid (fun W (hW : Below W7.heap.size W7 W) => among_any A5 _ c5 R (p : Int) W (HJ7.out.next hW) (by omega))
          rw [HCI.out] at HA1
          have g1 : decide ((0 : Int) ≤ cst) = true := by simpa using hc0
          have g2 : decide (cst ≤ 65535) = true := by simpa using hc1
          have HX := Lib.hid hx
          clear hx hin HCI hc0 hc1
          rcases hup with rfl | ⟨ou, rfl, hou, hmo⟩
          · have s0 : ∀ s : Snc W7, s.W.cell? ⟨w6.heap.size, 0, none⟩ = some (.int .i64 (p : Int)) := fun s => (HK7.out.next s.b).cell 0
            have s1 : ∀ s : Snc W7, s.W.cell? ⟨w6.heap.size, 1, none⟩ = some (.int .i64 (-1)) := fun s => (HK7.out.next s.b).cell 1
            have s2 : ∀ s : Snc W7, s.W.cell? ⟨w6.heap.size, 2, none⟩ = some (.int .i64 cst) := fun s => (HK7.out.next s.b).cell 2
            have C1 : ∀ s : Snc W7, Calls Tryz.prog 52 #[.slice A5 R.length c5, .int .i64 (p : Int)] s.W fun e w' => e = .returned (.bool true) ∧ Below s.W.heap.size s.W w' := fun s => HA1.out s.W s.b
            refine wp_region_since (by kernel_rfl) (by kernel_rfl) ?_
            repeat (go_big_quiet_step ((go_at_call 52; exact Calls.since (C1 _))))
            refine wpQuiet_nil ?_
            rintro w8 ⟨P8, rfl⟩
            have HB8 := Lib.hid (below_next HB7.out P8.b)
            go_wp2
            go_ret
            exact ⟨rfl, HB4.out.trans (HB8.out.mono HB4.out.size)⟩
          · have HO := Lib.hid (fun W (hW : Below W7.heap.size W7 W) => HOTH.out W (below_next HB7.out hW) p lN _ a1 HX.out hl)
            have HMO : Hid ((oth x.ps (q : Int) (lN : Int)).contains (ou : Int) = true) := Lib.hid (List.contains_iff_mem.2 hmo)
            have hol : (oth x.ps (q : Int) (lN : Int)).length ≤ 24 := Nat.le_trans oth_le hps
            clear hmo
            generalize oth x.ps (q : Int) (lN : Int) = R9 at *
            have s0 : ∀ W, Below W7.heap.size W7 W → W.cell? ⟨w6.heap.size, 0, none⟩ = some (.int .i64 (p : Int)) := fun W hW => (HK7.out.next hW).cell 0
            have s1 : ∀ W, Below W7.heap.size W7 W → W.cell? ⟨w6.heap.size, 1, none⟩ = some (.int .i64 (ou : Int)) := fun W hW => (HK7.out.next hW).cell 1
            have s2 : ∀ W, Below W7.heap.size W7 W → W.cell? ⟨w6.heap.size, 2, none⟩ = some (.int .i64 cst) := fun W hW => (HK7.out.next hW).cell 2
            have g3 : ((ou : Int) == -1) = false := by simp
            have hS0 := Below.refl W7.heap.size W7
            go_region_held3 (fun W => Below W7.heap.size W7 W) (first | with_reducible assumption | with_reducible exact (Below.refl _ _).drew)
              (first
              | (go_at_call 26; with_reducible refine (HO.out _ (by with_reducible assumption)).mono ?_; rintro e w9 ⟨A9, c9, rfl, hj9, hb9⟩; have HJ9 := Lib.hid hj9; have hv9 := below_next (by with_reducible assumption : Below W7.heap.size W7 _) hb9; clear hj9)
              | (go_at_call 52; first
                | (with_reducible refine (HA1.out _ (by with_reducible assumption)).mono ?_; rintro e w8 ⟨rfl, hb8⟩; have hv8 := below_next (by with_reducible assumption : Below W7.heap.size W7 _) hb8)
                | (with_reducible refine (among_any A9 _ c9 R9 (ou : Int) _ HJ9.out (by omega)).mono ?_; rintro e w10 ⟨rfl, hb10⟩; rw [HMO.out]; have hv10 := below_next (by with_reducible assumption : Below W7.heap.size W7 _) hb10)))
            go_wp2
            go_ret
            rename_i hS
            exact ⟨rfl, HB4.out.trans ((below_next HB7.out hS).mono HB4.out.size)⟩
end Go.Proofs.YtojahaphkjdenaaGreatDoor

