/- Two ports of unlike routers on a link are each other's others; a router's ports are each on one link; walked. -/
import Derived.Test.YtbeoalmcibnpaaaGreatDoorTn
import Derived.Test.YtbeoalmcibnpaaaGreatDoorUn
import Derived.Deep.Cut
namespace Go.Proofs.YtbeoalmcibnpaaaGreatDoor
open Go.RowKit Lx Sm Go.Maps
set_option maxHeartbeats 8000000 in
set_option maxRecDepth 100000 in
theorem law_others (ads : List Addr) (M : Cm) (x : Cfg) (a b : Int) (w : World) (hE : EnvC ads w) (hL : LW w M x) :
    Calls Tryz.prog 5 #[.agg #[.slice M.r.A M.r.n M.r.c, .slice M.l.A M.l.n M.l.c, .slice M.p.A M.p.n M.p.c, .slice M.o.A M.o.n M.o.c, .slice M.g.A M.g.n M.g.c, .slice M.s.A M.s.n M.s.c, .slice M.m.A M.m.n M.m.c], .int .i64 a, .int .i64 b] w fun e w' => e = .returned (.bool true) ∧ Below w.heap.size w w' := by
  have HB0 := Lib.hid ((Below.refl w.heap.size w).alloc (Nat.le_refl _) (.cells #[.slice M.r.A M.r.n M.r.c, .slice M.l.A M.l.n M.l.c, .slice M.p.A M.p.n M.p.c, .slice M.o.A M.o.n M.o.c, .slice M.g.A M.g.n M.g.c, .slice M.s.A M.s.n M.s.c, .slice M.m.A M.m.n M.m.c] 30))
  have HK0 : Hid (Blk (w.alloc (.cells #[.slice M.r.A M.r.n M.r.c, .slice M.l.A M.l.n M.l.c, .slice M.p.A M.p.n M.p.c, .slice M.o.A M.o.n M.o.c, .slice M.g.A M.g.n M.g.c, .slice M.s.A M.s.n M.s.c, .slice M.m.A M.m.n M.m.c] 30)) w.heap.size 30 #[.slice M.r.A M.r.n M.r.c, .slice M.l.A M.l.n M.l.c, .slice M.p.A M.p.n M.p.c, .slice M.o.A M.o.n M.o.c, .slice M.g.A M.g.n M.g.c, .slice M.s.A M.s.n M.s.c, .slice M.m.A M.m.n M.m.c]) := Lib.hid (Blk.new _ _ _)
  have HF := Lib.hid (first8_any ads _ (hE.below HB0.out))
  have HE := Lib.hid hE
  have HL := Lib.hid hL
  clear hE hL
  go_enter Tryz.func5, Tryz.ntmps5
  go_upto_region 1 with fail
  generalize w.alloc (.cells #[.slice M.r.A M.r.n M.r.c, .slice M.l.A M.l.n M.l.c, .slice M.p.A M.p.n M.p.c, .slice M.o.A M.o.n M.o.c, .slice M.g.A M.g.n M.g.c, .slice M.s.A M.s.n M.s.c, .slice M.m.A M.m.n M.m.c] 30) = W0 at *
  go_wp2_with fail
  refine HF.out.mono ?_
  rintro e w1 ⟨rfl, hb1⟩
  have HB1 := Lib.hid (below_next HB0.out hb1)
  have HK1 := Lib.hid (HK0.out.next hb1)
  have y0 : w1.cell? ⟨w.heap.size, 0, none⟩ = some (.slice M.r.A M.r.n M.r.c) := HK1.out.cell 0
  have y1 : w1.cell? ⟨w.heap.size, 1, none⟩ = some (.slice M.l.A M.l.n M.l.c) := HK1.out.cell 1
  have y2 : w1.cell? ⟨w.heap.size, 2, none⟩ = some (.slice M.p.A M.p.n M.p.c) := HK1.out.cell 2
  have y3 : w1.cell? ⟨w.heap.size, 3, none⟩ = some (.slice M.o.A M.o.n M.o.c) := HK1.out.cell 3
  have y4 : w1.cell? ⟨w.heap.size, 4, none⟩ = some (.slice M.g.A M.g.n M.g.c) := HK1.out.cell 4
  have y5 : w1.cell? ⟨w.heap.size, 5, none⟩ = some (.slice M.s.A M.s.n M.s.c) := HK1.out.cell 5
  have y6 : w1.cell? ⟨w.heap.size, 6, none⟩ = some (.slice M.m.A M.m.n M.m.c) := HK1.out.cell 6
  have HG := Lib.hid (light_any M x 8 w1 (HL.out.next HB1.out) (by omega))
  clear hb1 HF
  go_wp2_with fail
  refine HG.out.mono ?_
  rintro e w2 ⟨rfl, hb2⟩
  have HB2 := Lib.hid (below_next HB1.out hb2)
  have HK2 := Lib.hid (HK1.out.next hb2)
  clear y0 y1 y2 y3 y4 y5 y6 HG hb2
  cases hlp : lightP x 8 with
  | false =>
    go_wp2
    go_ret
    exact ⟨rfl, HB2.out⟩
  | true =>
    have HOK := Lib.hid (lt_ok hlp (by omega))
    have HRL := Lib.hid (lt_rl hlp)
    have HC2 := Lib.hid ((HL.out.next HB2.out).cw HOK.out)
    have HN := Lib.hid (new_light ads M x w2 (HE.out.below HB2.out) HC2.out HOK.out)
    have y0 : w2.cell? ⟨w.heap.size, 0, none⟩ = some (.slice M.r.A M.r.n M.r.c) := HK2.out.cell 0
    have y1 : w2.cell? ⟨w.heap.size, 1, none⟩ = some (.slice M.l.A M.l.n M.l.c) := HK2.out.cell 1
    have y2 : w2.cell? ⟨w.heap.size, 2, none⟩ = some (.slice M.p.A M.p.n M.p.c) := HK2.out.cell 2
    have y3 : w2.cell? ⟨w.heap.size, 3, none⟩ = some (.slice M.o.A M.o.n M.o.c) := HK2.out.cell 3
    have y4 : w2.cell? ⟨w.heap.size, 4, none⟩ = some (.slice M.g.A M.g.n M.g.c) := HK2.out.cell 4
    have y5 : w2.cell? ⟨w.heap.size, 5, none⟩ = some (.slice M.s.A M.s.n M.s.c) := HK2.out.cell 5
    have y6 : w2.cell? ⟨w.heap.size, 6, none⟩ = some (.slice M.m.A M.m.n M.m.c) := HK2.out.cell 6
    clear hlp HL HB1 HK1 HB0 HK0
    have hpl := HC2.out.p.len
    by_cases hp0 : M.p.n = 0
    · have hpz : ((M.p.n : Int) == 0) = true := by simp; omega
      go_wp2
      go_ret
      exact ⟨rfl, HB2.out⟩
    have hpz : ((M.p.n : Int) == 0) = false := by simp; omega
    go_wp2_with fail
    refine HN.out.mono ?_
    rintro e w4 ⟨T, x', rfl, hT, hal, hb4⟩
    have HT := Lib.hid hT
    have HAL := Lib.hid hal
    have HB4 := Lib.hid (below_next HB2.out hb4)
    have HK4 := Lib.hid (HK2.out.next hb4)
    have HC4 := Lib.hid (HC2.out.next hb4)
    clear y0 y1 y2 y3 y4 y5 y6 HN hT hal hb4 HC2 HK2
    have qr : M.r.n ≤ 16 := by have := HC4.out.r.len; have := HOK.out.rl; omega
    have ql : M.l.n ≤ 12 := by have := HC4.out.l.len; have := HOK.out.ll; omega
    have qp : M.p.n ≤ 24 := by have := HC4.out.p.len; have := HOK.out.pl; omega
    have qo : M.o.n ≤ 30 := by have := HC4.out.o.len; have := HOK.out.ol; omega
    have qg : M.g.n ≤ 4 := by have := HC4.out.g.len; have := HOK.out.gl; omega
    have qs : M.s.n ≤ 5 := by have := HC4.out.s.len; have := HOK.out.sl; omega
    have qm : M.m.n ≤ 10 := by have := HC4.out.m.len; have := HOK.out.ml; omega
    clear hpz
    have hps : x.ps.length ≤ 24 := HOK.out.pl
    have HSF := Lib.hid (rowF_sum HOK.out.po)
    have HSO := Lib.hid (rowO_sum HOK.out.po)
    go_wp2_with fail
    go_loopw [10, 11] (fun nv iv wr => ∃ (k : Nat), k ≤ M.r.n ∧ iv = .int .i64 k ∧ nv = .int .i64 (sumN (fun i => (rowF x (i : Int)).length) k : Nat) ∧ Hid (Below w4.heap.size w4 wr)) (fun _ iv _ => M.r.n - (intOf iv).toNat)
    case atStart => exact ⟨0, Nat.zero_le _, rfl, rfl, Lib.hid (Below.refl _ _)⟩
    case round =>
      obtain ⟨k, hk, rfl, rfl, HB⟩ := hrel
      have y0 : wr.cell? ⟨w.heap.size, 0, none⟩ = some (.slice M.r.A M.r.n M.r.c) := (HK4.out.next HB.out).cell 0
      have hrl := HC4.out.r.len
      have hsum : sumN (fun i => (rowF x (i : Int)).length) k ≤ k * 24 := sumN_le _ 24 (fun i => Nat.le_trans (rowF_le x _) HOK.out.pl) k
      rcases Nat.lt_or_ge k M.r.n with hlt | hge
      · have hi0 : (k : Int) < (M.r.n : Int) := by omega
        have HM := Lib.hid (of_al (k : Int) wr (HT.out.next HB.out) HAL.out)
        have hfl : (rowF x (k : Int)).length ≤ 24 := Nat.le_trans (rowF_le x _) HOK.out.pl
        have HS : Hid (sumN (fun i => (rowF x (i : Int)).length) (k + 1) = sumN (fun i => (rowF x (i : Int)).length) k + (rowF x (k : Int)).length) := Lib.hid rfl
        generalize sumN (fun i => (rowF x (i : Int)).length) k = S0 at *
        generalize rowF x (k : Int) = R at *
        generalize hrn : R.length = rn at *
        go_wp2_with (go_at_call 30; refine HM.out.mono ?_; rintro e w5 ⟨A5, c5, rfl, hj, hb5⟩; have HB5 := Lib.hid (HB.out.trans (hb5.mono HB.out.size)); clear hj hb5)
        go_roundw
        case rel => exact ⟨k + 1, hlt, by go_num, by rw [HS.out]; go_num, HB5⟩
        case measure => simp [intOf]; omega
      · obtain rfl : k = M.r.n := by omega
        have hd : decide ((M.r.n : Int) < (M.r.n : Int)) = false := by simp
        rw [show sumN (fun i => (rowF x (i : Int)).length) M.r.n = M.p.n by rw [← hrl, HSF.out, hpl]]
        clear hsum
        go_wp2_with fail
        clear y0 hd
        go_loopw [10, 12] (fun nv iv wr => ∃ (k : Nat), k ≤ M.l.n ∧ iv = .int .i64 k ∧ nv = .int .i64 ((M.p.n : Int) - (sumN (fun i => (rowO x (i : Int)).length) k : Nat)) ∧ Hid (Below w4.heap.size w4 wr)) (fun _ iv _ => M.l.n - (intOf iv).toNat)
        case atStart => exact ⟨0, Nat.zero_le _, rfl, by simp [sumN], HB⟩
        case round =>
          clear HB hk hge
          obtain ⟨k, hk, rfl, rfl, HB⟩ := hrel
          have y1 : wr.cell? ⟨w.heap.size, 1, none⟩ = some (.slice M.l.A M.l.n M.l.c) := (HK4.out.next HB.out).cell 1
          have hll := HC4.out.l.len
          have hsum : sumN (fun i => (rowO x (i : Int)).length) k ≤ k * 24 := sumN_le _ 24 (fun i => Nat.le_trans (rowO_le x _) HOK.out.pl) k
          rcases Nat.lt_or_ge k M.l.n with hlt | hge
          · have hi0 : (k : Int) < (M.l.n : Int) := by omega
            have HM := Lib.hid (on_al (k : Int) wr (HT.out.next HB.out) HAL.out)
            have hfl : (rowO x (k : Int)).length ≤ 24 := Nat.le_trans (rowO_le x _) HOK.out.pl
            have HS : Hid (sumN (fun i => (rowO x (i : Int)).length) (k + 1) = sumN (fun i => (rowO x (i : Int)).length) k + (rowO x (k : Int)).length) := Lib.hid rfl
            generalize sumN (fun i => (rowO x (i : Int)).length) k = S0 at *
            generalize rowO x (k : Int) = R at *
            generalize hrn : R.length = rn at *
            go_wp2_with (go_at_call 29; refine HM.out.mono ?_; rintro e w5 ⟨A5, c5, rfl, hj, hb5⟩; have HB5 := Lib.hid (HB.out.trans (hb5.mono HB.out.size)); clear hj hb5)
            go_roundw
            case rel => exact ⟨k + 1, hlt, by go_num, by rw [HS.out]; congr 1; omega, HB5⟩
            case measure => simp [intOf]; omega
          · obtain rfl : k = M.l.n := by omega
            have hd : decide ((M.l.n : Int) < (M.l.n : Int)) = false := by simp
            rw [show (M.p.n : Int) - (sumN (fun i => (rowO x (i : Int)).length) M.l.n : Nat) = 0 by rw [← hll, HSO.out]; omega]
            have y2 : wr.cell? ⟨w.heap.size, 2, none⟩ = some (.slice M.p.A M.p.n M.p.c) := (HK4.out.next HB.out).cell 2
            have HBr := Lib.hid (HB4.out.trans (HB.out.mono HB4.out.size))
            clear hsum
            by_cases h1 : a < 0 ∨ b < 0 ∨ (M.p.n : Int) ≤ a ∨ (M.p.n : Int) ≤ b
            · cases e1 : decide (a < 0) with
              | true => go_wp2; go_ret; exact ⟨rfl, HBr.out⟩
              | false =>
                cases e2 : decide (b < 0) with
                | true => go_wp2; go_ret; exact ⟨rfl, HBr.out⟩
                | false =>
                  cases e3 : decide ((M.p.n : Int) ≤ a) with
                  | true => go_wp2; go_ret; exact ⟨rfl, HBr.out⟩
                  | false =>
                    have e4 : decide ((M.p.n : Int) ≤ b) = true := by
                      simp only [decide_eq_false_iff_not, decide_eq_true_eq] at e1 e2 e3 ⊢; omega
                    go_wp2; go_ret; exact ⟨rfl, HBr.out⟩
            · obtain ⟨p, rfl⟩ : ∃ p : Nat, a = (p : Int) := ⟨a.toNat, by omega⟩
              obtain ⟨q, rfl⟩ : ∃ q : Nat, b = (q : Int) := ⟨b.toNat, by omega⟩
              have hpn : p < M.p.n := by omega
              have hqn : q < M.p.n := by omega
              have e1 : decide ((p : Int) < 0) = false := by simp
              have e2 : decide ((q : Int) < 0) = false := by simp
              have e3 : decide ((M.p.n : Int) ≤ (p : Int)) = false := by simp; omega
              have e4 : decide ((M.p.n : Int) ≤ (q : Int)) = false := by simp; omega
              have hp1 : (p : Int) < (M.p.n : Int) := by omega
              have hq1 : (q : Int) < (M.p.n : Int) := by omega
              have hp2 : (0 : Int) ≤ (p : Int) := by omega
              have hq2 : (0 : Int) ≤ (q : Int) := by omega
              clear h1
              go_upto_region 20 with fail
              clear y1 y2 e1 e2 e3 e4 hd
              obtain ⟨bp, op, ⟨rp, lp, ap⟩, hA, hbp, hx, c0, c1, _⟩ := IPort.cells (IR.next HC4.out.p HB.out) hpn
              obtain ⟨bp2, op2, ⟨rq, lq, aq⟩, hA2, _, hx2, d0, d1, _⟩ := IPort.cells (IR.next HC4.out.p HB.out) hqn
              rw [hA] at hA2
              cases hA2
              have hpo := HOK.out.po _ (List.mem_of_getElem? hx)
              have hpo2 := HOK.out.po _ (List.mem_of_getElem? hx2)
              dsimp only at hpo hpo2
              obtain ⟨lN, rfl⟩ : ∃ lN : Nat, lp = (lN : Int) := ⟨lp.toNat, by omega⟩
              obtain ⟨lM, rfl⟩ : ∃ lM : Nat, lq = (lM : Int) := ⟨lq.toNat, by omega⟩
              have HCL := Lib.hid (fun W (hW : Below wr.heap.size wr W) => (show W.cell? ⟨w.heap.size, 2, none⟩ = some (.slice (some ⟨bp, op, none⟩) M.p.n M.p.c) ∧ W.cell? ⟨bp, op + p * 3, none⟩ = some (.int .i64 rp) ∧ W.cell? ⟨bp, op + p * 3 + 1, none⟩ = some (.int .i64 lN) ∧ W.cell? ⟨bp, op + q * 3, none⟩ = some (.int .i64 rq) ∧ W.cell? ⟨bp, op + q * 3 + 1, none⟩ = some (.int .i64 lM) from ⟨by rw [← hA]; exact ((HK4.out.next HB.out).next hW).cell 2, (hW.cell (p := ⟨bp, op + p * 3, none⟩) hbp).trans c0, (hW.cell (p := ⟨bp, op + p * 3 + 1, none⟩) hbp).trans c1, (hW.cell (p := ⟨bp, op + q * 3, none⟩) hbp).trans d0, (hW.cell (p := ⟨bp, op + q * 3 + 1, none⟩) hbp).trans d1⟩))
              obtain ⟨E, hE⟩ : ∃ E, ((lN : Int) == (lM : Int)) = E := ⟨_, rfl⟩
              obtain ⟨D, hD⟩ : ∃ D, (rp != rq) = D := ⟨_, rfl⟩
              have K1 : Hid ((oth x.ps rp lN).contains (q : Int) = (E && D)) := Lib.hid (by
                rw [← hE, ← hD, Bool.eq_iff_iff, List.contains_iff_mem, oth_get, Bool.and_eq_true, beq_iff_eq, bne_iff_ne]
                constructor
                · rintro ⟨y, hy, h1, h2⟩
                  rw [hx2] at hy; cases hy
                  exact ⟨h1.symm, fun e => h2 e.symm⟩
                · rintro ⟨h1, h2⟩
                  exact ⟨_, hx2, h1.symm, fun e => h2 e.symm⟩)
              have K2 : Hid ((oth x.ps rq lM).contains (p : Int) = (E && D)) := Lib.hid (by
                rw [← hE, ← hD, Bool.eq_iff_iff, List.contains_iff_mem, oth_get, Bool.and_eq_true, beq_iff_eq, bne_iff_ne]
                constructor
                · rintro ⟨y, hy, h1, h2⟩
                  rw [hx] at hy; cases hy
                  exact ⟨h1, h2⟩
                · rintro ⟨h1, h2⟩
                  exact ⟨_, hx, h1, h2⟩)
              have K3 : Hid ((rowO x (lN : Int)).contains (p : Int) = true) := Lib.hid (by
                rw [List.contains_iff_mem, rowO_at (by omega) hpo.2.2.2, picks_get]
                exact ⟨(List.getElem?_eq_some_iff.1 hx).1, _, hx, by simp⟩)
              have K4 : Hid ((rowF x rp).contains (p : Int) = true) := Lib.hid (by
                rw [List.contains_iff_mem, rowF_at hpo.1 hpo.2.1, picks_get]
                exact ⟨(List.getElem?_eq_some_iff.1 hx).1, _, hx, by simp⟩)
              have HO1 := Lib.hid (fun W (hW : Below wr.heap.size wr W) => others_al p lN rp ap hx (by omega) W (HT.out.next (HB.out.trans (hW.mono HB.out.size))) HAL.out)
              have HO2 := Lib.hid (fun W (hW : Below wr.heap.size wr W) => others_al q lM rq aq hx2 (by omega) W (HT.out.next (HB.out.trans (hW.mono HB.out.size))) HAL.out)
              have HO3 := Lib.hid (fun W (hW : Below wr.heap.size wr W) => on_al (lN : Int) W (HT.out.next (HB.out.trans (hW.mono HB.out.size))) HAL.out)
              have HO4 := Lib.hid (fun W (hW : Below wr.heap.size wr W) => of_al rp W (HT.out.next (HB.out.trans (hW.mono HB.out.size))) HAL.out)
              have l1 : (oth x.ps rp lN).length ≤ 24 := Nat.le_trans oth_le hps
              have l2 : (oth x.ps rq lM).length ≤ 24 := Nat.le_trans oth_le hps
              have l3 : (rowO x (lN : Int)).length ≤ 24 := Nat.le_trans (rowO_le x _) hps
              have l4 : (rowF x rp).length ≤ 24 := Nat.le_trans (rowF_le x _) hps
              generalize oth x.ps rp lN = R1 at *
              generalize oth x.ps rq lM = R2 at *
              generalize rowO x (lN : Int) = R3 at *
              generalize rowF x rp = R4 at *
              have s0 : ∀ s : Snc wr, s.W.cell? ⟨w.heap.size, 2, none⟩ = some (.slice (some ⟨bp, op, none⟩) M.p.n M.p.c) := fun s => (HCL.out s.W s.b).1
              have s1 : ∀ s : Snc wr, s.W.cell? ⟨bp, op + p * 3, none⟩ = some (.int .i64 rp) := fun s => (HCL.out s.W s.b).2.1
              have s2 : ∀ s : Snc wr, s.W.cell? ⟨bp, op + p * 3 + 1, none⟩ = some (.int .i64 lN) := fun s => (HCL.out s.W s.b).2.2.1
              have s3 : ∀ s : Snc wr, s.W.cell? ⟨bp, op + q * 3, none⟩ = some (.int .i64 rq) := fun s => (HCL.out s.W s.b).2.2.2.1
              have s4 : ∀ s : Snc wr, s.W.cell? ⟨bp, op + q * 3 + 1, none⟩ = some (.int .i64 lM) := fun s => (HCL.out s.W s.b).2.2.2.2
              clear c0 c1 d0 d1 hx hx2 hA hpo hpo2 hbp
              cases E with
              | false =>
                cases D with
                | false =>
                  have K1 : Hid (R1.contains (q : Int) = false) := Lib.hid K1.out
                  have K2 : Hid (R2.contains (p : Int) = false) := Lib.hid K2.out
                  refine wp_region_since (by kernel_rfl) (by kernel_rfl) ?_
                  repeat (go_big_quiet_step (fail))
                  refine wpQuiet_nil ?_
                  rintro w6 ⟨P6, rfl⟩
                  have HB6 := Lib.hid P6.b
                  clear s0 s1 s2 s3 s4
                  generalize P6.W = W6 at *
                  obtain ⟨t0, t1, t2, t3, t4⟩ := HCL.out W6 HB6.out
                  go_wp2_with (first
                    | (go_at_call 32; first
                        | (with_reducible refine (HO1.out _ HB6.out).mono ?_; rintro e w7 ⟨A7, c7, rfl, hj, hb7⟩; have HJ7 := Lib.hid hj; have HB7 := Lib.hid (HB6.out.trans (hb7.mono HB6.out.size)); clear hj hb7)
                        | (with_reducible refine (HO2.out _ HB8.out).mono ?_; rintro e w9 ⟨A9, c9, rfl, hj, hb9⟩; have HJ9 := Lib.hid hj; have HB9 := Lib.hid (HB8.out.trans (hb9.mono HB8.out.size)); clear hj hb9))
                    | (go_at_call 29; with_reducible refine (HO3.out _ HB10.out).mono ?_; rintro e w11 ⟨A11, c11, rfl, hj, hb11⟩; have HJ11 := Lib.hid hj; have HB11 := Lib.hid (HB10.out.trans (hb11.mono HB10.out.size)); clear hj hb11)
                    | (go_at_call 30; with_reducible refine (HO4.out _ HB12.out).mono ?_; rintro e w13 ⟨A13, c13, rfl, hj, hb13⟩; have HJ13 := Lib.hid hj; have HB13 := Lib.hid (HB12.out.trans (hb13.mono HB12.out.size)); clear hj hb13)
                    | (go_at_call 18; first
                        | (with_reducible refine (among_any A7 _ c7 R1 (q : Int) w7 HJ7.out (by omega)).mono ?_; rintro e w8 ⟨rfl, hb8⟩; rw [K1.out]; have HB8 := Lib.hid (HB7.out.trans (hb8.mono HB7.out.size)); clear hb8)
                        | (with_reducible refine (among_any A9 _ c9 R2 (p : Int) w9 HJ9.out (by omega)).mono ?_; rintro e w10 ⟨rfl, hb10⟩; rw [K2.out]; have HB10 := Lib.hid (HB9.out.trans (hb10.mono HB9.out.size)); obtain ⟨v0, v1, v2, v3, v4⟩ := HCL.out w10 HB10.out; clear hb10)
                        | (with_reducible refine (among_any A11 _ c11 R3 (p : Int) w11 HJ11.out (by omega)).mono ?_; rintro e w12 ⟨rfl, hb12⟩; rw [K3.out]; have HB12 := Lib.hid (HB11.out.trans (hb12.mono HB11.out.size)); obtain ⟨u0, u1, u2, u3, u4⟩ := HCL.out w12 HB12.out; clear hb12)
                        | (with_reducible refine (among_any A13 _ c13 R4 (p : Int) w13 HJ13.out (by omega)).mono ?_; rintro e w14 ⟨rfl, hb14⟩; rw [K4.out]; have HB14 := Lib.hid (HB13.out.trans (hb14.mono HB13.out.size)); clear hb14)))
                  go_ret
                  exact ⟨rfl, HBr.out.trans (HB14.out.mono HBr.out.size)⟩
                | true =>
                  have K1 : Hid (R1.contains (q : Int) = false) := Lib.hid K1.out
                  have K2 : Hid (R2.contains (p : Int) = false) := Lib.hid K2.out
                  refine wp_region_since (by kernel_rfl) (by kernel_rfl) ?_
                  repeat (go_big_quiet_step (fail))
                  refine wpQuiet_nil ?_
                  rintro w6 ⟨P6, rfl⟩
                  have HB6 := Lib.hid P6.b
                  clear s0 s1 s2 s3 s4
                  generalize P6.W = W6 at *
                  obtain ⟨t0, t1, t2, t3, t4⟩ := HCL.out W6 HB6.out
                  go_wp2_with (first
                    | (go_at_call 32; first
                        | (with_reducible refine (HO1.out _ HB6.out).mono ?_; rintro e w7 ⟨A7, c7, rfl, hj, hb7⟩; have HJ7 := Lib.hid hj; have HB7 := Lib.hid (HB6.out.trans (hb7.mono HB6.out.size)); clear hj hb7)
                        | (with_reducible refine (HO2.out _ HB8.out).mono ?_; rintro e w9 ⟨A9, c9, rfl, hj, hb9⟩; have HJ9 := Lib.hid hj; have HB9 := Lib.hid (HB8.out.trans (hb9.mono HB8.out.size)); clear hj hb9))
                    | (go_at_call 29; with_reducible refine (HO3.out _ HB10.out).mono ?_; rintro e w11 ⟨A11, c11, rfl, hj, hb11⟩; have HJ11 := Lib.hid hj; have HB11 := Lib.hid (HB10.out.trans (hb11.mono HB10.out.size)); clear hj hb11)
                    | (go_at_call 30; with_reducible refine (HO4.out _ HB12.out).mono ?_; rintro e w13 ⟨A13, c13, rfl, hj, hb13⟩; have HJ13 := Lib.hid hj; have HB13 := Lib.hid (HB12.out.trans (hb13.mono HB12.out.size)); clear hj hb13)
                    | (go_at_call 18; first
                        | (with_reducible refine (among_any A7 _ c7 R1 (q : Int) w7 HJ7.out (by omega)).mono ?_; rintro e w8 ⟨rfl, hb8⟩; rw [K1.out]; have HB8 := Lib.hid (HB7.out.trans (hb8.mono HB7.out.size)); clear hb8)
                        | (with_reducible refine (among_any A9 _ c9 R2 (p : Int) w9 HJ9.out (by omega)).mono ?_; rintro e w10 ⟨rfl, hb10⟩; rw [K2.out]; have HB10 := Lib.hid (HB9.out.trans (hb10.mono HB9.out.size)); obtain ⟨v0, v1, v2, v3, v4⟩ := HCL.out w10 HB10.out; clear hb10)
                        | (with_reducible refine (among_any A11 _ c11 R3 (p : Int) w11 HJ11.out (by omega)).mono ?_; rintro e w12 ⟨rfl, hb12⟩; rw [K3.out]; have HB12 := Lib.hid (HB11.out.trans (hb12.mono HB11.out.size)); obtain ⟨u0, u1, u2, u3, u4⟩ := HCL.out w12 HB12.out; clear hb12)
                        | (with_reducible refine (among_any A13 _ c13 R4 (p : Int) w13 HJ13.out (by omega)).mono ?_; rintro e w14 ⟨rfl, hb14⟩; rw [K4.out]; have HB14 := Lib.hid (HB13.out.trans (hb14.mono HB13.out.size)); clear hb14)))
                  go_ret
                  exact ⟨rfl, HBr.out.trans (HB14.out.mono HBr.out.size)⟩
              | true =>
                cases D with
                | false =>
                  have K1 : Hid (R1.contains (q : Int) = false) := Lib.hid K1.out
                  have K2 : Hid (R2.contains (p : Int) = false) := Lib.hid K2.out
                  refine wp_region_since (by kernel_rfl) (by kernel_rfl) ?_
                  repeat (go_big_quiet_step (fail))
                  refine wpQuiet_nil ?_
                  rintro w6 ⟨P6, rfl⟩
                  have HB6 := Lib.hid P6.b
                  clear s0 s1 s2 s3 s4
                  generalize P6.W = W6 at *
                  obtain ⟨t0, t1, t2, t3, t4⟩ := HCL.out W6 HB6.out
                  go_wp2_with (first
                    | (go_at_call 32; first
                        | (with_reducible refine (HO1.out _ HB6.out).mono ?_; rintro e w7 ⟨A7, c7, rfl, hj, hb7⟩; have HJ7 := Lib.hid hj; have HB7 := Lib.hid (HB6.out.trans (hb7.mono HB6.out.size)); clear hj hb7)
                        | (with_reducible refine (HO2.out _ HB8.out).mono ?_; rintro e w9 ⟨A9, c9, rfl, hj, hb9⟩; have HJ9 := Lib.hid hj; have HB9 := Lib.hid (HB8.out.trans (hb9.mono HB8.out.size)); clear hj hb9))
                    | (go_at_call 29; with_reducible refine (HO3.out _ HB10.out).mono ?_; rintro e w11 ⟨A11, c11, rfl, hj, hb11⟩; have HJ11 := Lib.hid hj; have HB11 := Lib.hid (HB10.out.trans (hb11.mono HB10.out.size)); clear hj hb11)
                    | (go_at_call 30; with_reducible refine (HO4.out _ HB12.out).mono ?_; rintro e w13 ⟨A13, c13, rfl, hj, hb13⟩; have HJ13 := Lib.hid hj; have HB13 := Lib.hid (HB12.out.trans (hb13.mono HB12.out.size)); clear hj hb13)
                    | (go_at_call 18; first
                        | (with_reducible refine (among_any A7 _ c7 R1 (q : Int) w7 HJ7.out (by omega)).mono ?_; rintro e w8 ⟨rfl, hb8⟩; rw [K1.out]; have HB8 := Lib.hid (HB7.out.trans (hb8.mono HB7.out.size)); clear hb8)
                        | (with_reducible refine (among_any A9 _ c9 R2 (p : Int) w9 HJ9.out (by omega)).mono ?_; rintro e w10 ⟨rfl, hb10⟩; rw [K2.out]; have HB10 := Lib.hid (HB9.out.trans (hb10.mono HB9.out.size)); obtain ⟨v0, v1, v2, v3, v4⟩ := HCL.out w10 HB10.out; clear hb10)
                        | (with_reducible refine (among_any A11 _ c11 R3 (p : Int) w11 HJ11.out (by omega)).mono ?_; rintro e w12 ⟨rfl, hb12⟩; rw [K3.out]; have HB12 := Lib.hid (HB11.out.trans (hb12.mono HB11.out.size)); obtain ⟨u0, u1, u2, u3, u4⟩ := HCL.out w12 HB12.out; clear hb12)
                        | (with_reducible refine (among_any A13 _ c13 R4 (p : Int) w13 HJ13.out (by omega)).mono ?_; rintro e w14 ⟨rfl, hb14⟩; rw [K4.out]; have HB14 := Lib.hid (HB13.out.trans (hb14.mono HB13.out.size)); clear hb14)))
                  go_ret
                  exact ⟨rfl, HBr.out.trans (HB14.out.mono HBr.out.size)⟩
                | true =>
                  have K1 : Hid (R1.contains (q : Int) = true) := Lib.hid K1.out
                  have K2 : Hid (R2.contains (p : Int) = true) := Lib.hid K2.out
                  refine wp_region_since (by kernel_rfl) (by kernel_rfl) ?_
                  repeat (go_big_quiet_step (fail))
                  refine wpQuiet_nil ?_
                  rintro w6 ⟨P6, rfl⟩
                  have HB6 := Lib.hid P6.b
                  clear s0 s1 s2 s3 s4
                  generalize P6.W = W6 at *
                  obtain ⟨t0, t1, t2, t3, t4⟩ := HCL.out W6 HB6.out
                  go_wp2_with (first
                    | (go_at_call 32; first
                        | (with_reducible refine (HO1.out _ HB6.out).mono ?_; rintro e w7 ⟨A7, c7, rfl, hj, hb7⟩; have HJ7 := Lib.hid hj; have HB7 := Lib.hid (HB6.out.trans (hb7.mono HB6.out.size)); clear hj hb7)
                        | (with_reducible refine (HO2.out _ HB8.out).mono ?_; rintro e w9 ⟨A9, c9, rfl, hj, hb9⟩; have HJ9 := Lib.hid hj; have HB9 := Lib.hid (HB8.out.trans (hb9.mono HB8.out.size)); clear hj hb9))
                    | (go_at_call 29; with_reducible refine (HO3.out _ HB10.out).mono ?_; rintro e w11 ⟨A11, c11, rfl, hj, hb11⟩; have HJ11 := Lib.hid hj; have HB11 := Lib.hid (HB10.out.trans (hb11.mono HB10.out.size)); clear hj hb11)
                    | (go_at_call 30; with_reducible refine (HO4.out _ HB12.out).mono ?_; rintro e w13 ⟨A13, c13, rfl, hj, hb13⟩; have HJ13 := Lib.hid hj; have HB13 := Lib.hid (HB12.out.trans (hb13.mono HB12.out.size)); clear hj hb13)
                    | (go_at_call 18; first
                        | (with_reducible refine (among_any A7 _ c7 R1 (q : Int) w7 HJ7.out (by omega)).mono ?_; rintro e w8 ⟨rfl, hb8⟩; rw [K1.out]; have HB8 := Lib.hid (HB7.out.trans (hb8.mono HB7.out.size)); clear hb8)
                        | (with_reducible refine (among_any A9 _ c9 R2 (p : Int) w9 HJ9.out (by omega)).mono ?_; rintro e w10 ⟨rfl, hb10⟩; rw [K2.out]; have HB10 := Lib.hid (HB9.out.trans (hb10.mono HB9.out.size)); obtain ⟨v0, v1, v2, v3, v4⟩ := HCL.out w10 HB10.out; clear hb10)
                        | (with_reducible refine (among_any A11 _ c11 R3 (p : Int) w11 HJ11.out (by omega)).mono ?_; rintro e w12 ⟨rfl, hb12⟩; rw [K3.out]; have HB12 := Lib.hid (HB11.out.trans (hb12.mono HB11.out.size)); obtain ⟨u0, u1, u2, u3, u4⟩ := HCL.out w12 HB12.out; clear hb12)
                        | (with_reducible refine (among_any A13 _ c13 R4 (p : Int) w13 HJ13.out (by omega)).mono ?_; rintro e w14 ⟨rfl, hb14⟩; rw [K4.out]; have HB14 := Lib.hid (HB13.out.trans (hb14.mono HB13.out.size)); clear hb14)))
                  go_ret
                  exact ⟨rfl, HBr.out.trans (HB14.out.mono HBr.out.size)⟩

end Go.Proofs.YtbeoalmcibnpaaaGreatDoor

