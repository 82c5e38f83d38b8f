/- Each group has one root: of all routers just that one is it; walked. -/
import Derived.Test.YtbeoalmcibnpaaaGreatDoorRq
import Derived.Test.YtbeoalmcibnpaaaGreatDoorRl
import Derived.Deep.Cut
namespace Go.Proofs.YtbeoalmcibnpaaaGreatDoor
open Go.RowKit Lx Sm Go.Maps
set_option maxHeartbeats 8000000 in
set_option maxRecDepth 100000 in
theorem law_rone (ads : List Addr) (M : Cm) (x : Cfg) (g : Int) (w : World) (hE : EnvC ads w) (hL : LW w M x) (hg : U32 g) :
    Calls Tryz.prog 6 #[.agg #[.slice M.r.A M.r.n M.r.c, .slice M.l.A M.l.n M.l.c, .slice M.p.A M.p.n M.p.c, .slice M.o.A M.o.n M.o.c, .slice M.g.A M.g.n M.g.c, .slice M.s.A M.s.n M.s.c, .slice M.m.A M.m.n M.m.c], .int .u32 g] w fun e w' => e = .returned (.bool true) ∧ Below w.heap.size w w' := by
  have HB0 := Lib.hid ((Below.refl w.heap.size w).alloc (Nat.le_refl _) (.cells #[.slice M.r.A M.r.n M.r.c, .slice M.l.A M.l.n M.l.c, .slice M.p.A M.p.n M.p.c, .slice M.o.A M.o.n M.o.c, .slice M.g.A M.g.n M.g.c, .slice M.s.A M.s.n M.s.c, .slice M.m.A M.m.n M.m.c] 30))
  have HK0 : Hid (Blk (w.alloc (.cells #[.slice M.r.A M.r.n M.r.c, .slice M.l.A M.l.n M.l.c, .slice M.p.A M.p.n M.p.c, .slice M.o.A M.o.n M.o.c, .slice M.g.A M.g.n M.g.c, .slice M.s.A M.s.n M.s.c, .slice M.m.A M.m.n M.m.c] 30)) w.heap.size 30 #[.slice M.r.A M.r.n M.r.c, .slice M.l.A M.l.n M.l.c, .slice M.p.A M.p.n M.p.c, .slice M.o.A M.o.n M.o.c, .slice M.g.A M.g.n M.g.c, .slice M.s.A M.s.n M.s.c, .slice M.m.A M.m.n M.m.c]) := Lib.hid (Blk.new _ _ _)
  have HF := Lib.hid (first10_any ads _ (hE.below HB0.out))
  have HE := Lib.hid hE
  have HL := Lib.hid hL
  clear hE hL
  go_enter Tryz.func6, Tryz.ntmps6
  go_upto_region 1 with fail
  generalize w.alloc (.cells #[.slice M.r.A M.r.n M.r.c, .slice M.l.A M.l.n M.l.c, .slice M.p.A M.p.n M.p.c, .slice M.o.A M.o.n M.o.c, .slice M.g.A M.g.n M.g.c, .slice M.s.A M.s.n M.s.c, .slice M.m.A M.m.n M.m.c] 30) = W0 at *
  go_wp2_with fail
  refine HF.out.mono ?_
  rintro e w1 ⟨rfl, hb1⟩
  have HB1 := Lib.hid (below_next HB0.out hb1)
  have HK1 := Lib.hid (HK0.out.next hb1)
  have y0 : w1.cell? ⟨w.heap.size, 0, none⟩ = some (.slice M.r.A M.r.n M.r.c) := HK1.out.cell 0
  have y1 : w1.cell? ⟨w.heap.size, 1, none⟩ = some (.slice M.l.A M.l.n M.l.c) := HK1.out.cell 1
  have y2 : w1.cell? ⟨w.heap.size, 2, none⟩ = some (.slice M.p.A M.p.n M.p.c) := HK1.out.cell 2
  have y3 : w1.cell? ⟨w.heap.size, 3, none⟩ = some (.slice M.o.A M.o.n M.o.c) := HK1.out.cell 3
  have y4 : w1.cell? ⟨w.heap.size, 4, none⟩ = some (.slice M.g.A M.g.n M.g.c) := HK1.out.cell 4
  have y5 : w1.cell? ⟨w.heap.size, 5, none⟩ = some (.slice M.s.A M.s.n M.s.c) := HK1.out.cell 5
  have y6 : w1.cell? ⟨w.heap.size, 6, none⟩ = some (.slice M.m.A M.m.n M.m.c) := HK1.out.cell 6
  have HG := Lib.hid (light_any M x 8 w1 (HL.out.next HB1.out) (by omega))
  clear hb1 HF
  go_wp2_with fail
  refine HG.out.mono ?_
  rintro e w2 ⟨rfl, hb2⟩
  have HB2 := Lib.hid (below_next HB1.out hb2)
  have HK2 := Lib.hid (HK1.out.next hb2)
  clear y0 y1 y2 y3 y4 y5 y6 HG hb2
  cases hlp : lightP x 8 with
  | false =>
    go_wp2
    go_ret
    exact ⟨rfl, HB2.out⟩
  | true =>
    have HOK := Lib.hid (lt_ok hlp (by omega))
    have HRL := Lib.hid (lt_rl hlp)
    have HC2 := Lib.hid ((HL.out.next HB2.out).cw HOK.out)
    have HN := Lib.hid (new_light ads M x w2 (HE.out.below HB2.out) HC2.out HOK.out)
    have y0 : w2.cell? ⟨w.heap.size, 0, none⟩ = some (.slice M.r.A M.r.n M.r.c) := HK2.out.cell 0
    have y1 : w2.cell? ⟨w.heap.size, 1, none⟩ = some (.slice M.l.A M.l.n M.l.c) := HK2.out.cell 1
    have y2 : w2.cell? ⟨w.heap.size, 2, none⟩ = some (.slice M.p.A M.p.n M.p.c) := HK2.out.cell 2
    have y3 : w2.cell? ⟨w.heap.size, 3, none⟩ = some (.slice M.o.A M.o.n M.o.c) := HK2.out.cell 3
    have y4 : w2.cell? ⟨w.heap.size, 4, none⟩ = some (.slice M.g.A M.g.n M.g.c) := HK2.out.cell 4
    have y5 : w2.cell? ⟨w.heap.size, 5, none⟩ = some (.slice M.s.A M.s.n M.s.c) := HK2.out.cell 5
    have y6 : w2.cell? ⟨w.heap.size, 6, none⟩ = some (.slice M.m.A M.m.n M.m.c) := HK2.out.cell 6
    clear hlp HL HB1 HK1 HB0 HK0
    go_wp2_with fail
    refine HN.out.mono ?_
    rintro e w4 ⟨T, x', rfl, hT, hal, hb4⟩
    have HT := Lib.hid hT
    have HAL := Lib.hid hal
    have HB4 := Lib.hid (below_next HB2.out hb4)
    have HK4 := Lib.hid (HK2.out.next hb4)
    have HC4 := Lib.hid (HC2.out.next hb4)
    clear y0 y1 y2 y3 y4 y5 y6 HN hT hal hb4 HC2 HK2
    have qr : M.r.n ≤ 16 := by have := HC4.out.r.len; have := HOK.out.rl; omega
    have ql : M.l.n ≤ 12 := by have := HC4.out.l.len; have := HOK.out.ll; omega
    have qp : M.p.n ≤ 24 := by have := HC4.out.p.len; have := HOK.out.pl; omega
    have qo : M.o.n ≤ 30 := by have := HC4.out.o.len; have := HOK.out.ol; omega
    have qg : M.g.n ≤ 4 := by have := HC4.out.g.len; have := HOK.out.gl; omega
    have qs : M.s.n ≤ 5 := by have := HC4.out.s.len; have := HOK.out.sl; omega
    have qm : M.m.n ≤ 10 := by have := HC4.out.m.len; have := HOK.out.ml; omega
    have HRT := Lib.hid (fun W (hW : Below w4.heap.size w4 W) => rrt_al g hg W w4 M (HT.out.next hW) HAL.out HC4.out HOK.out)
    have HIS := Lib.hid (fun r W (hW : Below w4.heap.size w4 W) => ris_al r g hg W w4 M (HT.out.next hW) HAL.out HC4.out HOK.out)
    have HOF := Lib.hid (fun W (hW : Below w4.heap.size w4 W) => rof_al g hg W w4 M (HT.out.next hW) HAL.out HC4.out HOK.out)
    have HAU := Lib.hid (rootP_u HC4.out g)
    have HAT := Lib.hid (fun W (hW : Below w4.heap.size w4 W) => at_al ((rootP x g).getD 0) HAU.out W (HT.out.next hW) HAL.out)
    have HNB : Hid (∀ W : World, Calls Tryz.prog 42 #[.int .i64 1, .int .i64 2] W fun e w' => e = .returned (.int .i64 1) ∧ W = w') := Lib.hid (fun W => numb 1 2 1 (by decide) (by decide) (by decide) W)
    have HRS := Lib.hid (fun r => @rtr_some x r g)
    have hrl := HC4.out.r.len
    cases hrt : rtrP x g with
    | none =>
      rw [hrt] at HRT HIS
      go_wp2_with (go_at_call 39; refine (HRT.out _ (Below.refl _ _)).mono ?_; rintro e w5 ⟨rfl, hb5⟩; have HB5 := Lib.hid hb5; clear hb5)
      go_loopw [10, 11] (fun nv iv wr => ∃ (i : Nat), i ≤ M.r.n ∧ iv = .int .i64 i ∧ nv = .int .i64 0 ∧ Hid (Below w4.heap.size w4 wr)) (fun _ iv _ => M.r.n - (intOf iv).toNat)
      case atStart => exact ⟨0, Nat.zero_le _, rfl, rfl, HB5⟩
      case round =>
        clear HB5
        obtain ⟨i, hi, rfl, rfl, HB⟩ := hrel
        have y0 : wr.cell? ⟨w.heap.size, 0, none⟩ = some (.slice M.r.A M.r.n M.r.c) := (HK4.out.next HB.out).cell 0
        rcases Nat.lt_or_ge i M.r.n with hlt | hge
        · have hi0 : (i : Int) < (M.r.n : Int) := by omega
          have HI := Lib.hid (HIS.out (i : Int) wr HB.out)
          rw [show ((none : Option Int) == some (i : Int)) = false from rfl] at HI
          go_wp2_with (go_at_call 40; refine HI.out.mono ?_; rintro e w6 ⟨rfl, hb6⟩; have HB6 := Lib.hid (below_next HB.out hb6); clear hb6)
          go_roundw
          case rel => exact ⟨i + 1, hlt, by go_num, rfl, HB6⟩
          case measure => simp [intOf]; omega
        · obtain rfl : i = M.r.n := by omega
          have hd : decide ((M.r.n : Int) < (M.r.n : Int)) = false := by simp
          generalize (rootP x g).isSome = Is at *
          generalize (rootP x g).getD 0 = a at *
          generalize (lastAt a x.ps x.ps.length).isSome = Ps at *
          generalize (lastAt a x.ps x.ps.length).getD 0 = pp at *
          go_wp2_with (first
            | (go_at_call 41; refine (HOF.out _ HB.out).mono ?_; rintro e w7 ⟨rfl, hb7⟩; have HB7 := Lib.hid (below_next HB.out hb7); clear hb7)
            | (go_at_call 25; refine (HAT.out _ HB7.out).mono ?_; rintro e w8 ⟨rfl, hb8⟩; have HB8 := Lib.hid (below_next HB7.out hb8); clear hb8)
            | (go_at_call 42; refine (HNB.out _).mono ?_; rintro e w9 ⟨rfl, rfl⟩))
          go_ret
          exact ⟨rfl, HB4.out.trans (HB8.out.mono HB4.out.size)⟩
    | some r =>
      obtain ⟨a, j, y, ha, hj, hy, hyr⟩ := HRS.out r hrt
      have hpo := HOK.out.po y (List.mem_of_getElem? hy)
      obtain ⟨rN, rfl⟩ : ∃ rN : Nat, r = (rN : Int) := ⟨r.toNat, by omega⟩
      have hrN : rN < M.r.n := by omega
      have hjn : j < M.p.n := by have := (List.getElem?_eq_some_iff.1 hy).1; have := HC4.out.p.len; omega
      rw [hrt] at HRT HIS
      rw [ha] at HOF HAT
      simp only [Option.getD_some, Option.isSome_some] at HRT HOF HAT
      rw [hj] at HAT
      simp only [Option.getD_some, Option.isSome_some] at HAT
      go_wp2_with (go_at_call 39; refine (HRT.out _ (Below.refl _ _)).mono ?_; rintro e w5 ⟨rfl, hb5⟩; have HB5 := Lib.hid hb5; clear hb5)
      go_loopw [10, 11] (fun nv iv wr => ∃ (i : Nat), i ≤ M.r.n ∧ iv = .int .i64 i ∧ nv = .int .i64 (if rN < i then 1 else 0) ∧ Hid (Below w4.heap.size w4 wr)) (fun _ iv _ => M.r.n - (intOf iv).toNat)
      case atStart => exact ⟨0, Nat.zero_le _, rfl, by rw [if_neg (Nat.not_lt_zero _)], HB5⟩
      case round =>
        clear HB5
        obtain ⟨i, hi, rfl, rfl, HB⟩ := hrel
        have y0 : wr.cell? ⟨w.heap.size, 0, none⟩ = some (.slice M.r.A M.r.n M.r.c) := (HK4.out.next HB.out).cell 0
        rcases Nat.lt_or_ge i M.r.n with hlt | hge
        · have hi0 : (i : Int) < (M.r.n : Int) := by omega
          have HI := Lib.hid (HIS.out (i : Int) wr HB.out)
          by_cases he : rN = i
          · subst he
            rw [show (some (rN : Int) == some (rN : Int)) = true by simp] at HI
            rw [if_neg (Nat.lt_irrefl _)]
            have hne : ((rN : Int) != (rN : Int)) = false := by simp
            go_wp2_with (go_at_call 40; refine HI.out.mono ?_; rintro e w6 ⟨rfl, hb6⟩; have HB6 := Lib.hid (below_next HB.out hb6); clear hb6)
            go_roundw
            case rel => exact ⟨rN + 1, hlt, by go_num, by rw [if_pos (Nat.lt_succ_self _)], HB6⟩
            case measure => simp [intOf]; omega
          · rw [show (some (rN : Int) == some (i : Int)) = false by simp; omega] at HI
            have hif : (if rN < i + 1 then (1 : Int) else 0) = (if rN < i then 1 else 0) := by
              by_cases h1 : rN < i
              · rw [if_pos h1, if_pos (by omega)]
              · rw [if_neg h1, if_neg (by omega)]
            have HIF := Lib.hid hif
            generalize (if rN < i then (1 : Int) else 0) = cn at *
            clear hif he
            go_wp2_with (go_at_call 40; refine HI.out.mono ?_; rintro e w6 ⟨rfl, hb6⟩; have HB6 := Lib.hid (below_next HB.out hb6); clear hb6)
            go_roundw
            case rel => exact ⟨i + 1, hlt, by go_num, by rw [HIF.out], HB6⟩
            case measure => simp [intOf]; omega
        · obtain rfl : i = M.r.n := by omega
          have hd : decide ((M.r.n : Int) < (M.r.n : Int)) = false := by simp
          rw [if_pos hrN]
          have hj0 : (j : Int) < (M.p.n : Int) := by omega
          have hj1 : (0 : Int) ≤ (j : Int) := by omega
          have hne : ((rN : Int) != (rN : Int)) = false := by simp
          clear hrt ha hj hpo
          go_upto_region 20 with (first
            | (go_at_call 41; refine (HOF.out _ HB.out).mono ?_; rintro e w7 ⟨rfl, hb7⟩; have HB7 := Lib.hid (below_next HB.out hb7); clear hb7)
            | (go_at_call 25; refine (HAT.out _ HB7.out).mono ?_; rintro e w8 ⟨rfl, hb8⟩; have HB8 := Lib.hid (below_next HB7.out hb8); clear hb8))
          have z2 : w8.cell? ⟨w.heap.size, 2, none⟩ = some (.slice M.p.A M.p.n M.p.c) := (HK4.out.next HB8.out).cell 2
          obtain ⟨bp, op, ⟨r1, l1, a1⟩, hA, _, hx, c0, _, _⟩ := IPort.cells (IR.next HC4.out.p HB8.out) hjn
          obtain rfl : y = (r1, l1, a1) := by have h1 := hy.symm.trans hx; exact Option.some.inj h1
          dsimp only at hyr
          subst hyr
          rw [hA] at z2
          clear hA hx hy y0
          go_wp2_with (go_at_call 42; refine (HNB.out _).mono ?_; rintro e w9 ⟨rfl, rfl⟩)
          go_ret
          exact ⟨rfl, HB4.out.trans (HB8.out.mono HB4.out.size)⟩
end Go.Proofs.YtbeoalmcibnpaaaGreatDoor

