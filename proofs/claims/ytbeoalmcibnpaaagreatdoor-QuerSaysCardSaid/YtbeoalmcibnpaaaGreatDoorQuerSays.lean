/- The least of any addresses, each step, who asks on any link: as the document has them; walked. -/
import Derived.Test.YtbeoalmcibnpaaaGreatDoorQo
import Derived.Test.YtbeoalmcibnpaaaGreatDoorLt
import Derived.Deep.CutRange
namespace Go.Proofs.YtbeoalmcibnpaaaGreatDoor
open Go.RowKit Lx Sm Go.Maps
def bestI (xs : List Int) (k : Nat) : Int := if k = 0 then -1 else (leastP xs k : Int)
theorem bestI_next (xs : List Int) (k : Nat) : bestI xs (k + 1) = if xs.getD k 0 < xs.getD (leastP xs k) 0 then (k : Int) else (leastP xs k : Int) := by
  unfold bestI
  rw [if_neg (by omega)]
  show ((if xs.getD k 0 < xs.getD (leastP xs k) 0 then k else leastP xs k : Nat) : Int) = _
  split <;> rfl
theorem bestI_one (xs : List Int) {k : Nat} (h : k = 0) : bestI xs (k + 1) = (k : Int) := by
  subst h
  rw [bestI_next]
  simp [leastP]
theorem less_has (xs : List Int) (own : Int) : xs.any (fun a => decide (a < own)) = lessP xs own := by
  rw [Bool.eq_iff_iff, List.any_eq_true]
  unfold lessP
  simp only [Bool.and_eq_true, decide_eq_true_eq]
  have hl := leastP_lt xs xs.length
  constructor
  · rintro ⟨a, ha, h⟩
    obtain ⟨i, hi, rfl⟩ := List.mem_iff_getElem.1 ha
    refine ⟨by omega, ?_⟩
    have := (leastP_all xs xs.length).1 i hi
    rw [List.getD_eq_getElem?_getD, List.getElem?_eq_getElem hi, Option.getD_some] at this
    omega
  · rintro ⟨h0, h⟩
    refine ⟨xs.getD (leastP xs xs.length) 0, ?_, h⟩
    have h1 : leastP xs xs.length < xs.length := by omega
    rw [List.getD_eq_getElem?_getD, List.getElem?_eq_getElem h1, Option.getD_some]
    exact List.getElem_mem h1
theorem qstep_cases (o own : Int) (xs : List Int) : qstepP o own xs = if xs.any (fun a => decide (a < own)) = true then (0, 3) else if 1 < o then (0, o - 1) else (1, 0) := by
  rw [less_has]
  unfold qstepP
  split
  · rfl
  · by_cases h : 1 < o
    · rw [if_pos h, show max o 1 - 1 = o - 1 by omega, if_pos (by omega)]
    · rw [if_neg h, show max o 1 - 1 = 0 by omega, if_neg (by decide)]
set_option maxHeartbeats 40000000 in
set_option maxRecDepth 100000 in
theorem law_qsays (ads : List Addr) (A : Option Addr) (n c : Nat) (xs : List Int) (ka o own : Int) (M : Cm) (x : Cfg) (p : Int) (w : World) (hE : EnvC ads w) (hr : AR w A n xs) (hL : LW w M x) :
    Calls Tryz.prog 14 #[.slice A n c, .agg #[.int .i64 ka, .int .i64 o], .int .u32 own, .agg #[.slice M.r.A M.r.n M.r.c, .slice M.l.A M.l.n M.l.c, .slice M.p.A M.p.n M.p.c, .slice M.o.A M.o.n M.o.c, .slice M.g.A M.g.n M.g.c, .slice M.s.A M.s.n M.s.c, .slice M.m.A M.m.n M.m.c], .int .i64 p] w fun e w' => e = .returned (.bool true) ∧ Below w.heap.size w w' := by
  have HB0 := Lib.hid (((Below.refl w.heap.size w).alloc (Nat.le_refl _) (.cells #[.int .i64 ka, .int .i64 o] 113)).alloc (by simp) (.cells #[.slice M.r.A M.r.n M.r.c, .slice M.l.A M.l.n M.l.c, .slice M.p.A M.p.n M.p.c, .slice M.o.A M.o.n M.o.c, .slice M.g.A M.g.n M.g.c, .slice M.s.A M.s.n M.s.c, .slice M.m.A M.m.n M.m.c] 30))
  have HQ0 : Hid (Blk ((w.alloc (.cells #[.int .i64 ka, .int .i64 o] 113)).alloc (.cells #[.slice M.r.A M.r.n M.r.c, .slice M.l.A M.l.n M.l.c, .slice M.p.A M.p.n M.p.c, .slice M.o.A M.o.n M.o.c, .slice M.g.A M.g.n M.g.c, .slice M.s.A M.s.n M.s.c, .slice M.m.A M.m.n M.m.c] 30)) w.heap.size 113 #[.int .i64 ka, .int .i64 o]) := Lib.hid ((Blk.new _ _ _).alloc _)
  have HK0 : Hid (Blk ((w.alloc (.cells #[.int .i64 ka, .int .i64 o] 113)).alloc (.cells #[.slice M.r.A M.r.n M.r.c, .slice M.l.A M.l.n M.l.c, .slice M.p.A M.p.n M.p.c, .slice M.o.A M.o.n M.o.c, .slice M.g.A M.g.n M.g.c, .slice M.s.A M.s.n M.s.c, .slice M.m.A M.m.n M.m.c] 30)) (w.heap.size + 1) 30 #[.slice M.r.A M.r.n M.r.c, .slice M.l.A M.l.n M.l.c, .slice M.p.A M.p.n M.p.c, .slice M.o.A M.o.n M.o.c, .slice M.g.A M.g.n M.g.c, .slice M.s.A M.s.n M.s.c, .slice M.m.A M.m.n M.m.c]) := Lib.hid (by
    have := Blk.new (w.alloc (.cells #[.int .i64 ka, .int .i64 o] 113)) 30 #[.slice M.r.A M.r.n M.r.c, .slice M.l.A M.l.n M.l.c, .slice M.p.A M.p.n M.p.c, .slice M.o.A M.o.n M.o.c, .slice M.g.A M.g.n M.g.c, .slice M.s.A M.s.n M.s.c, .slice M.m.A M.m.n M.m.c]
    simpa using this)
  have HF := Lib.hid (first13_any ((w.alloc (.cells #[.int .i64 ka, .int .i64 o] 113)).alloc (.cells #[.slice M.r.A M.r.n M.r.c, .slice M.l.A M.l.n M.l.c, .slice M.p.A M.p.n M.p.c, .slice M.o.A M.o.n M.o.c, .slice M.g.A M.g.n M.g.c, .slice M.s.A M.s.n M.s.c, .slice M.m.A M.m.n M.m.c] 30)))
  have HE := Lib.hid hE
  have HL := Lib.hid hL
  have HR0 := Lib.hid (hr.next HB0.out)
  have hln := hr.len
  clear hE hL hr
  go_enter Tryz.func14, Tryz.ntmps14
  go_upto_region 1 with fail
  generalize (w.alloc (.cells #[.int .i64 ka, .int .i64 o] 113)).alloc (.cells #[.slice M.r.A M.r.n M.r.c, .slice M.l.A M.l.n M.l.c, .slice M.p.A M.p.n M.p.c, .slice M.o.A M.o.n M.o.c, .slice M.g.A M.g.n M.g.c, .slice M.s.A M.s.n M.s.c, .slice M.m.A M.m.n M.m.c] 30) = W0 at *
  go_wp2_with fail
  refine HF.out.mono ?_
  rintro e w1 ⟨rfl, hb1⟩
  have HB1 := Lib.hid (below_next HB0.out hb1)
  have HK1 := Lib.hid (HK0.out.next hb1)
  have HQ1 := Lib.hid (HQ0.out.next hb1)
  have HR1 := Lib.hid (HR0.out.next hb1)
  clear hb1 HF HR0
  have y0 : w1.cell? ⟨w.heap.size + 1, 0, none⟩ = some (.slice M.r.A M.r.n M.r.c) := HK1.out.cell 0
  have y1 : w1.cell? ⟨w.heap.size + 1, 1, none⟩ = some (.slice M.l.A M.l.n M.l.c) := HK1.out.cell 1
  have y2 : w1.cell? ⟨w.heap.size + 1, 2, none⟩ = some (.slice M.p.A M.p.n M.p.c) := HK1.out.cell 2
  have y3 : w1.cell? ⟨w.heap.size + 1, 3, none⟩ = some (.slice M.o.A M.o.n M.o.c) := HK1.out.cell 3
  have y4 : w1.cell? ⟨w.heap.size + 1, 4, none⟩ = some (.slice M.g.A M.g.n M.g.c) := HK1.out.cell 4
  have y5 : w1.cell? ⟨w.heap.size + 1, 5, none⟩ = some (.slice M.s.A M.s.n M.s.c) := HK1.out.cell 5
  have y6 : w1.cell? ⟨w.heap.size + 1, 6, none⟩ = some (.slice M.m.A M.m.n M.m.c) := HK1.out.cell 6
  have HG := Lib.hid (light_any M x 8 w1 (HL.out.next HB1.out) (by omega))
  by_cases hbig : 20 < n
  · have hd : decide ((20 : Int) < (n : Int)) = true := by simp; omega
    go_wp2
    go_ret
    exact ⟨rfl, HB1.out⟩
  have hd : decide ((20 : Int) < (n : Int)) = false := by simp; omega
  go_wp2_with fail
  refine HG.out.mono ?_
  rintro e w2 ⟨rfl, hb2⟩
  have HB2 := Lib.hid (below_next HB1.out hb2)
  have HK2 := Lib.hid (HK1.out.next hb2)
  have HQ2 := Lib.hid (HQ1.out.next hb2)
  have HR2 := Lib.hid (HR1.out.next hb2)
  clear y0 y1 y2 y3 y4 y5 y6 HG hb2 HR1
  have t1 : w2.cell? ⟨w.heap.size, 1, none⟩ = some (.int .i64 o) := HQ2.out.cell 1
  cases hlp : lightP x 8 with
  | false =>
    go_wp2
    go_ret
    exact ⟨rfl, HB2.out⟩
  | true =>
    have HOK := Lib.hid (lt_ok hlp (by omega))
    clear hlp hd
    by_cases ho1 : 1099511627776 < o
    · have hd1 : decide ((1099511627776 : Int) < o) = true := by simpa using ho1
      go_wp2
      go_ret
      exact ⟨rfl, HB2.out⟩
    by_cases ho2 : o < -1099511627776
    · have hd1 : decide ((1099511627776 : Int) < o) = false := by simpa using ho1
      have hd2 : decide (o < (-1099511627776 : Int)) = true := by simpa using ho2
      go_wp2
      go_ret
      exact ⟨rfl, HB2.out⟩
    have hd1 : decide ((1099511627776 : Int) < o) = false := by simpa using ho1
    have hd2 : decide (o < (-1099511627776 : Int)) = false := by simpa using ho2
    have HC2 := Lib.hid ((HL.out.next HB2.out).cw HOK.out)
    have HO := Lib.hid (And.intro (Int.not_lt.1 ho1) (Int.not_lt.1 ho2))
    clear HB1 HK1 HB0 HK0 HQ1 HQ0 ho1 ho2 HL
    go_wp2_with fail
    clear t1 hd1 hd2
    go_loopw [12, 13, 14] (fun bv lv iv wr => ∃ k : Nat, k ≤ n ∧ iv = .int .i64 (k : Int) ∧ bv = .int .i64 (bestI xs k) ∧ lv = .bool ((xs.take k).any (fun a => decide (a < own))) ∧ Hid (Below w2.heap.size w2 wr)) (fun _ _ iv _ => n - (intOf iv).toNat)
    case atStart => exact ⟨0, Nat.zero_le _, rfl, rfl, rfl, Lib.hid (Below.refl _ _)⟩
    case round =>
      obtain ⟨k, hk, rfl, rfl, rfl, HB⟩ := hrel
      rcases Nat.lt_or_ge k n with hlt | hge
      · obtain ⟨b, o', rfl, hbl, hx⟩ := (HR2.out.next HB.out).at_ hlt
        have hgk : xs[k]? = some (xs.getD k 0) := by rw [List.getD_eq_getElem?_getD, List.getElem?_eq_getElem (by omega)]; rfl
        have HS := Lib.hid (any_take1 (p := fun a : Int => decide (a < own)) hgk)
        have HN := Lib.hid (bestI_next xs k)
        have hi0 : (k : Int) < (n : Int) := by omega
        have hi1 : (0 : Int) ≤ (k : Int) := by omega
        generalize (xs.take k).any (fun a => decide (a < own)) = B at *
        obtain ⟨E, hE⟩ : ∃ E, decide (xs.getD k 0 < own) = E := ⟨_, rfl⟩
        rw [hE] at HS
        clear hgk
        rcases Nat.eq_zero_or_pos k with h0 | h0
        · have hb0 : bestI xs k = -1 := by rw [h0]; rfl
          have HN1 := Lib.hid (bestI_one xs h0)
          rw [hb0]
          clear HN hb0 h0
          generalize xs.getD k 0 = u at *
          have q0 : ∀ p : Snc wr, p.W.cell? ⟨b, o' + k, none⟩ = some (.int .u32 u) := fun p => (p.b.cell (p := ⟨b, o' + k, none⟩) hbl).trans hx
          cases B
          all_goals
            go_upto_region 11 with fail
            refine wp_region_since (by kernel_rfl) (by kernel_rfl) ?_
            repeat (go_big_quiet_step (first | fail))
            refine wpQuiet_nil ?_
            rintro w5 ⟨P5, rfl⟩
            have x5 := q0 P5
            have HB5 := Lib.hid (HB.out.trans (P5.b.mono HB.out.size))
            clear q0 hx HB hbl
            generalize P5.W = W5 at *
            go_wp2
            go_roundw
            case rel => exact ⟨k + 1, hlt, by go_num, by rw [HN1.out], by rw [HS.out]; rfl, HB5⟩
            case measure => simp [intOf]; omega
        · have hb0 : bestI xs k = (leastP xs k : Int) := by unfold bestI; rw [if_neg (by omega)]
          have hqk : leastP xs k < n := by have := leastP_lt xs k; omega
          rw [hb0]
          clear hb0
          generalize leastP xs k = q at *
          obtain ⟨b', o'', e1, hbl', hx'⟩ := (HR2.out.next HB.out).at_ hqk
          cases e1
          have hq0 : (0 : Int) ≤ (q : Int) := by omega
          have hq1 : (q : Int) < (n : Int) := by omega
          have hq2 : decide ((q : Int) < 0) = false := by simp
          generalize xs.getD k 0 = u at *
          generalize xs.getD q 0 = v at *
          have q0 : ∀ p : Snc wr, p.W.cell? ⟨b, o' + k, none⟩ = some (.int .u32 u) := fun p => (p.b.cell (p := ⟨b, o' + k, none⟩) hbl).trans hx
          have q1 : ∀ p : Snc wr, p.W.cell? ⟨b, o' + q, none⟩ = some (.int .u32 v) := fun p => (p.b.cell (p := ⟨b, o' + q, none⟩) hbl).trans hx'
          by_cases hd : u < v
          · have hd' : decide (u < v) = true := by simpa using hd
            rw [if_pos hd] at HN
            clear hd
            cases B
            all_goals
              go_upto_region 11 with fail
              refine wp_region_since (by kernel_rfl) (by kernel_rfl) ?_
              repeat (go_big_quiet_step (first | fail))
              refine wpQuiet_nil ?_
              rintro w5 ⟨P5, rfl⟩
              have x5 := q0 P5
              have HB5 := Lib.hid (HB.out.trans (P5.b.mono HB.out.size))
              clear q0 q1 hx hx' HB hbl hbl'
              generalize P5.W = W5 at *
              go_wp2
              go_roundw
              case rel => exact ⟨k + 1, hlt, by go_num, by rw [HN.out], by rw [HS.out]; rfl, HB5⟩
              case measure => simp [intOf]; omega
          · have hd' : decide (u < v) = false := by simpa using hd
            rw [if_neg hd] at HN
            clear hd
            cases B
            all_goals
              go_upto_region 11 with fail
              refine wp_region_since (by kernel_rfl) (by kernel_rfl) ?_
              repeat (go_big_quiet_step (first | fail))
              refine wpQuiet_nil ?_
              rintro w5 ⟨P5, rfl⟩
              have x5 := q0 P5
              have HB5 := Lib.hid (HB.out.trans (P5.b.mono HB.out.size))
              clear q0 q1 hx hx' HB hbl hbl'
              generalize P5.W = W5 at *
              go_wp2
              go_roundw
              case rel => exact ⟨k + 1, hlt, by go_num, by rw [HN.out], by rw [HS.out]; rfl, HB5⟩
              case measure => simp [intOf]; omega
      · obtain rfl : k = n := by omega
        have q1 : decide ((k : Int) < (k : Int)) = false := by simp
        have e : xs.take k = xs := List.take_of_length_le (by omega)
        rw [e]
        clear e
        have HV := Lib.hid (qstep_cases o own xs)
        generalize xs.any (fun a => decide (a < own)) = L at *
        have hob := HO.out
        have HLs := Lib.hid (least_any A k c xs wr (HR2.out.next HB.out) (by omega))
        clear hob
        go_wp2_with fail
        refine HLs.out.mono ?_
        rintro e w3 ⟨rfl, hb3⟩
        have HB3 := Lib.hid (below_next HB.out hb3)
        clear hb3 q1 HB HLs
        have HST := Lib.hid (step_any ka o own A k c xs w3 (HR2.out.next HB3.out) (by omega) (by have := HO.out; omega))
        have t0 : w3.cell? ⟨w.heap.size, 0, none⟩ = some (.int .i64 ka) := (HQ2.out.next HB3.out).cell 0
        have t1 : w3.cell? ⟨w.heap.size, 1, none⟩ = some (.int .i64 o) := (HQ2.out.next HB3.out).cell 1
        go_wp2_with fail
        refine HST.out.mono ?_
        rintro e w4 ⟨rfl, hb4⟩
        have HB4 := Lib.hid (below_next HB3.out hb4)
        clear hb4 HB3 HST t0 t1
        obtain ⟨⟨v1, v2⟩, hv⟩ : ∃ y, qstepP o own xs = y := ⟨_, rfl⟩
        rw [hv] at HV
        rw [hv]
        clear hv
        go_upto_region 17 with fail
        have HV7 : Hid (Blk ((w4.alloc (.cells #[.int .i64 v1, .int .i64 v2] 113)).alloc (.cells #[.int .i64 0, .int .i64 3] 113)) w4.heap.size 113 #[.int .i64 v1, .int .i64 v2]) := Lib.hid ((Blk.new _ _ _).alloc _)
        have HW7 : Hid (Blk ((w4.alloc (.cells #[.int .i64 v1, .int .i64 v2] 113)).alloc (.cells #[.int .i64 0, .int .i64 3] 113)) (w4.heap.size + 1) 113 #[.int .i64 0, .int .i64 3]) := Lib.hid (by
          have := Blk.new (w4.alloc (.cells #[.int .i64 v1, .int .i64 v2] 113)) 113 #[.int .i64 0, .int .i64 3]
          simpa using this)
        have HB7 := Lib.hid (((Below.refl w4.heap.size w4).alloc (Nat.le_refl _) (.cells #[.int .i64 v1, .int .i64 v2] 113)).alloc (by simp) (.cells #[.int .i64 0, .int .i64 3] 113))
        generalize (w4.alloc (.cells #[.int .i64 v1, .int .i64 v2] 113)).alloc (.cells #[.int .i64 0, .int .i64 3] 113) = W7 at *
        go_upto_if 87 with fail
        go_cut [88] from 88 to 96 (fun _s88 wc => Hid (Blk wc w4.heap.size 113 #[.int .i64 v1, .int .i64 v2]) ∧ Hid (Blk wc (w4.heap.size + 1) 113 #[.int .i64 v1, .int .i64 v2]) ∧ Hid (Below w4.heap.size w4 wc))
        case first =>
          cases L with
          | true =>
            rw [if_pos rfl] at HV
            obtain ⟨rfl, rfl⟩ : v1 = 0 ∧ v2 = 3 := by have := HV.out; simpa using this
            go_wp2_with fail
            go_meet
            case rel => exact ⟨HV7, HW7, HB7⟩
          | false =>
            rw [if_neg (by decide)] at HV
            have t1 : W7.cell? ⟨w.heap.size, 1, none⟩ = some (.int .i64 o) := (HQ2.out.next (below_next HB4.out HB7.out)).cell 1
            have z1 : W7.cell? ⟨w4.heap.size + 1, 1, none⟩ = some (.int .i64 3) := HW7.out.cell 1
            have zf : W7.frozen? ⟨w4.heap.size + 1, 1, none⟩ = false := HW7.out.frozen 1
            have zc : W7.cell? ⟨w4.heap.size + 1, 0, none⟩ = some (.int .i64 0) := HW7.out.cell 0
            have zg : W7.frozen? ⟨w4.heap.size + 1, 0, none⟩ = false := HW7.out.frozen 0
            have ho1 := HO.out.1
            have ho2 := HO.out.2
            by_cases h1 : 1 < o
            · rw [if_pos h1] at HV
              obtain ⟨rfl, rfl⟩ : v1 = 0 ∧ v2 = o - 1 := by have := HV.out; simpa using this
              have m0 : max (0 : Int) (o - 1) = o - 1 := by omega
              have m1 : (0 : Int) < o - 1 := by omega
              have m2 : ¬ (o - 1 < 0) := by omega
              have m3 : ((o - 1) == 0) = false := by simp; omega
              have HW8 := Lib.hid (HW7.out.set_to (cs' := #[.int .i64 0, .int .i64 (o - 1)]) 1 (.int .i64 (o - 1)) rfl)
              have HV8 := Lib.hid (HV7.out.far (p := ⟨w4.heap.size + 1, 1, none⟩) (by simp) (.int .i64 (o - 1)))
              have HB8 := Lib.hid (HB7.out.setCell (p := ⟨w4.heap.size + 1, 1, none⟩) (Nat.le_succ _) (.int .i64 (o - 1)))
              clear HB7 HV7 HW7
              go_wp2_with fail
              go_meet
              case rel => exact ⟨HV8, HW8, HB8⟩
            · rw [if_neg h1] at HV
              obtain ⟨rfl, rfl⟩ : v1 = 1 ∧ v2 = 0 := by have := HV.out; simpa using this
              have m0 : max (0 : Int) (o - 1) = 0 := by omega
              have m1 : ¬ ((0 : Int) < o - 1) := by omega
              have HW8 := Lib.hid ((HW7.out.set_to (cs' := #[.int .i64 0, .int .i64 0]) 1 (.int .i64 0) rfl).set_to (cs' := #[.int .i64 1, .int .i64 0]) 0 (.int .i64 1) rfl)
              have HV8 := Lib.hid ((HV7.out.far (p := ⟨w4.heap.size + 1, 1, none⟩) (by simp) (.int .i64 0)).far (p := ⟨w4.heap.size + 1, 0, none⟩) (by simp) (.int .i64 1))
              have HB8 := Lib.hid ((HB7.out.setCell (p := ⟨w4.heap.size + 1, 1, none⟩) (Nat.le_succ _) (.int .i64 0)).setCell (p := ⟨w4.heap.size + 1, 0, none⟩) (Nat.le_succ _) (.int .i64 1))
              clear HB7 HV7 HW7
              go_wp2_with fail
              go_meet
              case rel => exact ⟨HV8, HW8, HB8⟩
        case rest s88 wc =>
          obtain ⟨HV8, HW8, HBc⟩ := hcut
          have HBC := Lib.hid (below_next HB4.out HBc.out)
          clear HV HV7 HW7 HB7 HB4 HBc
          have HTT := Lib.hid (new_light ads M x wc (HE.out.below (HB2.out.trans (HBC.out.mono HB2.out.size))) (HC2.out.next HBC.out) HOK.out)
          have y0 : wc.cell? ⟨w.heap.size + 1, 0, none⟩ = some (.slice M.r.A M.r.n M.r.c) := (HK2.out.next HBC.out).cell 0
          have y1 : wc.cell? ⟨w.heap.size + 1, 1, none⟩ = some (.slice M.l.A M.l.n M.l.c) := (HK2.out.next HBC.out).cell 1
          have y2 : wc.cell? ⟨w.heap.size + 1, 2, none⟩ = some (.slice M.p.A M.p.n M.p.c) := (HK2.out.next HBC.out).cell 2
          have y3 : wc.cell? ⟨w.heap.size + 1, 3, none⟩ = some (.slice M.o.A M.o.n M.o.c) := (HK2.out.next HBC.out).cell 3
          have y4 : wc.cell? ⟨w.heap.size + 1, 4, none⟩ = some (.slice M.g.A M.g.n M.g.c) := (HK2.out.next HBC.out).cell 4
          have y5 : wc.cell? ⟨w.heap.size + 1, 5, none⟩ = some (.slice M.s.A M.s.n M.s.c) := (HK2.out.next HBC.out).cell 5
          have y6 : wc.cell? ⟨w.heap.size + 1, 6, none⟩ = some (.slice M.m.A M.m.n M.m.c) := (HK2.out.next HBC.out).cell 6
          go_wp2_with fail
          refine HTT.out.mono ?_
          rintro e w8 ⟨T, x', rfl, hT, hal, hb8⟩
          have HT := Lib.hid hT
          have HAL := Lib.hid hal
          have HBD := Lib.hid (below_next HBC.out hb8)
          have HV9 := Lib.hid (HV8.out.next hb8)
          have HW9 := Lib.hid (HW8.out.next hb8)
          have HOK' := Lib.hid (HOK.out.alike HAL.out (by rw [vcode_alike HAL.out]; exact HOK.out.v))
          clear y0 y1 y2 y3 y4 y5 y6 hT hal hb8 HTT HV8 HW8 HBC
          have hbi : bestI xs k = if k = 0 then -1 else (leastP xs k : Int) := rfl
          have HBI := Lib.hid hbi
          clear hbi
          have HDD : Hid (∃ D, decide (0 < k) = D) := Lib.hid ⟨_, rfl⟩
          obtain ⟨D, hD⟩ := HDD.out
          rw [hD]
          have HD := Lib.hid hD
          clear HDD hD
          generalize bestI xs k = bi at *
          generalize leastP xs k = q at *
          go_upto_region 22 with fail
          go_cut [135] from 102 to 135 (fun s135 wd => s135 = .bool false ∧ w8 = wd)
          case first =>
            have e0 : w8.cell? ⟨w4.heap.size, 0, none⟩ = some (.int .i64 v1) := HV9.out.cell 0
            have e1 : w8.cell? ⟨w4.heap.size, 1, none⟩ = some (.int .i64 v2) := HV9.out.cell 1
            have f0 : w8.cell? ⟨w4.heap.size + 1, 0, none⟩ = some (.int .i64 v1) := HW9.out.cell 0
            have f1 : w8.cell? ⟨w4.heap.size + 1, 1, none⟩ = some (.int .i64 v2) := HW9.out.cell 1
            have a1 : (v1 != v1) = false := by simp
            have a2 : (v2 != v2) = false := by simp
            rcases Nat.eq_zero_or_pos k with h0 | h0
            · obtain rfl : D = false := by rw [← HD.out]; simp; omega
              obtain rfl : bi = -1 := by rw [HBI.out, if_pos h0]
              clear h0
              go_wp2_with fail
              go_meet
              case rel => exact ⟨rfl, rfl⟩
            · obtain rfl : D = true := by rw [← HD.out]; simp; omega
              obtain rfl : bi = (q : Int) := by rw [HBI.out, if_neg (by omega)]
              have a3 : ((q : Int) != (q : Int)) = false := by simp
              have a4 : (0 : Int) ≤ (q : Int) := by omega
              clear h0
              go_wp2_with fail
              go_meet
              case rel => exact ⟨rfl, rfl⟩
          case rest s135 wd =>
            obtain ⟨rfl, rfl⟩ := hcut
            clear HV9 HW9 HBI
            have hq := qof_any p w8 HT.out HAL.out HOK'.out
            rw [show askP x p = (rowO x p).getD (leastP (adP x.ps (rowO x p)) (rowO x p).length) 0 from rfl, rowO_all HOK.out.po p] at hq
            have HQ := Lib.hid hq
            clear hq
            have hpl : x.ps.length ≤ 24 := HOK.out.pl
            have hpn := HC2.out.p.len
            have HON : Hid (∀ W, Below w2.heap.size w2 W → Calls Tryz.prog 27 #[.agg #[.slice M.r.A M.r.n M.r.c, .slice M.l.A M.l.n M.l.c, .slice M.p.A M.p.n M.p.c, .slice M.o.A M.o.n M.o.c, .slice M.g.A M.g.n M.g.c, .slice M.s.A M.s.n M.s.c, .slice M.m.A M.m.n M.m.c], .int .i64 p] W fun e w' => ∃ v, e = .returned v ∧ w'.ownsRow W.heap.size 3 1 v (picks (fun y => y.2.1 == p) x.ps x.ps.length).length (I64 (picks (fun y => y.2.1 == p) x.ps x.ps.length)) ∧ Below W.heap.size W w') := Lib.hid (fun W hW => by
              rw [hpn]
              exact ron_any M x p W (HC2.out.next hW))
            have HPM : Hid (∀ r ∈ picks (fun y => y.2.1 == p) x.ps x.ps.length, ∃ j : Nat, r = (j : Int) ∧ j < x.ps.length) := Lib.hid (fun r hr => by
              obtain ⟨j, h1, h2, _⟩ := picks_nat hr
              exact ⟨j, h1, h2⟩)
            have hPl := picks_le (p := fun y : Int × Int × Int => y.2.1 == p) (xs := x.ps) x.ps.length
            generalize picks (fun y => y.2.1 == p) x.ps x.ps.length = P at *
            obtain ⟨AV, hav⟩ : ∃ a, (if 0 < P.length then P.getD (leastP (adP x.ps P) P.length) 0 else 0) = a := ⟨_, rfl⟩
            obtain ⟨DV, hdv⟩ : ∃ a, decide (0 < P.length) = a := ⟨_, rfl⟩
            rw [hav, hdv] at HQ
            have HAV := Lib.hid hav
            have HDV := Lib.hid hdv
            clear hav hdv
            go_wp2_with fail
            refine HQ.out.mono ?_
            rintro e w9 ⟨rfl, hb9⟩
            have HBE := Lib.hid (below_next HBD.out hb9)
            clear hb9 HQ HBD HT HAL
            have y0 : w9.cell? ⟨w.heap.size + 1, 0, none⟩ = some (.slice M.r.A M.r.n M.r.c) := (HK2.out.next HBE.out).cell 0
            have y1 : w9.cell? ⟨w.heap.size + 1, 1, none⟩ = some (.slice M.l.A M.l.n M.l.c) := (HK2.out.next HBE.out).cell 1
            have y2 : w9.cell? ⟨w.heap.size + 1, 2, none⟩ = some (.slice M.p.A M.p.n M.p.c) := (HK2.out.next HBE.out).cell 2
            have y3 : w9.cell? ⟨w.heap.size + 1, 3, none⟩ = some (.slice M.o.A M.o.n M.o.c) := (HK2.out.next HBE.out).cell 3
            have y4 : w9.cell? ⟨w.heap.size + 1, 4, none⟩ = some (.slice M.g.A M.g.n M.g.c) := (HK2.out.next HBE.out).cell 4
            have y5 : w9.cell? ⟨w.heap.size + 1, 5, none⟩ = some (.slice M.s.A M.s.n M.s.c) := (HK2.out.next HBE.out).cell 5
            have y6 : w9.cell? ⟨w.heap.size + 1, 6, none⟩ = some (.slice M.m.A M.m.n M.m.c) := (HK2.out.next HBE.out).cell 6
            have HON9 := Lib.hid (HON.out w9 HBE.out)
            go_wp2_with fail
            refine HON9.out.mono ?_
            rintro e w10 ⟨v, rfl, hown, hb10⟩
            obtain ⟨A5, c5, rfl, hj⟩ := own_jr hown
            have HJ := Lib.hid hj
            have HBF := Lib.hid (below_next HBE.out hb10)
            clear y0 y1 y2 y3 y4 y5 y6 hown hj hb10 HON HON9 HBE
            go_wp2_with fail
            go_loopw [23, 25] (fun lv iv wr => ∃ k : Nat, k ≤ P.length ∧ iv = .int .i64 (k : Int) ∧ lv = .int .i64 (if k = 0 then -1 else P.getD (leastP (adP x.ps P) k) 0) ∧ Hid (Below w10.heap.size w10 wr)) (fun _ iv _ => P.length - (intOf iv).toNat)
            case atStart => exact ⟨0, Nat.zero_le _, rfl, rfl, Lib.hid (Below.refl _ _)⟩
            case round =>
              obtain ⟨k2, hk2, rfl, rfl, HB⟩ := hrel
              rcases Nat.lt_or_ge k2 P.length with hlt | hge
              · obtain ⟨b5, o5, rfl, hb5, hx5⟩ := (HJ.out.next HB.out).at_ hlt
                have hgk : P[k2]? = some (P.getD k2 0) := by rw [List.getD_eq_getElem?_getD, List.getElem?_eq_getElem hlt]; rfl
                obtain ⟨j, hj, hjl⟩ := HPM.out _ (List.mem_of_getElem? hgk)
                have HBW := Lib.hid (below_next HBF.out HB.out)
                obtain ⟨bq, oq, ⟨r1, l1, a1⟩, hA, hbq, hy, _, _, c2⟩ := IPort.cells (IR.next HC2.out.p HBW.out) (show j < M.p.n by omega)
                have had : (adP x.ps P).getD k2 0 = a1 := by
                  unfold adP
                  rw [List.getD_eq_getElem?_getD, List.getElem?_map, hgk, hj]
                  simp [List.getD, hy]
                have HN : Hid (leastP (adP x.ps P) (k2 + 1) = if (adP x.ps P).getD k2 0 < (adP x.ps P).getD (leastP (adP x.ps P) k2) 0 then k2 else leastP (adP x.ps P) k2) := Lib.hid rfl
                rw [had] at HN
                rw [hj] at hx5
                have HJJ := Lib.hid hj
                have hi0 : (k2 : Int) < (P.length : Int) := by omega
                have hi1 : (0 : Int) ≤ (k2 : Int) := by omega
                have hj0 : (j : Int) < (M.p.n : Int) := by omega
                have hj1 : (0 : Int) ≤ (j : Int) := by omega
                have q0 : ∀ p : Snc wr, p.W.cell? ⟨b5, o5 + k2, none⟩ = some (.int .i64 (j : Int)) := fun p => (p.b.cell (p := ⟨b5, o5 + k2, none⟩) hb5).trans hx5
                have q1 : ∀ p : Snc wr, p.W.cell? ⟨w.heap.size + 1, 2, none⟩ = some (.slice M.p.A M.p.n M.p.c) := fun p => ((HK2.out.next HBW.out).next p.b).cell 2
                have q2 : ∀ p : Snc wr, p.W.cell? ⟨bq, oq + j * 3 + 2, none⟩ = some (.int .u32 a1) := fun p => (p.b.cell (p := ⟨bq, oq + j * 3 + 2, none⟩) hbq).trans c2
                clear hgk had hy hj hbq c2 hb5
                rcases Nat.eq_zero_or_pos k2 with h0 | h0
                · rw [if_pos h0]
                  have HNN : Hid ((if k2 + 1 = 0 then -1 else P.getD (leastP (adP x.ps P) (k2 + 1)) 0) = (j : Int)) := Lib.hid (by
                    rw [if_neg (by omega), HN.out]
                    have : leastP (adP x.ps P) k2 = k2 := by rw [h0]; rfl
                    rw [this, ite_self]
                    exact HJJ.out)
                  clear h0 HN
                  rw [hA] at q1
                  clear hA
                  go_upto_region 30 with fail
                  refine wp_region_since (by kernel_rfl) (by kernel_rfl) ?_
                  repeat (go_big_quiet_step (first | fail))
                  refine wpQuiet_nil ?_
                  rintro w5 ⟨P5, rfl⟩
                  have x5 := q0 P5
                  have HB5 := Lib.hid (HB.out.trans (P5.b.mono HB.out.size))
                  clear q0 q1 q2 hx5 HB HBW
                  generalize P5.W = W5 at *
                  go_wp2
                  go_roundw
                  case rel => exact ⟨k2 + 1, hlt, by go_num, by rw [HNN.out], HB5⟩
                  case measure => simp [intOf]; omega
                · rw [if_neg (by omega)]
                  have hqk : leastP (adP x.ps P) k2 < P.length := by have := leastP_lt (adP x.ps P) k2; omega
                  have HNN : Hid ((if k2 + 1 = 0 then -1 else P.getD (leastP (adP x.ps P) (k2 + 1)) 0) = if a1 < (adP x.ps P).getD (leastP (adP x.ps P) k2) 0 then (j : Int) else P.getD (leastP (adP x.ps P) k2) 0) := Lib.hid (by
                    rw [if_neg (by omega), HN.out]
                    split
                    · exact HJJ.out
                    · rfl)
                  clear HN h0
                  generalize leastP (adP x.ps P) k2 = qq at *
                  have hgq : P[qq]? = some (P.getD qq 0) := by rw [List.getD_eq_getElem?_getD, List.getElem?_eq_getElem hqk]; rfl
                  obtain ⟨j', hj', hjl'⟩ := HPM.out _ (List.mem_of_getElem? hgq)
                  obtain ⟨bq', oq', ⟨r1', l1', a2⟩, hA', hbq', hy', _, _, c2'⟩ := IPort.cells (IR.next HC2.out.p HBW.out) (show j' < M.p.n by omega)
                  obtain ⟨rfl, rfl⟩ : bq' = bq ∧ oq' = oq := by rw [hA'] at hA; cases hA; exact ⟨rfl, rfl⟩
                  have had : (adP x.ps P).getD qq 0 = a2 := by
                    unfold adP
                    rw [List.getD_eq_getElem?_getD, List.getElem?_map, hgq, hj']
                    simp [List.getD, hy']
                  rw [had] at HNN
                  rw [hj'] at HNN ⊢
                  have hj2 : (j' : Int) < (M.p.n : Int) := by omega
                  have hj3 : (0 : Int) ≤ (j' : Int) := by omega
                  have hj4 : decide ((j' : Int) < 0) = false := by simp
                  have q3 : ∀ p : Snc wr, p.W.cell? ⟨bq', oq' + j' * 3 + 2, none⟩ = some (.int .u32 a2) := fun p => (p.b.cell (p := ⟨bq', oq' + j' * 3 + 2, none⟩) hbq').trans c2'
                  clear hgq had hy' hj' hbq' c2' hA
                  rw [hA'] at q1
                  clear hA'
                  by_cases hd : a1 < a2
                  · have hd' : decide (a1 < a2) = true := by simpa using hd
                    rw [if_pos hd] at HNN
                    clear hd
                    go_upto_region 30 with fail
                    refine wp_region_since (by kernel_rfl) (by kernel_rfl) ?_
                    repeat (go_big_quiet_step (first | fail))
                    refine wpQuiet_nil ?_
                    rintro w5 ⟨P5, rfl⟩
                    have x5 := q0 P5
                    have HB5 := Lib.hid (HB.out.trans (P5.b.mono HB.out.size))
                    clear q0 q1 q2 q3 hx5 HB HBW
                    generalize P5.W = W5 at *
                    go_wp2
                    go_roundw
                    case rel => exact ⟨k2 + 1, hlt, by go_num, by rw [HNN.out], HB5⟩
                    case measure => simp [intOf]; omega
                  · have hd' : decide (a1 < a2) = false := by simpa using hd
                    rw [if_neg hd] at HNN
                    clear hd
                    go_upto_region 30 with fail
                    refine wp_region_since (by kernel_rfl) (by kernel_rfl) ?_
                    repeat (go_big_quiet_step (first | fail))
                    refine wpQuiet_nil ?_
                    rintro w5 ⟨P5, rfl⟩
                    have HB5 := Lib.hid (HB.out.trans (P5.b.mono HB.out.size))
                    clear q0 q1 q2 q3 hx5 HB HBW
                    generalize P5.W = W5 at *
                    go_wp2
                    go_roundw
                    case rel => exact ⟨k2 + 1, hlt, by go_num, by rw [HNN.out], HB5⟩
                    case measure => simp [intOf]; omega
              · obtain rfl : k2 = P.length := by omega
                have q1 : decide ((P.length : Int) < (P.length : Int)) = false := by simp
                have hb9 := HB2.out.trans ((below_next HBF.out HB.out).mono HB2.out.size)
                have HB9 := Lib.hid hb9
                clear hb9
                rcases Nat.eq_zero_or_pos P.length with h0 | h0
                · obtain rfl : DV = false := by rw [← HDV.out, decide_eq_false_iff_not]; omega
                  rw [if_pos h0]
                  clear HAV HDV
                  go_wp2
                  go_ret
                  exact ⟨rfl, HB9.out⟩
                · obtain rfl : DV = true := by rw [← HDV.out, decide_eq_true_eq]; omega
                  have hqk : leastP (adP x.ps P) P.length < P.length := by have := leastP_lt (adP x.ps P) P.length; omega
                  rw [if_neg (by omega)]
                  rw [if_pos h0] at HAV
                  clear HDV
                  generalize leastP (adP x.ps P) P.length = qq at *
                  have hgq : P[qq]? = some (P.getD qq 0) := by rw [List.getD_eq_getElem?_getD, List.getElem?_eq_getElem hqk]; rfl
                  obtain ⟨j', hj', hjl'⟩ := HPM.out _ (List.mem_of_getElem? hgq)
                  obtain rfl : AV = (j' : Int) := by rw [← HAV.out]; exact hj'
                  rw [hj']
                  clear HAV
                  have d1 : (0 : Int) ≤ (j' : Int) := by omega
                  have d2 : ((j' : Int) == (j' : Int)) = true := by simp
                  clear hgq hj' h0
                  go_wp2
                  go_ret
                  exact ⟨rfl, HB9.out⟩
end Go.Proofs.YtbeoalmcibnpaaaGreatDoor

