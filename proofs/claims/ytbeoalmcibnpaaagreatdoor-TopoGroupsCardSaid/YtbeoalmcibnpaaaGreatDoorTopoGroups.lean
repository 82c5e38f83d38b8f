/- The groups of a network rise, each once: just those that a source sends to, or a member listens to; a link's members are on it; walked. -/
import Derived.Test.YtbeoalmcibnpaaaGreatDoorTn
import Derived.Test.YtbeoalmcibnpaaaGreatDoorUn
import Derived.Deep.Cut
namespace Go.Proofs.YtbeoalmcibnpaaaGreatDoor
open Go.RowKit Lx Sm Go.Maps
set_option maxHeartbeats 8000000 in
set_option maxRecDepth 100000 in
theorem law_groups (ads : List Addr) (M : Cm) (x : Cfg) (g : Int) (w : World) (hE : EnvC ads w) (hL : LW w M x) :
    Calls Tryz.prog 3 #[.agg #[.slice M.r.A M.r.n M.r.c, .slice M.l.A M.l.n M.l.c, .slice M.p.A M.p.n M.p.c, .slice M.o.A M.o.n M.o.c, .slice M.g.A M.g.n M.g.c, .slice M.s.A M.s.n M.s.c, .slice M.m.A M.m.n M.m.c], .int .u32 g] w fun e w' => e = .returned (.bool true) ∧ Below w.heap.size w w' := by
  have HB0 := Lib.hid ((Below.refl w.heap.size w).alloc (Nat.le_refl _) (.cells #[.slice M.r.A M.r.n M.r.c, .slice M.l.A M.l.n M.l.c, .slice M.p.A M.p.n M.p.c, .slice M.o.A M.o.n M.o.c, .slice M.g.A M.g.n M.g.c, .slice M.s.A M.s.n M.s.c, .slice M.m.A M.m.n M.m.c] 30))
  have HK0 : Hid (Blk (w.alloc (.cells #[.slice M.r.A M.r.n M.r.c, .slice M.l.A M.l.n M.l.c, .slice M.p.A M.p.n M.p.c, .slice M.o.A M.o.n M.o.c, .slice M.g.A M.g.n M.g.c, .slice M.s.A M.s.n M.s.c, .slice M.m.A M.m.n M.m.c] 30)) w.heap.size 30 #[.slice M.r.A M.r.n M.r.c, .slice M.l.A M.l.n M.l.c, .slice M.p.A M.p.n M.p.c, .slice M.o.A M.o.n M.o.c, .slice M.g.A M.g.n M.g.c, .slice M.s.A M.s.n M.s.c, .slice M.m.A M.m.n M.m.c]) := Lib.hid (Blk.new _ _ _)
  have HF := Lib.hid (first8_any ads _ (hE.below HB0.out))
  have HE := Lib.hid hE
  have HL := Lib.hid hL
  clear hE hL
  go_enter Tryz.func3, Tryz.ntmps3
  go_upto_region 1 with fail
  generalize w.alloc (.cells #[.slice M.r.A M.r.n M.r.c, .slice M.l.A M.l.n M.l.c, .slice M.p.A M.p.n M.p.c, .slice M.o.A M.o.n M.o.c, .slice M.g.A M.g.n M.g.c, .slice M.s.A M.s.n M.s.c, .slice M.m.A M.m.n M.m.c] 30) = W0 at *
  go_wp2_with fail
  refine HF.out.mono ?_
  rintro e w1 ⟨rfl, hb1⟩
  have HB1 := Lib.hid (below_next HB0.out hb1)
  have HK1 := Lib.hid (HK0.out.next hb1)
  have y0 : w1.cell? ⟨w.heap.size, 0, none⟩ = some (.slice M.r.A M.r.n M.r.c) := HK1.out.cell 0
  have y1 : w1.cell? ⟨w.heap.size, 1, none⟩ = some (.slice M.l.A M.l.n M.l.c) := HK1.out.cell 1
  have y2 : w1.cell? ⟨w.heap.size, 2, none⟩ = some (.slice M.p.A M.p.n M.p.c) := HK1.out.cell 2
  have y3 : w1.cell? ⟨w.heap.size, 3, none⟩ = some (.slice M.o.A M.o.n M.o.c) := HK1.out.cell 3
  have y4 : w1.cell? ⟨w.heap.size, 4, none⟩ = some (.slice M.g.A M.g.n M.g.c) := HK1.out.cell 4
  have y5 : w1.cell? ⟨w.heap.size, 5, none⟩ = some (.slice M.s.A M.s.n M.s.c) := HK1.out.cell 5
  have y6 : w1.cell? ⟨w.heap.size, 6, none⟩ = some (.slice M.m.A M.m.n M.m.c) := HK1.out.cell 6
  have HG := Lib.hid (light_any M x 8 w1 (HL.out.next HB1.out) (by omega))
  clear hb1 HF
  go_wp2_with fail
  refine HG.out.mono ?_
  rintro e w2 ⟨rfl, hb2⟩
  have HB2 := Lib.hid (below_next HB1.out hb2)
  have HK2 := Lib.hid (HK1.out.next hb2)
  clear y0 y1 y2 y3 y4 y5 y6 HG hb2
  cases hlp : lightP x 8 with
  | false =>
    go_wp2
    go_ret
    exact ⟨rfl, HB2.out⟩
  | true =>
    have HOK := Lib.hid (lt_ok hlp (by omega))
    have HRL := Lib.hid (lt_rl hlp)
    have HC2 := Lib.hid ((HL.out.next HB2.out).cw HOK.out)
    have HN := Lib.hid (new_light ads M x w2 (HE.out.below HB2.out) HC2.out HOK.out)
    have y0 : w2.cell? ⟨w.heap.size, 0, none⟩ = some (.slice M.r.A M.r.n M.r.c) := HK2.out.cell 0
    have y1 : w2.cell? ⟨w.heap.size, 1, none⟩ = some (.slice M.l.A M.l.n M.l.c) := HK2.out.cell 1
    have y2 : w2.cell? ⟨w.heap.size, 2, none⟩ = some (.slice M.p.A M.p.n M.p.c) := HK2.out.cell 2
    have y3 : w2.cell? ⟨w.heap.size, 3, none⟩ = some (.slice M.o.A M.o.n M.o.c) := HK2.out.cell 3
    have y4 : w2.cell? ⟨w.heap.size, 4, none⟩ = some (.slice M.g.A M.g.n M.g.c) := HK2.out.cell 4
    have y5 : w2.cell? ⟨w.heap.size, 5, none⟩ = some (.slice M.s.A M.s.n M.s.c) := HK2.out.cell 5
    have y6 : w2.cell? ⟨w.heap.size, 6, none⟩ = some (.slice M.m.A M.m.n M.m.c) := HK2.out.cell 6
    clear hlp HL HB1 HK1 HB0 HK0
    go_wp2_with fail
    refine HN.out.mono ?_
    rintro e w4 ⟨T, x', rfl, hT, hal, hb4⟩
    have HT := Lib.hid hT
    have HAL := Lib.hid hal
    have HB4 := Lib.hid (below_next HB2.out hb4)
    have HK4 := Lib.hid (HK2.out.next hb4)
    have HC4 := Lib.hid (HC2.out.next hb4)
    clear y0 y1 y2 y3 y4 y5 y6 HN hT hal hb4 HC2 HK2
    have qr : M.r.n ≤ 16 := by have := HC4.out.r.len; have := HOK.out.rl; omega
    have ql : M.l.n ≤ 12 := by have := HC4.out.l.len; have := HOK.out.ll; omega
    have qp : M.p.n ≤ 24 := by have := HC4.out.p.len; have := HOK.out.pl; omega
    have qo : M.o.n ≤ 30 := by have := HC4.out.o.len; have := HOK.out.ol; omega
    have qg : M.g.n ≤ 4 := by have := HC4.out.g.len; have := HOK.out.gl; omega
    have qs : M.s.n ≤ 5 := by have := HC4.out.s.len; have := HOK.out.sl; omega
    have qm : M.m.n ≤ 10 := by have := HC4.out.m.len; have := HOK.out.ml; omega
    go_wp2_with fail
    go_loopw [8, 9] (fun sv iv wr => ∃ (k : Nat) (B : Bool), k ≤ M.s.n ∧ iv = .int .i64 k ∧ sv = .bool B ∧ Hid (B = (x.ss.take k).any (fun y => y.2.2 == g)) ∧ Hid (Below w4.heap.size w4 wr)) (fun _ iv _ => M.s.n - (intOf iv).toNat)
    case atStart => exact ⟨0, false, Nat.zero_le _, rfl, rfl, Lib.hid rfl, Lib.hid (Below.refl _ _)⟩
    case round =>
      obtain ⟨k, B, hk, rfl, rfl, HV, HB⟩ := hrel
      have y5 : wr.cell? ⟨w.heap.size, 5, none⟩ = some (.slice M.s.A M.s.n M.s.c) := (HK4.out.next HB.out).cell 5
      rcases Nat.lt_or_ge k M.s.n with hlt | hge
      · obtain ⟨bq, oq, ⟨l1, s1, g1⟩, hA, _, hx, c0, c1, c2⟩ := ISource.cells (IR.next HC4.out.s HB.out) hlt
        have hi0 : (k : Int) < (M.s.n : Int) := by omega
        have hi1 : (0 : Int) ≤ (k : Int) := by omega
        have HV2 : Hid ((B || (g1 == g)) = (x.ss.take (k + 1)).any (fun y => y.2.2 == g)) := Lib.hid (by rw [any_take1 hx, ← HV.out])
        rw [hA] at y5
        clear hA hx
        cases B with
        | true =>
          go_wp2
          go_roundw
          case rel => exact ⟨k + 1, true, hlt, by go_num, rfl, Lib.hid (by have := HV2.out; simpa using this), HB⟩
          case measure => simp [intOf]; omega
        | false =>
          go_wp2
          go_roundw
          case rel => exact ⟨k + 1, _, hlt, by go_num, rfl, Lib.hid (by have := HV2.out; simpa using this), HB⟩
          case measure => simp [intOf]; omega
      · obtain rfl : k = M.s.n := by omega
        have hd : decide ((M.s.n : Int) < (M.s.n : Int)) = false := by simp
        have HV2 : Hid (B = x.ss.any (fun y => y.2.2 == g)) := Lib.hid (by rw [HV.out, any_full HC4.out.s.len])
        go_wp2_with fail
        clear y5
        go_loopw [8, 11] (fun sv iv wr => ∃ (k : Nat) (B : Bool), k ≤ M.m.n ∧ iv = .int .i64 k ∧ sv = .bool B ∧ Hid (B = (x.ss.any (fun y => y.2.2 == g) || (x.ms.take k).any (fun y => y.g == g))) ∧ Hid (Below w4.heap.size w4 wr)) (fun _ iv _ => M.m.n - (intOf iv).toNat)
        case atStart => exact ⟨0, B, Nat.zero_le _, rfl, rfl, Lib.hid (by rw [HV2.out]; simp), HB⟩
        case round =>
          clear HV HV2 HB hk hge hd
          obtain ⟨k, B, hk, rfl, rfl, HV, HB⟩ := hrel
          have y6 : wr.cell? ⟨w.heap.size, 6, none⟩ = some (.slice M.m.A M.m.n M.m.c) := (HK4.out.next HB.out).cell 6
          rcases Nat.lt_or_ge k M.m.n with hlt | hge
          · obtain ⟨bq, oq, ⟨l1, g1, o1, A1, n1, c1', ys1⟩, hA, _, hx, c0, c1, c2, c3⟩ := IMember.cells (IR.next HC4.out.m HB.out) hlt
            have hi0 : (k : Int) < (M.m.n : Int) := by omega
            have hi1 : (0 : Int) ≤ (k : Int) := by omega
            have HV2 : Hid ((B || (g1 == g)) = (x.ss.any (fun y => y.2.2 == g) || (x.ms.take (k + 1)).any (fun y => y.g == g))) := Lib.hid (by rw [any_take1 hx, ← Bool.or_assoc, ← HV.out])
            have hmo := HOK.out.mo _ (List.mem_of_getElem? hx)
            have HM := Lib.hid (members_al l1 wr (HT.out.next HB.out) HAL.out)
            have HRC : Hid ((rowM x l1).contains (k : Int) = true) := Lib.hid (by
              rw [List.contains_iff_mem, rowM_at hmo.1 hmo.2, picks_get]
              exact ⟨(List.getElem?_eq_some_iff.1 hx).1, _, hx, by simp⟩)
            have hrl : (rowM x l1).length ≤ 10 := Nat.le_trans (rowM_le x l1) HOK.out.ml
            rw [hA] at y6
            clear hA hx hmo
            generalize rowM x l1 = R at *
            cases B with
            | true =>
              go_wp2_with (first
                | (go_at_call 19; refine HM.out.mono ?_; rintro e w5 ⟨A5, c5, rfl, hj, hb5⟩; have HJ := Lib.hid hj; have HB5 := Lib.hid (HB.out.trans (hb5.mono HB.out.size)); clear hj hb5)
                | (go_at_call 18; refine (among_any A5 _ c5 R (k : Int) w5 HJ.out (by omega)).mono ?_; rintro e w6 ⟨rfl, hb6⟩; rw [HRC.out]; have HB6 := Lib.hid (HB5.out.trans (hb6.mono HB5.out.size)); clear hb6))
              go_roundw
              case rel => exact ⟨k + 1, true, hlt, by go_num, rfl, Lib.hid (by have := HV2.out; simpa using this), HB6⟩
              case measure => simp [intOf]; omega
            | false =>
              go_wp2_with (first
                | (go_at_call 19; refine HM.out.mono ?_; rintro e w5 ⟨A5, c5, rfl, hj, hb5⟩; have HJ := Lib.hid hj; have HB5 := Lib.hid (HB.out.trans (hb5.mono HB.out.size)); clear hj hb5)
                | (go_at_call 18; refine (among_any A5 _ c5 R (k : Int) w5 HJ.out (by omega)).mono ?_; rintro e w6 ⟨rfl, hb6⟩; rw [HRC.out]; have HB6 := Lib.hid (HB5.out.trans (hb6.mono HB5.out.size)); clear hb6))
              go_roundw
              case rel => exact ⟨k + 1, _, hlt, by go_num, rfl, Lib.hid (by have := HV2.out; simpa using this), HB6⟩
              case measure => simp [intOf]; omega
          · obtain rfl : k = M.m.n := by omega
            have hd : decide ((M.m.n : Int) < (M.m.n : Int)) = false := by simp
            have HV2 : Hid (B = (groupsL (grpL x)).contains g) := Lib.hid (by rw [HV.out, any_full HC4.out.m.len, grp_has])
            go_wp2_with fail
            clear y6
            go_loopw [10, 12] (fun nv iv wr => ∃ (k : Nat), k ≤ M.l.n ∧ iv = .int .i64 k ∧ nv = .int .i64 (sumN (fun i => (rowM x (i : Int)).length) k : Nat) ∧ Hid (Below w4.heap.size w4 wr)) (fun _ iv _ => M.l.n - (intOf iv).toNat)
            case atStart => exact ⟨0, Nat.zero_le _, rfl, rfl, HB⟩
            case round =>
              clear HV HB hk hge hd
              obtain ⟨k, hk, rfl, rfl, HB⟩ := hrel
              have y1 : wr.cell? ⟨w.heap.size, 1, none⟩ = some (.slice M.l.A M.l.n M.l.c) := (HK4.out.next HB.out).cell 1
              have y6 : wr.cell? ⟨w.heap.size, 6, none⟩ = some (.slice M.m.A M.m.n M.m.c) := (HK4.out.next HB.out).cell 6
              have hll := HC4.out.l.len
              have hl12 : M.l.n ≤ 12 := by have := HOK.out.ll; omega
              have hsum : sumN (fun i => (rowM x (i : Int)).length) k ≤ k * 10 := sumN_le _ 10 (fun i => Nat.le_trans (rowM_le x _) HOK.out.ml) k
              rcases Nat.lt_or_ge k M.l.n with hlt | hge
              · have hi0 : (k : Int) < (M.l.n : Int) := by omega
                have HM := Lib.hid (members_al (k : Int) wr (HT.out.next HB.out) HAL.out)
                have hrl : (rowM x (k : Int)).length ≤ 10 := Nat.le_trans (rowM_le x _) HOK.out.ml
                have HS : Hid (sumN (fun i => (rowM x (i : Int)).length) (k + 1) = sumN (fun i => (rowM x (i : Int)).length) k + (rowM x (k : Int)).length) := Lib.hid rfl
                generalize sumN (fun i => (rowM x (i : Int)).length) k = S0 at *
                generalize rowM x (k : Int) = R at *
                generalize hrn : R.length = rn at *
                go_wp2_with (go_at_call 19; refine HM.out.mono ?_; rintro e w5 ⟨A5, c5, rfl, hj, hb5⟩; have HB5 := Lib.hid (HB.out.trans (hb5.mono HB.out.size)); clear hj hb5)
                go_roundw
                case rel => exact ⟨k + 1, hlt, by go_num, by rw [HS.out]; go_num, HB5⟩
                case measure => simp [intOf]; omega
              · obtain rfl : k = M.l.n := by omega
                have hd : decide ((M.l.n : Int) < (M.l.n : Int)) = false := by simp
                have hsm : sumN (fun i => (rowM x (i : Int)).length) M.l.n = M.m.n := by rw [← hll, rowM_sum HOK.out.mo, HC4.out.m.len]
                rw [hsm]
                have HGR := Lib.hid (tgroups_any (Nat.le_trans (grp_len _) (by rw [grpL_len]; have := HOK.out.sl; have := HOK.out.ml; omega)) wr (HT.out.next HB.out))
                have HLT := Lib.hid (grp_lt (grpL x))
                have HU : Hid (∀ a ∈ groupsL (grpL x), U32 a) := Lib.hid (fun a ha => grpL_u HC4.out a ((grp_mem _ _).1 ha))
                have hgl : (groupsL (grpL x)).length ≤ 15 := Nat.le_trans (grp_len _) (by rw [grpL_len]; have := HOK.out.sl; have := HOK.out.ml; omega)
                generalize groupsL (grpL x) = G at *
                clear hsm hsum
                go_wp2_with (go_at_call 20; refine HGR.out.mono ?_; rintro e w5 ⟨A5, c5, rfl, hj, hb5⟩; have HJ := Lib.hid hj; have HB5 := Lib.hid (HB.out.trans (hb5.mono HB.out.size)); clear hj hb5)
                clear hd y1
                go_loopw [14] (fun iv wr => ∃ (k : Nat), (k ≤ G.length ∨ k = 1) ∧ 1 ≤ k ∧ iv = .int .i64 k ∧ Hid (Below w5.heap.size w5 wr)) (fun iv _ => G.length + 1 - (intOf iv).toNat)
                case atStart => exact ⟨1, Or.inr rfl, Nat.le_refl _, rfl, Lib.hid (Below.refl _ _)⟩
                case round =>
                  obtain ⟨k, hk, hk1, rfl, HBr⟩ := hrel
                  rcases Nat.lt_or_ge k G.length with hlt | hge
                  · have HJr := Lib.hid (IR.next HJ.out HBr.out)
                    obtain ⟨b1, o1, u, hA, hbl, hx, hc⟩ := HJr.out.at_ hlt
                    obtain ⟨kp, hkp, hkp2⟩ := pred_up (show 0 < k by omega)
                    obtain ⟨b2, o2, v, hA2, _, hx2, hc2⟩ := HJr.out.at_ (show kp < G.length by omega)
                    rw [hA] at hA2
                    cases hA2
                    have e1 : wr.cell? ⟨b1, o1 + k, none⟩ = some (.int .u32 u) := by have := hc 0 _ rfl; simpa using this
                    have e2 : wr.cell? ⟨b1, o1 + kp, none⟩ = some (.int .u32 v) := by have := hc2 0 _ rfl; simpa using this
                    have hlv : decide (u ≤ v) = false := by
                      have := List.pairwise_iff_getElem.1 HLT.out kp k (by omega) hlt (by omega)
                      rw [(List.getElem?_eq_some_iff.1 hx).2, (List.getElem?_eq_some_iff.1 hx2).2] at this
                      simp; omega
                    have hi0 : (k : Int) < (G.length : Int) := by omega
                    have hi1 : (0 : Int) ≤ (k : Int) := by omega
                    have hi3 : (0 : Int) ≤ (kp : Int) := by omega
                    have hi2 : (kp : Int) < (G.length : Int) := by omega
                    subst hA
                    clear hc hc2 hx hx2 HJr
                    go_upto_region 29 with fail
                    refine wp_region_since (by kernel_rfl) (by kernel_rfl) ?_
                    have E1 : ∀ p : Snc wr, p.W.cell? ⟨b1, o1 + k, none⟩ = some (.int .u32 u) := fun p => (p.b.cell (p := ⟨b1, o1 + k, none⟩) hbl).trans e1
                    have E2 : ∀ p : Snc wr, p.W.cell? ⟨b1, o1 + kp, none⟩ = some (.int .u32 v) := fun p => (p.b.cell (p := ⟨b1, o1 + kp, none⟩) hbl).trans e2
                    repeat (go_big_quiet_step (fail))
                    refine wpQuiet_nil ?_
                    rintro w6 ⟨P6, rfl⟩
                    have HB6 := Lib.hid (HBr.out.trans (P6.b.mono HBr.out.size))
                    clear e1 e2 E1 E2 hbl
                    generalize P6.W = W6 at *
                    go_wp2
                    go_roundw
                    case rel => exact ⟨k + 1, Or.inl hlt, by omega, by go_num, HB6⟩
                    case measure => simp [intOf]; omega
                  · have hi0 : ¬ ((k : Int) < (G.length : Int)) := by omega
                    have hi1 : decide ((k : Int) < (G.length : Int)) = false := by simp; omega
                    have HB6 := Lib.hid (HB5.out.trans (HBr.out.mono HB5.out.size))
                    have HHS := Lib.hid (dhas_any A5 G.length c5 G g wr (AR.of_ir (IR.next HJ.out HBr.out) HU.out) (by omega))
                    have z6 : wr.cell? ⟨w.heap.size, 6, none⟩ = some (.slice M.m.A M.m.n M.m.c) := (HK4.out.next HB6.out).cell 6
                    have hbb : (B == B) = true := by simp
                    have hnn : ((M.m.n : Int) == (M.m.n : Int)) = true := by simp
                    clear y6
                    go_wp2_with (go_at_call 21; refine HHS.out.mono ?_; rintro e w7 ⟨rfl, hb7⟩; rw [← HV2.out]; have HB7 := Lib.hid (HB6.out.trans (hb7.mono HB6.out.size)); have u6 := (HK4.out.next HB7.out).cell 6; simp at u6; clear hb7)
                    go_ret
                    exact ⟨rfl, HB4.out.trans (HB7.out.mono HB4.out.size)⟩
end Go.Proofs.YtbeoalmcibnpaaaGreatDoor

