/- The keys that are sent are the sources', in order; each is one of all; walked. -/
import Derived.Test.YtgicmgljllaliaaGreatDoorKy
namespace Go.Proofs.YtgicmgljllaliaaGreatDoor
open Go.RowKit Lx Sm Go.Maps
theorem keysS_nodup {l : List (Int × Int)} (h : l.Nodup) : (keysS l).length = l.length :=
  ((sortP_permK _).trans ((same_onceK h (fun _ => Iff.rfl)).symm)).length_eq
theorem scode_of {x : Cfg} (h : vcode x = 0) {i : Nat} {y : Int × Int × Int} (hy : x.ss[i]? = some y) : scode x.ls x.ps y (x.ss.take i) = 0 := by
  have hv := (v_parts h).2.2.2.2.2.1
  have := fec_all _ _ hv i (Nat.zero_le _) (by have := (List.getElem?_eq_some_iff.1 hy).1; omega)
  rw [atC_at hy] at this
  exact this
theorem sent_nodup {x : Cfg} (h : vcode x = 0) : (sentP x).Nodup := by
  unfold sentP
  rw [List.Nodup, List.pairwise_iff_getElem]
  intro i j hi hj hlt he
  rw [List.length_map] at hi hj
  rw [List.getElem_map, List.getElem_map] at he
  have hs := scode_of h (List.getElem?_eq_getElem hj)
  unfold scode at hs
  split at hs
  · cases hs
  · split at hs
    · cases hs
    · split at hs
      · cases hs
      · split at hs
        · cases hs
        · split at hs
          · cases hs
          · rename_i hn
            simp only [Prod.mk.injEq] at he
            refine hn (List.any_eq_true.2 ⟨x.ss[i], List.mem_of_getElem? (i := i) ?_, by simp [he.1, he.2]⟩)
            rw [List.getElem?_take_of_lt hlt, List.getElem?_eq_getElem hi]
theorem sent_zero {x : Cfg} (h : vcode x = 0) : decide (((0 : Int), (0 : Int)) ∈ sentP x) = false := by
  rw [decide_eq_false_iff_not]
  intro hm
  obtain ⟨y, hy, he⟩ := List.mem_map.1 hm
  obtain ⟨i, hi⟩ := List.getElem?_of_mem hy
  have hs := scode_of h hi
  simp only [Prod.mk.injEq] at he
  unfold scode at hs
  split at hs
  · cases hs
  · split at hs
    · cases hs
    · rename_i h1
      refine h1 ?_
      unfold onL
      rw [he.1]
      simp
set_option maxHeartbeats 8000000 in
set_option maxRecDepth 100000 in
theorem law_ksent (ads : List Addr) (M : Cm) (x : Cfg)  (w : World) (hE : EnvC ads w) (hL : LW w M x) :
    Calls Tryz.prog 3 #[.agg #[.slice M.r.A M.r.n M.r.c, .slice M.l.A M.l.n M.l.c, .slice M.p.A M.p.n M.p.c, .slice M.o.A M.o.n M.o.c, .slice M.g.A M.g.n M.g.c, .slice M.s.A M.s.n M.s.c, .slice M.m.A M.m.n M.m.c]] w fun e w' => e = .returned (.bool true) ∧ Below w.heap.size w w' := by
  have HB0 := Lib.hid ((Below.refl w.heap.size w).alloc (Nat.le_refl _) (.cells #[.slice M.r.A M.r.n M.r.c, .slice M.l.A M.l.n M.l.c, .slice M.p.A M.p.n M.p.c, .slice M.o.A M.o.n M.o.c, .slice M.g.A M.g.n M.g.c, .slice M.s.A M.s.n M.s.c, .slice M.m.A M.m.n M.m.c] 30))
  have HK0 : Hid (Blk (w.alloc (.cells #[.slice M.r.A M.r.n M.r.c, .slice M.l.A M.l.n M.l.c, .slice M.p.A M.p.n M.p.c, .slice M.o.A M.o.n M.o.c, .slice M.g.A M.g.n M.g.c, .slice M.s.A M.s.n M.s.c, .slice M.m.A M.m.n M.m.c] 30)) w.heap.size 30 #[.slice M.r.A M.r.n M.r.c, .slice M.l.A M.l.n M.l.c, .slice M.p.A M.p.n M.p.c, .slice M.o.A M.o.n M.o.c, .slice M.g.A M.g.n M.g.c, .slice M.s.A M.s.n M.s.c, .slice M.m.A M.m.n M.m.c]) := Lib.hid (Blk.new _ _ _)
  have HF := Lib.hid (first16_any ads _ (hE.below HB0.out))
  have HE := Lib.hid hE
  have HL := Lib.hid hL
  clear hE hL
  go_enter Tryz.func3, Tryz.ntmps3
  go_upto_region 1 with fail
  generalize w.alloc (.cells #[.slice M.r.A M.r.n M.r.c, .slice M.l.A M.l.n M.l.c, .slice M.p.A M.p.n M.p.c, .slice M.o.A M.o.n M.o.c, .slice M.g.A M.g.n M.g.c, .slice M.s.A M.s.n M.s.c, .slice M.m.A M.m.n M.m.c] 30) = W0 at *
  go_wp2_with fail
  refine HF.out.mono ?_
  rintro e w1 ⟨rfl, hb1⟩
  have HB1 := Lib.hid (below_next HB0.out hb1)
  have HK1 := Lib.hid (HK0.out.next hb1)
  have y0 : w1.cell? ⟨w.heap.size, 0, none⟩ = some (.slice M.r.A M.r.n M.r.c) := HK1.out.cell 0
  have y1 : w1.cell? ⟨w.heap.size, 1, none⟩ = some (.slice M.l.A M.l.n M.l.c) := HK1.out.cell 1
  have y2 : w1.cell? ⟨w.heap.size, 2, none⟩ = some (.slice M.p.A M.p.n M.p.c) := HK1.out.cell 2
  have y3 : w1.cell? ⟨w.heap.size, 3, none⟩ = some (.slice M.o.A M.o.n M.o.c) := HK1.out.cell 3
  have y4 : w1.cell? ⟨w.heap.size, 4, none⟩ = some (.slice M.g.A M.g.n M.g.c) := HK1.out.cell 4
  have y5 : w1.cell? ⟨w.heap.size, 5, none⟩ = some (.slice M.s.A M.s.n M.s.c) := HK1.out.cell 5
  have y6 : w1.cell? ⟨w.heap.size, 6, none⟩ = some (.slice M.m.A M.m.n M.m.c) := HK1.out.cell 6
  have HG := Lib.hid (light_any M x 8 w1 (HL.out.next HB1.out) (by omega))
  clear hb1 HF
  go_wp2_with fail
  refine HG.out.mono ?_
  rintro e w2 ⟨rfl, hb2⟩
  have HB2 := Lib.hid (below_next HB1.out hb2)
  have HK2 := Lib.hid (HK1.out.next hb2)
  clear y0 y1 y2 y3 y4 y5 y6 HG hb2
  cases hlp : lightP x 8 with
  | false =>
    go_wp2
    go_ret
    exact ⟨rfl, HB2.out⟩
  | true =>
    have HOK := Lib.hid (lt_ok hlp (by omega))
    have HRL := Lib.hid (lt_rl hlp)
    have HC2 := Lib.hid ((HL.out.next HB2.out).cw HOK.out)
    have HN := Lib.hid (new_light ads M x w2 (HE.out.below HB2.out) HC2.out HOK.out)
    have y0 : w2.cell? ⟨w.heap.size, 0, none⟩ = some (.slice M.r.A M.r.n M.r.c) := HK2.out.cell 0
    have y1 : w2.cell? ⟨w.heap.size, 1, none⟩ = some (.slice M.l.A M.l.n M.l.c) := HK2.out.cell 1
    have y2 : w2.cell? ⟨w.heap.size, 2, none⟩ = some (.slice M.p.A M.p.n M.p.c) := HK2.out.cell 2
    have y3 : w2.cell? ⟨w.heap.size, 3, none⟩ = some (.slice M.o.A M.o.n M.o.c) := HK2.out.cell 3
    have y4 : w2.cell? ⟨w.heap.size, 4, none⟩ = some (.slice M.g.A M.g.n M.g.c) := HK2.out.cell 4
    have y5 : w2.cell? ⟨w.heap.size, 5, none⟩ = some (.slice M.s.A M.s.n M.s.c) := HK2.out.cell 5
    have y6 : w2.cell? ⟨w.heap.size, 6, none⟩ = some (.slice M.m.A M.m.n M.m.c) := HK2.out.cell 6
    clear hlp HL HB1 HK1 HB0 HK0
    go_wp2_with fail
    refine HN.out.mono ?_
    rintro e w4 ⟨T, x', rfl, hT, hal, hb4⟩
    have HT := Lib.hid hT
    have HAL := Lib.hid hal
    have HB4 := Lib.hid (below_next HB2.out hb4)
    have HK4 := Lib.hid (HK2.out.next hb4)
    have HC4 := Lib.hid (HC2.out.next hb4)
    clear y0 y1 y2 y3 y4 y5 y6 HN hT hal hb4 HC2 HK2
    have qr : M.r.n ≤ 16 := by have := HC4.out.r.len; have := HOK.out.rl; omega
    have ql : M.l.n ≤ 12 := by have := HC4.out.l.len; have := HOK.out.ll; omega
    have qp : M.p.n ≤ 24 := by have := HC4.out.p.len; have := HOK.out.pl; omega
    have qo : M.o.n ≤ 30 := by have := HC4.out.o.len; have := HOK.out.ol; omega
    have qg : M.g.n ≤ 4 := by have := HC4.out.g.len; have := HOK.out.gl; omega
    have qs : M.s.n ≤ 5 := by have := HC4.out.s.len; have := HOK.out.sl; omega
    have qm : M.m.n ≤ 10 := by have := HC4.out.m.len; have := HOK.out.ml; omega
    have HOK' := Lib.hid (HOK.out.alike HAL.out (by rw [vcode_alike HAL.out]; exact HOK.out.v))
    have hgl : (groupsL (grpL x)).length ≤ 15 := Nat.le_trans (grp_len _) (by rw [grpL_len]; have := HOK.out.sl; have := HOK.out.ml; omega)
    have HGU : Hid (∀ a ∈ groupsL (grpL x), U32 a) := Lib.hid (fun a ha => grpL_u HC4.out a ((grp_mem _ _).1 ha))
    have HS := Lib.hid (sentS_any w4 HT.out HOK'.out)
    have HAk := Lib.hid (fun W (hW : Below w4.heap.size w4 W) => all_any W (HT.out.next hW) HOK'.out HGU.out (by omega))
    have HSU := Lib.hid (sentP_u HT.out)
    have hes : sentP x' = sentP x := by unfold sentP; rw [HAL.out.s]
    have HIN : Hid (∀ a ∈ sentP x, a ∈ allP x' (groupsL (grpL x))) := Lib.hid (fun a ha => by
      unfold allP
      exact List.mem_append_left _ (List.mem_append_left _ (by rw [hes]; exact ha)))
    have HLN : Hid ((keysS (sentP x)).length = M.s.n) := Lib.hid (by
      rw [keysS_nodup (sent_nodup HOK.out.v), sentP_len, HC4.out.s.len])
    have H00 : Hid (decide (((0 : Int), (0 : Int)) ∈ sentP x) = false) := Lib.hid (sent_zero HOK.out.v)
    have HKN := Lib.hid (fun q (hq : UK q) W (hW : Below w4.heap.size w4 W) => known_any q hq W (HT.out.next hW) HOK'.out)
    rw [hes] at HS HSU HKN
    have hal2 : (allP x' (groupsL (grpL x))).length ≤ 100 := by
      unfold allP
      rw [List.length_append, List.length_append, List.length_map, sentP_len]
      have h1 := asked_lens x'.ms HOK'.out.xl
      have h2 := HOK'.out.sl; have h3 := HOK'.out.ml
      omega
    have hka : (keysS (allP x' (groupsL (grpL x)))).length ≤ 100 := Nat.le_trans (keysS_len _) hal2
    have HKA := Lib.hid (keysS_mem (allP x' (groupsL (grpL x))))
    have HKS := Lib.hid (keysS_mem (sentP x))
    have HRISE := Lib.hid (keysS_rises (sentP x))
    have hks : (keysS (sentP x)).length ≤ 5 := by rw [HLN.out]; exact qs
    clear hes hal2
    generalize keysS (allP x' (groupsL (grpL x))) = ka at *
    generalize keysS (sentP x) = ks at *
    generalize allP x' (groupsL (grpL x)) = al at *
    generalize sentP x = se at *
    go_wp2_with fail
    refine HS.out.mono ?_
    rintro e w6 ⟨A6, c6, rfl, hr6, hb6⟩
    have HR6 := Lib.hid hr6
    have HB6 := Lib.hid hb6
    clear hr6 hb6 HS
    go_wp2_with fail
    refine (HAk.out _ HB6.out).mono ?_
    rintro e w7 ⟨A7, c7, rfl, hr7, hb7⟩
    have HR7 := Lib.hid hr7
    have HR6b := Lib.hid (HR6.out.next hb7)
    have HB7 := Lib.hid (below_next HB6.out hb7)
    clear hr7 hb7 HAk HR6 HB6
    generalize hmm : ks.length = m at *
    generalize hnn : ka.length = n at *
    go_wp2_with fail
    go_loopw [8] (fun iv wr => ∃ i : Nat, i ≤ m ∧ iv = .int .i64 i ∧ Hid (Below w7.heap.size w7 wr)) (fun iv _ => m - (intOf iv).toNat)
    case atStart => exact ⟨0, Nat.zero_le _, rfl, Lib.hid (Below.refl _ _)⟩
    case round =>
      obtain ⟨i, hi, rfl, HB⟩ := hrel
      rcases Nat.lt_or_ge i m with hlt | hge
      · obtain ⟨bx, ox, y, rfl, hx, _⟩ := key_cells (HR6b.out.next HB.out) hlt
        have HX := Lib.hid hx
        have hi0 : (i : Int) < (m : Int) := by omega
        have hi1 : (0 : Int) ≤ (i : Int) := by omega
        clear hx
        go_wp2_with fail
        go_loopw [9, 10] (fun sv kv wr => ∃ (k : Nat) (B : Bool), k ≤ n ∧ kv = .int .i64 k ∧ sv = .bool B ∧ Hid (B = (ka.take k).any (fun z => (z.1 == y.1) && (z.2 == y.2))) ∧ Hid (Below w7.heap.size w7 wr)) (fun _ kv _ => n - (intOf kv).toNat)
        case atStart => exact ⟨0, false, Nat.zero_le _, rfl, rfl, Lib.hid rfl, HB⟩
        case round =>
          clear HB
          obtain ⟨k, B, hk, rfl, rfl, HV, HB⟩ := hrel
          obtain ⟨bx', ox', y', hA', hx', hy⟩ := key_cells (HR6b.out.next HB.out) hlt
          cases hA'
          obtain rfl : y = y' := Option.some.inj (HX.out.symm.trans hx')
          clear hx'
          have q0 := fun p => (hy p).1
          have q1 := fun p => (hy p).2
          clear hy
          rcases Nat.lt_or_ge k n with hlk | hgk
          · obtain ⟨bl, ol, z, rfl, hz, hzc⟩ := key_cells (HR7.out.next HB.out) hlk
            have q2 := fun p => (hzc p).1
            have q3 := fun p => (hzc p).2
            have hk0 : (k : Int) < (n : Int) := by omega
            have hk1 : (0 : Int) ≤ (k : Int) := by omega
            have HV2 := Lib.hid (any_take1 (p := fun z : Int × Int => (z.1 == y.1) && (z.2 == y.2)) hz)
            rw [← HV.out] at HV2
            have G1 : ∀ p : Snc wr, Calls Tryz.prog 12 #[.agg #[.int .u32 z.1, .int .u32 z.2], .agg #[.int .u32 y.1, .int .u32 y.2]] p.W fun e w' => e = .returned (.bool ((z.1 == y.1) && (z.2 == y.2))) ∧ ∃ Q : Snc wr, w' = Q.W := fun p => Calls.since (skeyV z y rfl p.W)
            generalize ((z.1 == y.1) && (z.2 == y.2)) = S at *
            clear hzc hz
            cases B with
            | true =>
              go_upto_region 18 with fail
              refine wp_region_since (by kernel_rfl) (by kernel_rfl) ?_
              repeat (go_big_quiet_step (first | (go_at_call 12; first | (with_reducible exact G1 _))))
              refine wpQuiet_nil ?_
              rintro w5 ⟨P5, rfl⟩
              have HB5 := Lib.hid (HB.out.trans (P5.b.mono HB.out.size))
              clear q0 q1 q2 q3 G1 HB
              generalize P5.W = W5 at *
              go_wp2
              go_roundw
              case rel => exact ⟨k + 1, true, hlk, by go_num, rfl, Lib.hid (by have := HV2.out; simpa using this.symm), HB5⟩
              case measure => simp [intOf]; omega
            | false =>
              go_upto_region 18 with fail
              refine wp_region_since (by kernel_rfl) (by kernel_rfl) ?_
              repeat (go_big_quiet_step (first | (go_at_call 12; first | (with_reducible exact G1 _))))
              refine wpQuiet_nil ?_
              rintro w5 ⟨P5, rfl⟩
              have HB5 := Lib.hid (HB.out.trans (P5.b.mono HB.out.size))
              clear q0 q1 q2 q3 G1 HB
              generalize P5.W = W5 at *
              go_wp2
              go_roundw
              case rel => exact ⟨k + 1, S, hlk, by go_num, rfl, Lib.hid (by have := HV2.out; simpa using this.symm), HB5⟩
              case measure => simp [intOf]; omega
          · obtain rfl : k = n := by omega
            have hd : decide ((k : Int) < (k : Int)) = false := by simp
            have hys : y ∈ se := (HKS.out y).1 (List.mem_of_getElem? HX.out)
            obtain rfl : B = true := by
              rw [HV.out, any_full hnn, List.any_eq_true]
              exact ⟨y, (HKA.out y).2 (HIN.out y hys), by simp⟩
            have G1 : ∀ p : Snc wr, Calls Tryz.prog 13 #[.pointer (some ⟨T.N, 0, none⟩), .agg #[.int .u32 y.1, .int .u32 y.2]] p.W fun e w' => e = .returned (.bool true) ∧ ∃ Q : Snc wr, w' = Q.W := fun p => by
              have := HKN.out y (HSU.out y hys) p.W (below_next (below_next HB7.out HB.out) p.b)
              rw [decide_eq_true hys] at this
              exact Calls.since this
            rcases Nat.eq_zero_or_pos i with hz | hp
            · have hg : decide (0 < i) = false := by simp; omega
              have hg' : decide ((0 : Int) < (i : Int)) = false := by simp; omega
              clear hz hys
              go_upto_region 19 with fail
              refine wp_region_since (by kernel_rfl) (by kernel_rfl) ?_
              repeat (go_big_quiet_step (first | (go_at_call 13; first | (with_reducible exact G1 _))))
              refine wpQuiet_nil ?_
              rintro w5 ⟨P5, rfl⟩
              have HB5 := Lib.hid (HB.out.trans (P5.b.mono HB.out.size))
              clear q0 q1 G1 HB hd
              generalize P5.W = W5 at *
              go_wp2_with fail
              go_roundw
              case rel => exact ⟨i + 1, hlt, by go_num, HB5⟩
              case measure => simp [intOf]; omega
            · obtain ⟨ip, hip, hip2⟩ := pred_up hp
              obtain ⟨bx2, ox2, u, hA2, hu, huc⟩ := key_cells (HR6b.out.next HB.out) (show ip < m by omega)
              cases hA2
              have q2 := fun p => (huc p).1
              have q3 := fun p => (huc p).2
              have hless : decide (ltPK u y) = true := by
                rw [decide_eq_true_eq]
                have := List.pairwise_iff_getElem.1 HRISE.out ip i (by omega) (by omega) (by omega)
                rw [(List.getElem?_eq_some_iff.1 hu).2, (List.getElem?_eq_some_iff.1 HX.out).2] at this
                exact this
              have G2 : ∀ p : Snc wr, Calls Tryz.prog 14 #[.agg #[.int .u32 u.1, .int .u32 u.2], .agg #[.int .u32 y.1, .int .u32 y.2]] p.W fun e w' => e = .returned (.bool true) ∧ ∃ Q : Snc wr, w' = Q.W := fun p => Calls.since (klessV u y hless p.W)
              have hg : decide (0 < i) = true := by simp; omega
              have hg' : decide ((0 : Int) < (i : Int)) = true := by simp; omega
              have hip0 : (ip : Int) < (m : Int) := by omega
              have hip1 : (0 : Int) ≤ (ip : Int) := by omega
              clear huc hu hless hip2 hp hys
              go_upto_region 19 with fail
              refine wp_region_since (by kernel_rfl) (by kernel_rfl) ?_
              repeat (go_big_quiet_step (first | (go_at_call 13; first | (with_reducible exact G1 _)) | (go_at_call 14; first | (with_reducible exact G2 _))))
              refine wpQuiet_nil ?_
              rintro w5 ⟨P5, rfl⟩
              have HB5 := Lib.hid (HB.out.trans (P5.b.mono HB.out.size))
              clear q0 q1 q2 q3 G1 G2 HB hip hd
              generalize P5.W = W5 at *
              go_wp2_with fail
              go_roundw
              case rel => exact ⟨i + 1, hlt, by go_num, HB5⟩
              case measure => simp [intOf]; omega
      · obtain rfl : i = m := by omega
        have hd : decide ((i : Int) < (i : Int)) = false := by simp
        have hmi : i = M.s.n := HLN.out
        have y5 : wr.cell? ⟨w.heap.size, 5, none⟩ = some (.slice M.s.A M.s.n M.s.c) := (HK4.out.next (below_next HB7.out HB.out)).cell 5
        have hee : ((i : Int) == (M.s.n : Int)) = true := by simp; omega
        have HK0' := Lib.hid (HKN.out (0, 0) ⟨⟨by omega, by omega⟩, ⟨by omega, by omega⟩⟩ wr (below_next HB7.out HB.out))
        rw [H00.out] at HK0'
        clear hmi
        go_wp2_with (go_at_call 13; refine HK0'.out.mono ?_; rintro e w9 ⟨rfl, hb9⟩; have HB9 := Lib.hid (below_next (below_next HB7.out HB.out) hb9); clear hb9)
        go_ret
        exact ⟨rfl, HB4.out.trans (HB9.out.mono HB4.out.size)⟩
end Go.Proofs.YtgicmgljllaliaaGreatDoor

