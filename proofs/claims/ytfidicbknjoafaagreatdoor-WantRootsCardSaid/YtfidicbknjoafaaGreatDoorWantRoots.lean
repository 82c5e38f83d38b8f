/- On a line with sources behind it the root's rows are as the chapter says: one for the group, one for each source; walked. -/
import Derived.Test.YtfidicbknjoafaaGreatDoorYn
namespace Go.Proofs.YtfidicbknjoafaaGreatDoor
open Go.RowKit Lx Sm Go.Maps
set_option maxHeartbeats 8000000 in
set_option maxRecDepth 100000 in
theorem law_wroots (ads : List Addr) (a0 a1 a2 : Int) (w : World) (hE : EnvC ads w) :
    Calls Tryz.prog 7 #[.int .i64 a0, .int .i64 a1, .int .i64 a2] w fun e w' => e = .returned (.bool true) ∧ Below w.heap.size w w' := by
  have HF := Lib.hid (first17_any ads w hE)
  have HE := Lib.hid hE
  obtain ⟨m0, hm0, h0⟩ : ∃ m0 : Nat, m0 < 5 ∧ a0 % 5 = (m0 : Int) := ⟨(a0 % 5).toNat, by omega, by omega⟩
  obtain ⟨m, hm⟩ : ∃ m : Nat, (m0 : Int) + 2 = (m : Int) := ⟨m0 + 2, by omega⟩
  have hmm : m = m0 + 2 := by omega
  obtain ⟨q, hq, h1⟩ : ∃ q : Nat, q < m ∧ a1 % (m : Int) = (q : Int) := ⟨(a1 % (m : Int)).toNat, by
    have := Int.emod_lt_of_pos a1 (show (0 : Int) < (m : Int) by omega); have := Int.emod_nonneg a1 (show (m : Int) ≠ 0 by omega); omega, by
    have := Int.emod_nonneg a1 (show (m : Int) ≠ 0 by omega); omega⟩
  obtain ⟨s, hs, h2⟩ : ∃ s : Nat, s < 4 ∧ a2 % 4 = (s : Int) := ⟨(a2 % 4).toNat, by omega, by omega⟩
  have N0 := Lib.hid fun W => numbR a0 5 m0 (by decide) (by decide) h0 W
  have N1 := Lib.hid fun W => numbR a1 (m : Int) q (by omega) (by omega) h1 W
  have N2 := Lib.hid fun W => numbR a2 4 s (by decide) (by decide) h2 W
  have HL := Lib.hid fun W => line_any m 0 (by omega) (by decide) W
  rw [show ((0 : Nat) : Int) = 0 from rfl] at HL
  have HOK : Hid (LtOK (lineS m s)) := Lib.hid (by rw [hmm]; exact lt_ok (lineS_light ⟨m0, hm0⟩ ⟨s, hs⟩) (by omega))
  have HP1 : Hid (q ≠ 0 → rowsP (lineS m s) (q : Int) (rowF (lineS m s) (q : Int)) [(2 * (q : Int) + 1, 0, 3758161921)] = [⟨(q : Int), 2 * (q : Int), 2 * (q : Int) - 1, (0, 3758161921), outP (2 * (q : Int)) [2 * (q : Int) + 1] [2 * (q : Int) + 1]⟩]) := Lib.hid (fun h => by rw [hmm] at hq ⊢; exact rowsR ⟨m0, hm0⟩ ⟨s, hs⟩ ⟨q, by omega⟩ hq h)
  have HP0 : Hid (rowsP (lineS m s) 0 (rowF (lineS m s) 0) [(1, 0, 3758161921)] = ⟨0, -1, -1, (0, 3758161921), [1]⟩ :: (List.range s).map fun i : Nat => ⟨0, 1, 2, (adr m (200 + i), 3758161921), []⟩) := Lib.hid (by rw [hmm]; exact rowsR0 ⟨m0, hm0⟩ ⟨s, hs⟩)
  have hm8 : m ≤ 6 := by omega
  clear hmm
  clear hE h0 h1 h2
  go_enter Tryz.func7, Tryz.ntmps7
  go_upto_region 5 with (first
    | (go_at_call 30; refine HF.out.mono ?_; rintro e w1 ⟨rfl, hb1⟩; have HB1 := Lib.hid hb1; clear hb1)
    | (go_at_call_of 41 (Value.int IntKind.i64 a0); refine (N0.out _).mono ?_; rintro e w2 ⟨rfl, rfl⟩))
  have HM := Lib.hid hm
  clear hm
  clear HF N0
  go_upto_region 6 with (first
    | (go_at_call_of 41 (Value.int IntKind.i64 a1); refine (N1.out _).mono ?_; rintro e w2 ⟨rfl, rfl⟩))
  go_upto_region 7 with (first
    | (go_at_call_of 41 (Value.int IntKind.i64 a2); refine (N2.out _).mono ?_; rintro e w2 ⟨rfl, rfl⟩))
  go_upto_region 8 with (first
    | (go_at_call 43; refine (HL.out _).mono ?_; rintro e w3 ⟨M, rfl, hcw, hb3⟩; have HCW := Lib.hid hcw; have HB3 := Lib.hid (below_next HB1.out hb3); clear hcw hb3))
  obtain ⟨Mr, Ml, Mp, Mo, Mg, ⟨A0, n0, c0⟩, Mm⟩ := M
  dsimp only at HCW ⊢
  obtain rfl : n0 = 0 := HCW.out.s.len.symm
  have HB4 := Lib.hid ((Below.refl w3.heap.size w3).alloc (Nat.le_refl _) (.cells #[.slice Mr.A Mr.n Mr.c, .slice Ml.A Ml.n Ml.c, .slice Mp.A Mp.n Mp.c, .slice Mo.A Mo.n Mo.c, .slice Mg.A Mg.n Mg.c, .slice A0 0 c0, .slice Mm.A Mm.n Mm.c] 30))
  have HK4 := Lib.hid (Blk.new w3 30 #[.slice Mr.A Mr.n Mr.c, .slice Ml.A Ml.n Ml.c, .slice Mp.A Mp.n Mp.c, .slice Mo.A Mo.n Mo.c, .slice Mg.A Mg.n Mg.c, .slice A0 0 c0, .slice Mm.A Mm.n Mm.c])
  generalize w3.alloc (.cells #[.slice Mr.A Mr.n Mr.c, .slice Ml.A Ml.n Ml.c, .slice Mp.A Mp.n Mp.c, .slice Mo.A Mo.n Mo.c, .slice Mg.A Mg.n Mg.c, .slice A0 0 c0, .slice Mm.A Mm.n Mm.c] 30) = w4 at *
  have HC4 := Lib.hid (HCW.out.next HB4.out)
  generalize hN : w3.heap.size = N at HK4 ⊢
  have HN := Lib.hid hN
  clear hN HL N1 N2
  go_wp2_with fail
  go_loopw [9] (fun iv wr => ∃ (i : Nat) (A : Option Addr) (c : Nat), i ≤ s ∧ iv = .int .i64 (i : Int) ∧ Hid (Blk wr N 30 #[.slice Mr.A Mr.n Mr.c, .slice Ml.A Ml.n Ml.c, .slice Mp.A Mp.n Mp.c, .slice Mo.A Mo.n Mo.c, .slice Mg.A Mg.n Mg.c, .slice A i c, .slice Mm.A Mm.n Mm.c]) ∧ Hid (CW wr ⟨Mr, Ml, Mp, Mo, Mg, ⟨A, i, c⟩, Mm⟩ (lineS m i)) ∧ Hid (Below w3.heap.size w3 wr)) (fun iv _ => s - (intOf iv).toNat)
  case atStart => exact ⟨0, A0, c0, Nat.zero_le _, rfl, HK4, HC4, HB4⟩
  case round =>
    obtain ⟨i, A, c, hi, rfl, HK, HC, HB⟩ := hrel
    have y0 : wr.cell? ⟨N, 0, none⟩ = some (.slice Mr.A Mr.n Mr.c) := HK.out.cell 0
    have y1 : wr.cell? ⟨N, 1, none⟩ = some (.slice Ml.A Ml.n Ml.c) := HK.out.cell 1
    have y2 : wr.cell? ⟨N, 2, none⟩ = some (.slice Mp.A Mp.n Mp.c) := HK.out.cell 2
    have y3 : wr.cell? ⟨N, 3, none⟩ = some (.slice Mo.A Mo.n Mo.c) := HK.out.cell 3
    have y4 : wr.cell? ⟨N, 4, none⟩ = some (.slice Mg.A Mg.n Mg.c) := HK.out.cell 4
    have y5 : wr.cell? ⟨N, 5, none⟩ = some (.slice A i c) := HK.out.cell 5
    have y6 : wr.cell? ⟨N, 6, none⟩ = some (.slice Mm.A Mm.n Mm.c) := HK.out.cell 6
    rcases Nat.lt_or_ge i s with hlt | hge
    · have hi0 : (i : Int) < (s : Int) := by omega
      have HSD := Lib.hid (send_any ⟨Mr, Ml, Mp, Mo, Mg, ⟨A, i, c⟩, Mm⟩ (lineS m i) m 1 wr HC.out (by omega) (by decide) (by show i ≤ 50; omega))
      dsimp only at HSD
      rw [show ((1 : Nat) : Int) = 1 from rfl] at HSD
      have hss : (lineS m i).ss ++ [((m : Int), adr m (200 + i), 3758161920 + 1)] = srcS m (i + 1) := by rw [srcS_s]; rfl
      rw [hss] at HSD
      clear hss
      go_upto_region 10 with (go_at_call 44; refine HSD.out.mono ?_; rintro e w6 ⟨g6, c6, rfl, hos6, hcw6, hb6⟩; have hk6 := HK.out.next hb6; have m0 : w6.cell? ⟨N, 0, none⟩ = some (.slice Mr.A Mr.n Mr.c) := hk6.cell 0; have m1 : w6.cell? ⟨N, 1, none⟩ = some (.slice Ml.A Ml.n Ml.c) := hk6.cell 1; have m2 : w6.cell? ⟨N, 2, none⟩ = some (.slice Mp.A Mp.n Mp.c) := hk6.cell 2; have m3 : w6.cell? ⟨N, 3, none⟩ = some (.slice Mo.A Mo.n Mo.c) := hk6.cell 3; have m4 : w6.cell? ⟨N, 4, none⟩ = some (.slice Mg.A Mg.n Mg.c) := hk6.cell 4; have m5 : w6.cell? ⟨N, 5, none⟩ = some (.slice A i c) := hk6.cell 5; have m6 : w6.cell? ⟨N, 6, none⟩ = some (.slice Mm.A Mm.n Mm.c) := hk6.cell 6; have z0 := hk6.frozen 0; have z1 := hk6.frozen 1; have z2 := hk6.frozen 2; have z3 := hk6.frozen 3; have z4 := hk6.frozen 4; have z5 := hk6.frozen 5; have z6 := hk6.frozen 6; have HK6 := Lib.hid hk6; have HOS6 := Lib.hid hos6; have HCW6 := Lib.hid hcw6; have HB6 := Lib.hid hb6; clear hk6 hos6 hcw6 hb6)
      clear y0 y1 y2 y3 y4 y5 y6
      obtain ⟨W8, hW8, hk8, hb8, ho8⟩ := store7 (W := w6) (b := N) HK6.out.slot (Nat.le_refl _) (.slice Mr.A Mr.n Mr.c) (.slice Ml.A Ml.n Ml.c) (.slice Mp.A Mp.n Mp.c) (.slice Mo.A Mo.n Mo.c) (.slice Mg.A Mg.n Mg.c) (.slice (some ⟨g6, 0, none⟩) (i + 1) c6) (.slice Mm.A Mm.n Mm.c)
      rw [← hW8]
      have hB6 : Below N w3 w6 := by rw [← HN.out]; exact HB.out.trans (HB6.out.mono HB.out.size)
      have hB8 : Below w3.heap.size w3 W8 := by have := hb8 w3 hB6; rw [← HN.out] at this; exact this
      have hNr : N ≤ wr.heap.size := by rw [← HN.out]; exact HB.out.size
      have is8 := own_ir source_len (srcS_len m (i + 1)) (ho8 (by decide) (ownk_up HOS6.out hNr))
      have h6 := HCW6.out
      have h3 := HCW.out.next hB8
      have HC8 : Hid (CW W8 ⟨Mr, Ml, Mp, Mo, Mg, ⟨some ⟨g6, 0, none⟩, i + 1, c6⟩, Mm⟩ (lineS m (i + 1))) := Lib.hid ⟨h3.r, h3.l, h3.p, h3.o, h3.g, is8, h3.m, h6.rok, h6.lok, h6.pok, h6.ook, h6.gok, h6.sok, h6.mok, fun y hy => (by cases hy), h6.ok⟩
      have HK8 := Lib.hid hk8
      have HB8 := Lib.hid hB8
      clear hW8 hk8 hb8 ho8 hB6 hB8 hNr is8 h6 h3 m0 m1 m2 m3 m4 m5 m6 z0 z1 z2 z3 z4 z5 z6 HSD HK6 HOS6 HCW6
      go_wp2
      go_roundw
      case rel => exact ⟨i + 1, _, c6, by omega, by go_num, HK8, HC8, HB8⟩
      case measure => simp [intOf]; omega
    · obtain rfl : i = s := by omega
      have hd : decide ((i : Int) < (i : Int)) = false := by simp
      have HBr := Lib.hid (HB3.out.trans (HB.out.mono HB3.out.size))
      have HNW := Lib.hid (new_light ads _ (lineS m i) wr (HE.out.below HBr.out) HC.out HOK.out)
      dsimp only at HNW
      go_upto_region 15 with (go_at_call 12; refine HNW.out.mono ?_; rintro e w7 ⟨T, x', rfl, hT, hal, hb7⟩; have HT := Lib.hid hT; have HAL := Lib.hid hal; have HB7 := Lib.hid (below_next HBr.out hb7); clear hT hal hb7)
      clear y0 y1 y2 y3 y4 y5 y6 HNW hd
      have HOK' := Lib.hid (HOK.out.alike HAL.out (by rw [vcode_alike HAL.out]; exact HOK.out.v))
      have HRW := Lib.hid (fun W (hW : Below w7.heap.size w7 W) g (hg : RI CHd 3 W (some ⟨g, 0, none⟩) 1 [(2 * (q : Int) + 1, 0, 3758161921)]) => rows_al (q : Int) (some ⟨g, 0, none⟩) 1 1 [(2 * (q : Int) + 1, 0, 3758161921)] W wr _ (HT.out.next hW) HAL.out HC.out HOK.out HOK'.out hg (fun y hy => by
        obtain rfl := List.mem_singleton.1 hy
        exact ⟨⟨by show (0 : Int) ≤ 0; decide, by show (0 : Int) ≤ 4294967295; decide⟩, ⟨by show (0 : Int) ≤ 3758161921; decide, by show (3758161921 : Int) ≤ 4294967295; decide⟩⟩) (by decide))
      have HG := Lib.hid fun W => ngroup_any 1 (by decide) W
      have hw1 : wrap64 (2 * (q : Int)) = 2 * (q : Int) := by unfold wrap64; omega
      have hw2 : wrap64 (2 * (q : Int) + 1) = 2 * (q : Int) + 1 := by unfold wrap64; omega
      have HBa := Lib.hid ((Below.refl w7.heap.size w7).alloc (Nat.le_refl _) (.cells #[.int .i64 (2 * (q : Int) + 1), .int .u32 0, .int .u32 3758161921] 89))
      have HRa := Lib.hid (RI.new (enc := CHd) (k := 3) w7 89 (2 * (q : Int) + 1, 0, 3758161921) rfl rfl)
      go_upto_region 16 with (first
        | (go_at_call 45; refine (HG.out _).mono ?_; rintro e w4 ⟨rfl, rfl⟩)
        | (go_at_call 31; refine (HRW.out _ HBa.out _ HRa.out).mono ?_; rintro e w9 ⟨v9, ms, rfl, hown, hmp, hjr, hb9⟩; have HO9 := Lib.hid hown; have HMP := Lib.hid hmp; have HJR := Lib.hid hjr; have HB9 := Lib.hid (HB7.out.trans ((below_next HBa.out hb9).mono HB7.out.size)); clear hown hmp hjr hb9))
      obtain ⟨A9, c9, rfl, _, hr9⟩ := RI.of_own (enc := CRw) (k := 6) (fun _ => rfl) HO9.out
      have HR9 := Lib.hid hr9
      have hw3 : wrap64 (2 * (q : Int) - 1) = 2 * (q : Int) - 1 := by unfold wrap64; omega
      clear HRW HG HBa HRa HO9 hr9
      have HQ : Hid (q = 0 ∨ q ≠ 0) := Lib.hid (by omega)
      rcases Nat.eq_zero_or_pos q with hq0 | hq0
      · have hQ : (q : Int) = 0 := by omega
        have HM0 : Hid (ms.map PMr.p = ⟨0, -1, -1, (0, 3758161921), [1]⟩ :: (List.range i).map fun i : Nat => ⟨0, 1, 2, (adr m (200 + i), 3758161921), []⟩) := Lib.hid (by rw [← HP0.out, HMP.out, hQ]; rfl)
        clear HMP HP0 HP1 hw1 hw2 hw3 HQ
        generalize (q : Int) = Q at *
        subst hQ
        have hlen : ms.length = i + 1 := by
          have := congrArg List.length HM0.out
          rw [List.length_map] at this
          rw [this]
          simp
        have HAT : Hid (∀ (j : Nat) (y : PMr), ms[j]? = some y → j = 0 ∧ y.p = ⟨0, -1, -1, (0, 3758161921), [1]⟩ ∨ ∃ k, j = k + 1 ∧ k < i ∧ y.p = ⟨0, 1, 2, (adr m (200 + k), 3758161921), []⟩) := Lib.hid (fun j y hy => by
          have h : (ms.map PMr.p)[j]? = some y.p := by rw [List.getElem?_map, hy]; rfl
          rw [HM0.out] at h
          cases j with
          | zero => exact .inl ⟨rfl, (Option.some.inj h).symm⟩
          | succ k =>
            have hk : k < i := by
              have := (List.getElem?_eq_some_iff.1 hy).1
              omega
            rw [List.getElem?_cons_succ, List.getElem?_map, List.getElem?_range hk] at h
            exact .inr ⟨k, rfl, hk, (Option.some.inj h).symm⟩)
        rw [hlen] at HR9 ⊢
        obtain ⟨b9, o9, y, e9, _, hy, hc⟩ := HR9.out.at_ (i := 0) (by omega)
        subst e9
        have HJ := HJR.out y (List.mem_of_getElem? hy)
        have hyp : y.p = ⟨0, -1, -1, (0, 3758161921), [1]⟩ := by
          rcases HAT.out 0 y hy with h | ⟨k, h, _⟩
          · exact h.2
          · omega
        have c1 := hc 1 _ rfl
        have c2 := hc 2 _ rfl
        have c5 := hc 5 _ rfl
        rw [hyp] at c1 c2 c5 HJ
        dsimp only at c1 c2 c5 HJ
        simp only [Nat.zero_mul, Nat.add_zero] at c1 c2 c5
        have HSM := Lib.hid (jsame_self y.A (some ⟨w9.heap.size, 0, none⟩) 1 1 y.c 1 [1] (w9.alloc (.cells #[.int .i64 1] 3)) (HJ.next ((Below.refl _ _).alloc (Nat.le_refl _) _)) (jr_one w9 1 _) (by decide))
        have HBb := Lib.hid ((Below.refl w9.heap.size w9).alloc (Nat.le_refl _) (.cells #[.int .i64 1] 3))
        have hp1 : (0 : Int) < (i : Int) + 1 := by omega
        clear hc hy hyp HJ hq0
        go_upto_region 20 with (go_at_call 17; refine HSM.out.mono ?_; rintro e w10 ⟨rfl, hb10⟩; have HN10 := Lib.hid (below_next HBb.out hb10); clear hb10)
        clear c1 c2 c5 HSM HBb hp1
        go_wp2_with fail
        go_loopw [13] (fun jv wr => ∃ (j : Nat), 1 ≤ j ∧ j ≤ i + 1 ∧ jv = .int .i64 (j : Int) ∧ Hid (Below w10.heap.size w10 wr)) (fun jv _ => i + 1 - (intOf jv).toNat)
        case atStart => exact ⟨1, Nat.le_refl _, by omega, rfl, Lib.hid (Below.refl _ _)⟩
        case round =>
          obtain ⟨j, hj1, hj2, rfl, HBj⟩ := hrel
          rcases Nat.lt_or_ge i j with hgt | hle
          · have hd : decide ((j : Int) ≤ (i : Int)) = false := by simp; omega
            have hd' : ¬ ((j : Int) ≤ (i : Int)) := by omega
            go_wp2
            go_ret
            exact ⟨rfl, HB9.out.trans ((below_next HN10.out HBj.out).mono HB9.out.size)⟩
          · have hd : decide ((j : Int) ≤ (i : Int)) = true := by simp; omega
            have hd' : (j : Int) ≤ (i : Int) := by omega
            have hj0 : (0 : Int) ≤ (j : Int) := by omega
            have hjl : (j : Int) < (i : Int) + 1 := by omega
            obtain ⟨b8, o8, z, e8, hbl, hz, hc⟩ := HR9.out.at_ (i := j) (by omega)
            cases e8
            obtain ⟨k, hjk, hki, hzp⟩ : ∃ k, j = k + 1 ∧ k < i ∧ z.p = ⟨0, 1, 2, (adr m (200 + k), 3758161921), []⟩ := by
              rcases HAT.out j z hz with h | h
              · omega
              · exact h
            have c1 := hc 1 _ rfl
            have c2 := hc 2 _ rfl
            have c3 := hc 3 _ rfl
            have c5 := hc 5 _ rfl
            rw [hzp] at c1 c2 c3 c5
            dsimp only [List.length_nil] at c1 c2 c3 c5
            have hB := below_next HN10.out HBj.out
            have f1 : ∀ s : Snc wr, s.W.cell? ⟨b9, o9 + j * 6 + 1, none⟩ = some (.int .i64 1) := fun s => ((below_next hB s.b).cell (p := ⟨b9, o9 + j * 6 + 1, none⟩) hbl).trans c1
            have f2 : ∀ s : Snc wr, s.W.cell? ⟨b9, o9 + j * 6 + 2, none⟩ = some (.int .i64 2) := fun s => ((below_next hB s.b).cell (p := ⟨b9, o9 + j * 6 + 2, none⟩) hbl).trans c2
            have f3 : ∀ s : Snc wr, s.W.cell? ⟨b9, o9 + j * 6 + 3, none⟩ = some (.int .u32 (adr m (200 + k))) := fun s => ((below_next hB s.b).cell (p := ⟨b9, o9 + j * 6 + 3, none⟩) hbl).trans c3
            have f5 : ∀ s : Snc wr, s.W.cell? ⟨b9, o9 + j * 6 + 5, none⟩ = some (.slice z.A 0 z.c) := fun s => ((below_next hB s.b).cell (p := ⟨b9, o9 + j * 6 + 5, none⟩) hbl).trans c5
            have hw4 : IntKind.i64.wrap (199 + (j : Int)) = 199 + (j : Int) := IntWalk.i64_in _ (by omega)
            have hw5 : wrap64 (199 + (j : Int)) = 199 + (j : Int) := by unfold wrap64; omega
            have hk2 := small1 hki hs
            have hm2 := small2 hm8
            have hk3 := small3 hjk
            have HA3 := Lib.hid fun W => naddr_any m (200 + k) hm2 hk2 W
            rw [hk3] at HA3
            generalize adr m (200 + k) = AK at *
            have R1 : ∀ P : Snc wr, Calls Tryz.prog 46 #[.int .i64 (m : Int), .int .i64 (199 + (j : Int))] P.W fun e w' => e = .returned (.int .u32 AK) ∧ ∃ Q : Snc wr, w' = Q.W := fun P => Calls.since_same ((HA3.out P.W).mono fun _ _ h => ⟨h.1, h.2.symm⟩)
            clear hz hc hzp c1 c2 c3 c5 hbl hB hjk hki hk2 hm2 hk3 HA3
            go_upto_region 23 with fail
            refine wp_region_since (by kernel_rfl) (by kernel_rfl) ?_
            try simp only [List.append_eq, List.cons_append, List.nil_append]
            repeat (go_big_quiet_step ((go_at_call 46; with_reducible exact R1 _)))
            refine wpQuiet_nil ?_
            rintro w11 ⟨P11, rfl⟩
            have HB11 := Lib.hid (below_next HBj.out P11.b)
            clear R1 f1 f2 f3 f5 hw4 hw5
            go_wp2_with fail
            go_roundw
            case rel => exact ⟨j + 1, by omega, by omega, by go_num, HB11⟩
            case measure => simp [intOf]; omega
      · have hq1 : ¬ ((q : Int) = 0) := by omega
        have HM1 : Hid (ms.map PMr.p = [⟨(q : Int), 2 * (q : Int), 2 * (q : Int) - 1, (0, 3758161921), outP (2 * (q : Int)) [2 * (q : Int) + 1] [2 * (q : Int) + 1]⟩]) := Lib.hid (by rw [HMP.out]; exact HP1.out (by omega))
        clear HMP HP0 HP1
        obtain ⟨y, rfl⟩ : ∃ y, ms = [y] := by
          have := congrArg List.length HM1.out
          simp at this
          exact List.length_eq_one_iff.1 this
        have hyp : y.p = ⟨(q : Int), 2 * (q : Int), 2 * (q : Int) - 1, (0, 3758161921), outP (2 * (q : Int)) [2 * (q : Int) + 1] [2 * (q : Int) + 1]⟩ := by have := HM1.out; simpa using this
        obtain ⟨b9, o9, y', e9, _, hy, hc⟩ := HR9.out.at_ (i := 0) (by simp)
        obtain rfl : y = y' := by simpa using hy
        subst e9
        have c1 := hc 1 _ rfl
        have c2 := hc 2 _ rfl
        rw [hyp] at c1 c2
        dsimp only at c1 c2
        simp only [Nat.zero_mul, Nat.add_zero] at c1 c2
        clear hc hy hyp HM1
        dsimp only [List.length_cons, List.length_nil]
        have hq2 : ((q : Int) != 0) = true := by simpa using hq1
        have hq3 : decide ((q : Int) = 0) = false := by simpa using hq1
        go_wp2_with fail
        go_ret
        exact ⟨rfl, HB9.out⟩
end Go.Proofs.YtfidicbknjoafaaGreatDoor
