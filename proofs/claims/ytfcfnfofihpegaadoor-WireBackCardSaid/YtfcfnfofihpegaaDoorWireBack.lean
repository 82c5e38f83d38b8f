/- WireBack, walked. -/
import Derived.Test.YtfcfnfofihpegaaDoorWl2
import Derived.Test.YtfcfnfofihpegaaDoorIs
import Derived.Test.YtfcfnfofihpegaaDoorAppB
namespace Go.Proofs.YtfcfnfofihpegaaDoor
open Go.RowKit Sm
section
variable (ads : List Addr) (m : Ms) (A : Option Addr) (n c : Nat) (bit cut : Int) (D : Option Addr) (d dc : Nat) (ys : List Int) (w : World)
set_option maxHeartbeats 4000000 in
theorem back_no (hS : EnvS ads w) (hw : wfm m) (hA : AR w A n m.l) (hc : mcode m ≠ 0) :
    Calls Tryd.prog 4 #[mv m A n c, .int .i64 bit, .int .i64 cut, .slice D d dc] w fun e w' => e = .returned (.bool true) ∧ Below w.heap.size w w' := by
  have HB0 := Lib.hid (show Below w.heap.size w (w.alloc (.cells #[.int .i64 m.k, .int .u32 m.f, .int .u32 m.t, .int .u32 m.s, .int .u32 m.g, .int .i64 m.r, .int .i64 m.c, .bool m.o, .slice A n c] 28)) from (Below.refl _ _).alloc (Nat.le_refl _) _)
  have HK0 := Lib.hid (Blk.new w 28 #[.int .i64 m.k, .int .u32 m.f, .int .u32 m.t, .int .u32 m.s, .int .u32 m.g, .int .i64 m.r, .int .i64 m.c, .bool m.o, .slice A n c])
  have HS := Lib.hid hS
  have HE := Lib.hid (envM_of_S hS)
  have HF := Lib.hid (first_any (erS ads) _ (HE.out.1.below HB0.out))
  have HY := Lib.hid (fun W (hW : Below w.heap.size w W) => wbytes_no (erS ads) m A n c W (HE.out.below hW).1 hw (hA.next hW) hc)
  obtain ⟨ea, hea⟩ := HE.out.1.2.1 (mcode m) (by have := mcode_cases m; omega)
  rw [hea] at HY
  unfold mv ev at *
  clear hS hw hA hc hea
  go_enter Tryd.func4, Tryd.ntmps4
  go_wp2_with fail
  refine HF.out.mono ?_
  rintro e w1 ⟨rfl, hb1⟩
  have hk1 := HK0.out.next hb1
  have x0 : w1.cell? ⟨w.heap.size, 0, none⟩ = _ := hk1.cell 0
  have x1 : w1.cell? ⟨w.heap.size, 1, none⟩ = _ := hk1.cell 1
  have x2 : w1.cell? ⟨w.heap.size, 2, none⟩ = _ := hk1.cell 2
  have x3 : w1.cell? ⟨w.heap.size, 3, none⟩ = _ := hk1.cell 3
  have x4 : w1.cell? ⟨w.heap.size, 4, none⟩ = _ := hk1.cell 4
  have x5 : w1.cell? ⟨w.heap.size, 5, none⟩ = _ := hk1.cell 5
  have x6 : w1.cell? ⟨w.heap.size, 6, none⟩ = _ := hk1.cell 6
  have x7 : w1.cell? ⟨w.heap.size, 7, none⟩ = _ := hk1.cell 7
  have x8 : w1.cell? ⟨w.heap.size, 8, none⟩ = _ := hk1.cell 8
  have HB1 := Lib.hid (below_next HB0.out hb1)
  clear hb1 hk1
  go_wp2_with fail
  refine (HY.out _ HB1.out).mono ?_
  rintro e w2 ⟨rfl, hb2⟩
  go_wp2
  go_ret
  exact ⟨rfl, below_next HB1.out hb2⟩
set_option maxHeartbeats 4000000 in
theorem back_big (hS : EnvS ads w) (hw : wfm m) (hA : AR w A n m.l) (hc : mcode m = 0) (hd : 40 < d) :
    Calls Tryd.prog 4 #[mv m A n c, .int .i64 bit, .int .i64 cut, .slice D d dc] w fun e w' => e = .returned (.bool true) ∧ Below w.heap.size w w' := by
  have HB0 := Lib.hid (show Below w.heap.size w (w.alloc (.cells #[.int .i64 m.k, .int .u32 m.f, .int .u32 m.t, .int .u32 m.s, .int .u32 m.g, .int .i64 m.r, .int .i64 m.c, .bool m.o, .slice A n c] 28)) from (Below.refl _ _).alloc (Nat.le_refl _) _)
  have HK0 := Lib.hid (Blk.new w 28 #[.int .i64 m.k, .int .u32 m.f, .int .u32 m.t, .int .u32 m.s, .int .u32 m.g, .int .i64 m.r, .int .i64 m.c, .bool m.o, .slice A n c])
  have HS := Lib.hid hS
  have HE := Lib.hid (envM_of_S hS)
  have HF := Lib.hid (first_any (erS ads) _ (HE.out.1.below HB0.out))
  have hlen := mbs_len10 hc
  have hn4 : n ≤ 4 := by have := hA.len; have := (mcode_ok hc).2.2.1; omega
  have hXb := mbs_b hw hc
  have hXs := mbs_sum hw hc
  have hrc := mrc_of hw hc
  have hbk := (mback hw hc []).2.2.1
  rw [List.append_nil] at hbk
  have hcut := fun k (hk : k < (mbs m).length) => mrc_cut hw hc (c := k) hk
  have hmore := fun (zs : List Int) (hz : zs ≠ []) => mrc_more hw hc hz
  have hy := fun W (hW : Below w.heap.size w W) => wbytes_yes (erS ads) m A n c W (HE.out.below hW).1 hw (hA.next hW) hc
  unfold bytesOf at hy
  have hsm := fun A4 n4 c4 W (ha : AR W A4 n4 m.l) (hb : AR W A n m.l) (q : n4 ≤ 4) => wsame_any m m A4 A n4 c4 n c W ha hb (by omega) (by omega)
  have hrs := fun A4 n4 c4 W (ha : AR W A4 n4 m.l) (hb : AR W A n m.l) (q : n4 ≤ 4) => rsame_any m m A4 A n4 c4 n c W ha hb (by omega) (by omega)
  rw [sameB_self] at hsm hrs
  have hl := fun W => light_any m A n c W
  have hln20 : decide (n ≤ 20) = true := by simp; omega
  rw [hln20] at hl
  generalize hX : mbs m = X at *
  obtain ⟨L, hL⟩ : ∃ L, X.length = L := ⟨_, rfl⟩
  rw [hL] at hlen hcut hy
  have HY := Lib.hid hy
  have HSM := Lib.hid hsm
  have HRS := Lib.hid hrs
  have HLI := Lib.hid hl
  have HA := Lib.hid (fun W (hW : Below w.heap.size w W) => hA.next hW)
  have HXB := Lib.hid hXb
  have HXS := Lib.hid hXs
  have HRC := Lib.hid hrc
  have HBK := Lib.hid hbk
  have HCUT := Lib.hid hcut
  have HMORE := Lib.hid hmore
  have HL := Lib.hid hL
  obtain ⟨hl10, hl30⟩ := hlen
  unfold mv at *
  clear hS hw hA hc hX hXb hXs hrc hbk hcut hmore hy hsm hrs hl hln20 hL hn4
  have hdd : decide ((40 : Int) < (d : Int)) = true := by simp; omega
  go_enter Tryd.func4, Tryd.ntmps4
  go_wp2_with fail
  refine HF.out.mono ?_
  rintro e w1 ⟨rfl, hb1⟩
  have hk1 := HK0.out.next hb1
  have x0 : w1.cell? ⟨w.heap.size, 0, none⟩ = _ := hk1.cell 0
  have x1 : w1.cell? ⟨w.heap.size, 1, none⟩ = _ := hk1.cell 1
  have x2 : w1.cell? ⟨w.heap.size, 2, none⟩ = _ := hk1.cell 2
  have x3 : w1.cell? ⟨w.heap.size, 3, none⟩ = _ := hk1.cell 3
  have x4 : w1.cell? ⟨w.heap.size, 4, none⟩ = _ := hk1.cell 4
  have x5 : w1.cell? ⟨w.heap.size, 5, none⟩ = _ := hk1.cell 5
  have x6 : w1.cell? ⟨w.heap.size, 6, none⟩ = _ := hk1.cell 6
  have x7 : w1.cell? ⟨w.heap.size, 7, none⟩ = _ := hk1.cell 7
  have x8 : w1.cell? ⟨w.heap.size, 8, none⟩ = _ := hk1.cell 8
  have HB1 := Lib.hid (below_next HB0.out hb1)
  have HK1 := Lib.hid hk1
  clear hb1 hk1
  go_wp2_with fail
  refine (HY.out _ HB1.out).mono ?_
  rintro e w2 ⟨A2, c2, rfl, hown2, hb2⟩
  obtain ⟨hr2, hc2⟩ := own_br hown2 HXB.out
  have hk2 := HK1.out.next hb2
  have HB2 := Lib.hid (below_next HB1.out hb2)
  have HK2 := Lib.hid hk2
  have HR2 := Lib.hid hr2
  have HC2 := Lib.hid hc2
  clear x0 x1 x2 x3 x4 x5 x6 x7 x8
  have x0 : w2.cell? ⟨w.heap.size, 0, none⟩ = _ := hk2.cell 0
  have x1 : w2.cell? ⟨w.heap.size, 1, none⟩ = _ := hk2.cell 1
  have x2 : w2.cell? ⟨w.heap.size, 2, none⟩ = _ := hk2.cell 2
  have x3 : w2.cell? ⟨w.heap.size, 3, none⟩ = _ := hk2.cell 3
  have x4 : w2.cell? ⟨w.heap.size, 4, none⟩ = _ := hk2.cell 4
  have x5 : w2.cell? ⟨w.heap.size, 5, none⟩ = _ := hk2.cell 5
  have x6 : w2.cell? ⟨w.heap.size, 6, none⟩ = _ := hk2.cell 6
  have x7 : w2.cell? ⟨w.heap.size, 7, none⟩ = _ := hk2.cell 7
  have x8 : w2.cell? ⟨w.heap.size, 8, none⟩ = _ := hk2.cell 8
  clear hown2 hb2 hk2 hr2 hc2
  go_wp2_with fail
  go_ret
  exact ⟨rfl, HB2.out⟩
set_option maxHeartbeats 16000000 in
set_option maxRecDepth 100000 in
theorem back_zero (hS : EnvS ads w) (hw : wfm m) (hA : AR w A n m.l) (hc : mcode m = 0) (hD : BR w D d ys) (hd : d = 0) :
    Calls Tryd.prog 4 #[mv m A n c, .int .i64 bit, .int .i64 cut, .slice D d dc] w fun e w' => e = .returned (.bool true) ∧ Below w.heap.size w w' := by
  have HD := Lib.hid (fun W (hW : Below w.heap.size w W) => hD.next hW)
  have hdl := hD.len
  have HDB := Lib.hid hD.isB
  have HB0 := Lib.hid (show Below w.heap.size w (w.alloc (.cells #[.int .i64 m.k, .int .u32 m.f, .int .u32 m.t, .int .u32 m.s, .int .u32 m.g, .int .i64 m.r, .int .i64 m.c, .bool m.o, .slice A n c] 28)) from (Below.refl _ _).alloc (Nat.le_refl _) _)
  have HK0 := Lib.hid (Blk.new w 28 #[.int .i64 m.k, .int .u32 m.f, .int .u32 m.t, .int .u32 m.s, .int .u32 m.g, .int .i64 m.r, .int .i64 m.c, .bool m.o, .slice A n c])
  have HS := Lib.hid hS
  have HE := Lib.hid (envM_of_S hS)
  have HF := Lib.hid (first_any (erS ads) _ (HE.out.1.below HB0.out))
  have hlen := mbs_len10 hc
  have hn4 : n ≤ 4 := by have := hA.len; have := (mcode_ok hc).2.2.1; omega
  have hXb := mbs_b hw hc
  have hXs := mbs_sum hw hc
  have hrc := mrc_of hw hc
  have hbk := (mback hw hc []).2.2.1
  rw [List.append_nil] at hbk
  have hcut := fun k (hk : k < (mbs m).length) => mrc_cut hw hc (c := k) hk
  have hmore := fun (zs : List Int) (hz : zs ≠ []) => mrc_more hw hc hz
  have hy := fun W (hW : Below w.heap.size w W) => wbytes_yes (erS ads) m A n c W (HE.out.below hW).1 hw (hA.next hW) hc
  unfold bytesOf at hy
  have hsm := fun A4 n4 c4 W (ha : AR W A4 n4 m.l) (hb : AR W A n m.l) (q : n4 ≤ 4) => wsame_any m m A4 A n4 c4 n c W ha hb (by omega) (by omega)
  have hrs := fun A4 n4 c4 W (ha : AR W A4 n4 m.l) (hb : AR W A n m.l) (q : n4 ≤ 4) => rsame_any m m A4 A n4 c4 n c W ha hb (by omega) (by omega)
  rw [sameB_self] at hsm hrs
  have hl := fun W => light_any m A n c W
  have hln20 : decide (n ≤ 20) = true := by simp; omega
  rw [hln20] at hl
  generalize hX : mbs m = X at *
  obtain ⟨L, hL⟩ : ∃ L, X.length = L := ⟨_, rfl⟩
  rw [hL] at hlen hcut hy
  have HY := Lib.hid hy
  have HSM := Lib.hid hsm
  have HRS := Lib.hid hrs
  have HLI := Lib.hid hl
  have HA := Lib.hid (fun W (hW : Below w.heap.size w W) => hA.next hW)
  have HXB := Lib.hid hXb
  have HXS := Lib.hid hXs
  have HRC := Lib.hid hrc
  have HBK := Lib.hid hbk
  have HCUT := Lib.hid hcut
  have HMORE := Lib.hid hmore
  have HL := Lib.hid hL
  obtain ⟨hl10, hl30⟩ := hlen
  unfold mv at *
  clear hS hw hA hc hX hXb hXs hrc hbk hcut hmore hy hsm hrs hl hln20 hL hn4
  have hdd : decide ((40 : Int) < (d : Int)) = false := by simp; omega
  have hys : ys = [] := List.eq_nil_of_length_eq_zero (by omega)
  have hd1 : ((d : Int) == 0) = true := by simp; omega
  have HYS := Lib.hid hys
  obtain ⟨q, hq, hqn⟩ : ∃ q : Nat, bit % (8 * (L : Int)) = q ∧ q < 8 * L := by
    have e0 := Int.emod_nonneg bit (show 8 * (L : Int) ≠ 0 by omega)
    have e1 := Int.emod_lt_of_pos bit (show 0 < 8 * (L : Int) by omega)
    exact ⟨(bit % (8 * (L : Int))).toNat, by omega, by omega⟩
  obtain ⟨k, hk, hkn⟩ : ∃ k : Nat, cut % (L : Int) = k ∧ k < L := by
    have e0 := Int.emod_nonneg cut (show (L : Int) ≠ 0 by omega)
    have e1 := Int.emod_lt_of_pos cut (show 0 < (L : Int) by omega)
    exact ⟨(cut % (L : Int)).toNat, by omega, by omega⟩
  have N1 := Lib.hid (fun W => number_any bit (8 * (L : Int)) W (by omega) (by omega))
  have N2 := Lib.hid (fun W => number_any cut (L : Int) W (by omega) (by omega))
  rw [hq] at N1
  rw [hk] at N2
  have hl10' : ¬ ((L : Int) < 10) := by omega
  have HDL := Lib.hid hdl
  clear hq hk hD hdl hys
  have hdle40 : d ≤ 40 := by omega
  have hdle : d ≤ 40 := by omega
  have HDZ := Lib.hid hd
  clear hd
  go_enter Tryd.func4, Tryd.ntmps4
  go_wp2_with fail
  refine HF.out.mono ?_
  rintro e w1 ⟨rfl, hb1⟩
  have hk1 := HK0.out.next hb1
  have x0 : w1.cell? ⟨w.heap.size, 0, none⟩ = _ := hk1.cell 0
  have x1 : w1.cell? ⟨w.heap.size, 1, none⟩ = _ := hk1.cell 1
  have x2 : w1.cell? ⟨w.heap.size, 2, none⟩ = _ := hk1.cell 2
  have x3 : w1.cell? ⟨w.heap.size, 3, none⟩ = _ := hk1.cell 3
  have x4 : w1.cell? ⟨w.heap.size, 4, none⟩ = _ := hk1.cell 4
  have x5 : w1.cell? ⟨w.heap.size, 5, none⟩ = _ := hk1.cell 5
  have x6 : w1.cell? ⟨w.heap.size, 6, none⟩ = _ := hk1.cell 6
  have x7 : w1.cell? ⟨w.heap.size, 7, none⟩ = _ := hk1.cell 7
  have x8 : w1.cell? ⟨w.heap.size, 8, none⟩ = _ := hk1.cell 8
  have HB1 := Lib.hid (below_next HB0.out hb1)
  have HK1 := Lib.hid hk1
  clear hb1 hk1
  go_wp2_with fail
  refine (HY.out _ HB1.out).mono ?_
  rintro e w2 ⟨A2, c2, rfl, hown2, hb2⟩
  obtain ⟨hr2, hc2⟩ := own_br hown2 HXB.out
  have hk2 := HK1.out.next hb2
  have HB2 := Lib.hid (below_next HB1.out hb2)
  have HK2 := Lib.hid hk2
  have HR2 := Lib.hid hr2
  have HC2 := Lib.hid hc2
  clear x0 x1 x2 x3 x4 x5 x6 x7 x8
  have x0 : w2.cell? ⟨w.heap.size, 0, none⟩ = _ := hk2.cell 0
  have x1 : w2.cell? ⟨w.heap.size, 1, none⟩ = _ := hk2.cell 1
  have x2 : w2.cell? ⟨w.heap.size, 2, none⟩ = _ := hk2.cell 2
  have x3 : w2.cell? ⟨w.heap.size, 3, none⟩ = _ := hk2.cell 3
  have x4 : w2.cell? ⟨w.heap.size, 4, none⟩ = _ := hk2.cell 4
  have x5 : w2.cell? ⟨w.heap.size, 5, none⟩ = _ := hk2.cell 5
  have x6 : w2.cell? ⟨w.heap.size, 6, none⟩ = _ := hk2.cell 6
  have x7 : w2.cell? ⟨w.heap.size, 7, none⟩ = _ := hk2.cell 7
  have x8 : w2.cell? ⟨w.heap.size, 8, none⟩ = _ := hk2.cell 8
  obtain ⟨b2, o2, rfl, _, _⟩ := HR2.out.2.2 (by omega)
  have hk0 : (0 : Int) ≤ (k : Int) := by omega
  have hk1 : (k : Int) ≤ (c2 : Int) := by omega
  clear hown2 hb2 hk2 hr2 hc2
  go_wp2_with fail
  refine (HLI.out _).mono ?_
  rintro e w3 ⟨rfl, hb3⟩
  have HB3 := Lib.hid (below_next HB2.out hb3)
  have HK3 := Lib.hid (HK2.out.next hb3)
  have HR3 := Lib.hid (HR2.out.next hb3)
  clear hb3
  clear x0 x1 x2 x3 x4 x5 x6 x7 x8
  go_wp2_with fail
  refine (wread_good (erS ads) _ L c2 X _ (HE.out.below HB3.out) HR3.out (by omega) HC2.out HRC.out).mono ?_
  rintro e w4 ⟨A4, n4, c4, rfl, ha4, hn4, hb4⟩
  rw [HBK.out] at ha4 ⊢
  unfold mv
  have hk4 := HK3.out.next hb4
  have hal : Below w4.heap.size w4 (w4.alloc (.cells #[.int .i64 m.k, .int .u32 m.f, .int .u32 m.t, .int .u32 m.s, .int .u32 m.g, .int .i64 m.r, .int .i64 m.c, .bool m.o, .slice A4 n4 c4] 28)) := (Below.refl _ _).alloc (Nat.le_refl _) _
  have HB4 := Lib.hid (below_next (below_next HB3.out hb4) hal)
  have HK4 := Lib.hid (hk4.next hal)
  have HM4 := Lib.hid (Blk.new w4 28 #[.int .i64 m.k, .int .u32 m.f, .int .u32 m.t, .int .u32 m.s, .int .u32 m.g, .int .i64 m.r, .int .i64 m.c, .bool m.o, .slice A4 n4 c4])
  have HR4 := Lib.hid ((HR3.out.next hb4).next hal)
  have HA4 := Lib.hid (ha4.next hal)
  have HN4 := Lib.hid hn4
  have hlk := hk4.lt
  have hne : w.heap.size ≠ w4.heap.size := by omega
  have hne' := hne.symm
  have x0 : w4.cell? ⟨w.heap.size, 0, none⟩ = _ := hk4.cell 0
  have x1 : w4.cell? ⟨w.heap.size, 1, none⟩ = _ := hk4.cell 1
  have x2 : w4.cell? ⟨w.heap.size, 2, none⟩ = _ := hk4.cell 2
  have x3 : w4.cell? ⟨w.heap.size, 3, none⟩ = _ := hk4.cell 3
  have x4 : w4.cell? ⟨w.heap.size, 4, none⟩ = _ := hk4.cell 4
  have x5 : w4.cell? ⟨w.heap.size, 5, none⟩ = _ := hk4.cell 5
  have x6 : w4.cell? ⟨w.heap.size, 6, none⟩ = _ := hk4.cell 6
  have x7 : w4.cell? ⟨w.heap.size, 7, none⟩ = _ := hk4.cell 7
  have x8 : w4.cell? ⟨w.heap.size, 8, none⟩ = _ := hk4.cell 8
  clear hb4 ha4 hn4 hal hk4
  go_wp2_with fail
  refine (HSM.out _ _ _ _ HA4.out (HA.out _ HB4.out) HN4.out).mono ?_
  rintro e w5 ⟨rfl, hb5⟩
  have hk5 := HK4.out.next hb5
  have hm5 := HM4.out.next hb5
  have HB5 := Lib.hid (below_next HB4.out hb5)
  have HK5 := Lib.hid hk5
  have HR5 := Lib.hid (HR4.out.next hb5)
  have HA5 := Lib.hid (HA4.out.next hb5)
  clear x0 x1 x2 x3 x4 x5 x6 x7 x8
  have x0 : w5.cell? ⟨w.heap.size, 0, none⟩ = _ := hk5.cell 0
  have x1 : w5.cell? ⟨w.heap.size, 1, none⟩ = _ := hk5.cell 1
  have x2 : w5.cell? ⟨w.heap.size, 2, none⟩ = _ := hk5.cell 2
  have x3 : w5.cell? ⟨w.heap.size, 3, none⟩ = _ := hk5.cell 3
  have x4 : w5.cell? ⟨w.heap.size, 4, none⟩ = _ := hk5.cell 4
  have x5 : w5.cell? ⟨w.heap.size, 5, none⟩ = _ := hk5.cell 5
  have x6 : w5.cell? ⟨w.heap.size, 6, none⟩ = _ := hk5.cell 6
  have x7 : w5.cell? ⟨w.heap.size, 7, none⟩ = _ := hk5.cell 7
  have x8 : w5.cell? ⟨w.heap.size, 8, none⟩ = _ := hk5.cell 8
  have y0 : w5.cell? ⟨w4.heap.size, 0, none⟩ = _ := hm5.cell 0
  have y1 : w5.cell? ⟨w4.heap.size, 1, none⟩ = _ := hm5.cell 1
  have y2 : w5.cell? ⟨w4.heap.size, 2, none⟩ = _ := hm5.cell 2
  have y3 : w5.cell? ⟨w4.heap.size, 3, none⟩ = _ := hm5.cell 3
  have y4 : w5.cell? ⟨w4.heap.size, 4, none⟩ = _ := hm5.cell 4
  have y5 : w5.cell? ⟨w4.heap.size, 5, none⟩ = _ := hm5.cell 5
  have y6 : w5.cell? ⟨w4.heap.size, 6, none⟩ = _ := hm5.cell 6
  have y7 : w5.cell? ⟨w4.heap.size, 7, none⟩ = _ := hm5.cell 7
  have y8 : w5.cell? ⟨w4.heap.size, 8, none⟩ = _ := hm5.cell 8
  clear hb5 hk5 hm5
  go_wp2_with fail
  refine (HRS.out _ _ _ _ HA5.out (HA.out _ HB5.out) HN4.out).mono ?_
  rintro e w6 ⟨rfl, hb6⟩
  have HB6 := Lib.hid (below_next HB5.out hb6)
  have HR6 := Lib.hid (HR5.out.next hb6)
  clear hb6 hne hne' hlk
  clear x0 x1 x2 x3 x4 x5 x6 x7 x8
  clear y0 y1 y2 y3 y4 y5 y6 y7 y8
  go_wp2_with (go_at_call 20; refine (N1.out _).mono ?_; rintro e wa ⟨rfl, rfl⟩)
  refine (rbytes_any _ L c2 X _ HR6.out (by omega)).mono ?_
  rintro e w7 ⟨g, c7, rfl, hown7, hb7⟩
  have hL := HL.out
  have hi : q / 8 < L := by omega
  have hj : q % 8 < 8 := by omega
  have f0 : w7.frozen? ⟨g, q / 8, none⟩ = false := hown7.frozenAt (q / 8)
  have c0 : w7.cell? ⟨g, q / 8, none⟩ = some (.int .u8 (X.getD (q / 8) 0)) := (hown7.cellAt (q / 8) (by omega)).trans (B8_at (by omega))
  have hi0 : ((q / 8 : Nat) : Int) < L := by omega
  have hi1 : (q : Int) / 8 < L := by omega
  have hi2 : (0 : Int) ≤ (q : Int) / 8 := by omega
  have hi3 : ((q : Int) / 8).toNat = q / 8 := by omega
  have h8 := two8_mod hj
  have ht := turned HXB.out HXS.out (show q / 8 < X.length by omega) hj
  have htb := turned_b HXB.out (q / 8) hj
  have hrt : mrc (X.set (q / 8) (bits .xor .u8 (X.getD (q / 8) 0) (2 ^ (q % 8)))) = 105 := mrc_sum (by simp; omega) ht
  generalize X.getD (q / 8) 0 = u at *
  generalize hV : bits .xor .u8 u (2 ^ (q % 8)) = V at *
  have hgb := (hown7.lt g rfl).1
  have hg0 : w.heap.size ≤ g := Nat.le_trans HB6.out.size hgb
  have hown8 := own_set hown7 (q / 8) V
  have hst : Below w6.heap.size w6 (w7.setCell ⟨g, q / 8, none⟩ (.int .u8 V)) := below_store hb7 hgb _
  obtain ⟨_, _, he, hnc8, hr8, _⟩ := own_form hown8 htb
  simp only [Value.slice.injEq, true_and] at he
  obtain ⟨rfl, rfl⟩ := he
  have HT := Lib.hid hr8
  have HC8 := Lib.hid hnc8
  have HRT := Lib.hid hrt
  have HB8 := Lib.hid (below_next HB6.out hst)
  have HR8 := Lib.hid (HR6.out.next hst)
  clear hown7 hown8 hb7 ht htb hrt hr8 hnc8 hst hL
  go_wp2_with fail
  refine (wread_fail (erS ads) _ L c7 _ _ (HE.out.below HB8.out) HT.out (by omega) HC8.out (by rw [HRT.out]; omega)).mono ?_
  rintro e w9 ⟨ea, A9, c9, hea, rfl, hb9⟩
  unfold mv mz
  have hal : Below w9.heap.size w9 (w9.alloc (.cells #[.int .i64 0, .int .u32 0, .int .u32 0, .int .u32 0, .int .u32 0, .int .i64 0, .int .i64 0, .bool false, .slice A9 0 c9] 28)) := (Below.refl _ _).alloc (Nat.le_refl _) _
  rw [HRT.out] at hea
  have HB9 := Lib.hid (below_next (below_next HB8.out hb9) hal)
  have HR9 := Lib.hid ((HR8.out.next hb9).next hal)
  have HEA := Lib.hid hea
  clear hb9 hal hea f0 c0 hi0 hi1 hi2 hi3 h8 hi hj hV hg0 hgb
  unfold ev
  go_wp2_with (go_at_call 20; refine (N2.out _).mono ?_; rintro e wa ⟨rfl, rfl⟩)
  refine (wread_fail (erS ads) _ k c2 _ _ (HE.out.below HB9.out) (HR9.out.upto (by omega)) (by omega) (by omega) (HCUT.out k hkn)).mono ?_
  rintro e w10 ⟨eb, A10, c10, _, rfl, hb10⟩
  unfold mv mz ev
  have hal : Below w10.heap.size w10 (w10.alloc (.cells #[.int .i64 0, .int .u32 0, .int .u32 0, .int .u32 0, .int .u32 0, .int .i64 0, .int .i64 0, .bool false, .slice A10 0 c10] 28)) := (Below.refl _ _).alloc (Nat.le_refl _) _
  have HB10 := Lib.hid (below_next (below_next HB9.out hb10) hal)
  have HR10 := Lib.hid ((HR9.out.next hb10).next hal)
  clear hb10 hal
  go_wp2_with fail
  refine (rbytes_any _ L c2 X _ HR10.out (by omega)).mono ?_
  rintro e w11 ⟨g11, c11, rfl, hown11, hb11⟩
  have hB11 := below_next HB10.out hb11
  have HB11 := Lib.hid hB11
  clear hB11
  obtain ⟨i0, hi, hz0, hz1, hz2⟩ := info_parts info_u8
  go_wp2_with (at_builtin; refine wpList_append_br rfl _ _ 29 rfl _ 5 i0 Tryd.underlying29 hi hz0 hz1 hz2 _ L X rfl hown11 D d dc ys rfl (HD.out _ HB11.out) (by omega) (by omega) hb11.size ?_; intro v12 w12 hown12 hb12)
  obtain ⟨A12, c12, rfl⟩ := own_slicea hown12
  obtain ⟨hr12, hc12⟩ := own_br hown12 (HXB.out.append HDB.out)
  have HB12 := Lib.hid (below_next HB10.out (hb11.trans hb12))
  have HR12 := Lib.hid hr12
  have HC12 := Lib.hid hc12
  clear hown11 hb11 hown12 hb12 hr12 hc12 hz0 hz1 hz2 hi
  go_wp2_with fail
  refine (wread_good (erS ads) A12 (L + d) c12 (X ++ ys) _ (HE.out.below HB12.out) HR12.out (by omega) HC12.out (by rw [HYS.out, List.append_nil]; exact HRC.out)).mono ?_
  rintro e w13 ⟨A13, n13, c13, rfl, _, _, hb13⟩
  generalize mrd (X ++ ys) = m13 at *
  unfold mv
  have HB13 := Lib.hid (below_next HB12.out hb13)
  have hi := fun W (hW : Below w.heap.size w W) => is_code ads 105 (.inr ⟨4, by omega, by omega⟩) W (HS.out.below hW)
  rw [HEA.out] at hi
  unfold ev at hi
  have HI := Lib.hid hi
  clear hb13 hi
  go_wp2_with (go_at_call 12; refine (HI.out _ (HB13.out.alloc HB13.out.size _)).mono ?_; rintro e w14 ⟨rfl, hb14⟩)
  go_ret
  exact ⟨rfl, below_next (HB13.out.alloc HB13.out.size _) hb14⟩
set_option maxHeartbeats 16000000 in
set_option maxRecDepth 100000 in
theorem back_more (hS : EnvS ads w) (hw : wfm m) (hA : AR w A n m.l) (hc : mcode m = 0) (hD : BR w D d ys) (hd : d ≤ 40) (hd0 : 0 < d) :
    Calls Tryd.prog 4 #[mv m A n c, .int .i64 bit, .int .i64 cut, .slice D d dc] w fun e w' => e = .returned (.bool true) ∧ Below w.heap.size w w' := by
  have HD := Lib.hid (fun W (hW : Below w.heap.size w W) => hD.next hW)
  have hdl := hD.len
  have HDB := Lib.hid hD.isB
  have HB0 := Lib.hid (show Below w.heap.size w (w.alloc (.cells #[.int .i64 m.k, .int .u32 m.f, .int .u32 m.t, .int .u32 m.s, .int .u32 m.g, .int .i64 m.r, .int .i64 m.c, .bool m.o, .slice A n c] 28)) from (Below.refl _ _).alloc (Nat.le_refl _) _)
  have HK0 := Lib.hid (Blk.new w 28 #[.int .i64 m.k, .int .u32 m.f, .int .u32 m.t, .int .u32 m.s, .int .u32 m.g, .int .i64 m.r, .int .i64 m.c, .bool m.o, .slice A n c])
  have HS := Lib.hid hS
  have HE := Lib.hid (envM_of_S hS)
  have HF := Lib.hid (first_any (erS ads) _ (HE.out.1.below HB0.out))
  have hlen := mbs_len10 hc
  have hn4 : n ≤ 4 := by have := hA.len; have := (mcode_ok hc).2.2.1; omega
  have hXb := mbs_b hw hc
  have hXs := mbs_sum hw hc
  have hrc := mrc_of hw hc
  have hbk := (mback hw hc []).2.2.1
  rw [List.append_nil] at hbk
  have hcut := fun k (hk : k < (mbs m).length) => mrc_cut hw hc (c := k) hk
  have hmore := fun (zs : List Int) (hz : zs ≠ []) => mrc_more hw hc hz
  have hy := fun W (hW : Below w.heap.size w W) => wbytes_yes (erS ads) m A n c W (HE.out.below hW).1 hw (hA.next hW) hc
  unfold bytesOf at hy
  have hsm := fun A4 n4 c4 W (ha : AR W A4 n4 m.l) (hb : AR W A n m.l) (q : n4 ≤ 4) => wsame_any m m A4 A n4 c4 n c W ha hb (by omega) (by omega)
  have hrs := fun A4 n4 c4 W (ha : AR W A4 n4 m.l) (hb : AR W A n m.l) (q : n4 ≤ 4) => rsame_any m m A4 A n4 c4 n c W ha hb (by omega) (by omega)
  rw [sameB_self] at hsm hrs
  have hl := fun W => light_any m A n c W
  have hln20 : decide (n ≤ 20) = true := by simp; omega
  rw [hln20] at hl
  generalize hX : mbs m = X at *
  obtain ⟨L, hL⟩ : ∃ L, X.length = L := ⟨_, rfl⟩
  rw [hL] at hlen hcut hy
  have HY := Lib.hid hy
  have HSM := Lib.hid hsm
  have HRS := Lib.hid hrs
  have HLI := Lib.hid hl
  have HA := Lib.hid (fun W (hW : Below w.heap.size w W) => hA.next hW)
  have HXB := Lib.hid hXb
  have HXS := Lib.hid hXs
  have HRC := Lib.hid hrc
  have HBK := Lib.hid hbk
  have HCUT := Lib.hid hcut
  have HMORE := Lib.hid hmore
  have HL := Lib.hid hL
  obtain ⟨hl10, hl30⟩ := hlen
  unfold mv at *
  clear hS hw hA hc hX hXb hXs hrc hbk hcut hmore hy hsm hrs hl hln20 hL hn4
  have hdd : decide ((40 : Int) < (d : Int)) = false := by simp; omega
  have hys : ys ≠ [] := by intro e; rw [e] at hdl; simp at hdl; omega
  have hd1 : ((d : Int) == 0) = false := by simp; omega
  have HYS := Lib.hid hys
  obtain ⟨q, hq, hqn⟩ : ∃ q : Nat, bit % (8 * (L : Int)) = q ∧ q < 8 * L := by
    have e0 := Int.emod_nonneg bit (show 8 * (L : Int) ≠ 0 by omega)
    have e1 := Int.emod_lt_of_pos bit (show 0 < 8 * (L : Int) by omega)
    exact ⟨(bit % (8 * (L : Int))).toNat, by omega, by omega⟩
  obtain ⟨k, hk, hkn⟩ : ∃ k : Nat, cut % (L : Int) = k ∧ k < L := by
    have e0 := Int.emod_nonneg cut (show (L : Int) ≠ 0 by omega)
    have e1 := Int.emod_lt_of_pos cut (show 0 < (L : Int) by omega)
    exact ⟨(cut % (L : Int)).toNat, by omega, by omega⟩
  have N1 := Lib.hid (fun W => number_any bit (8 * (L : Int)) W (by omega) (by omega))
  have N2 := Lib.hid (fun W => number_any cut (L : Int) W (by omega) (by omega))
  rw [hq] at N1
  rw [hk] at N2
  have hl10' : ¬ ((L : Int) < 10) := by omega
  have HDL := Lib.hid hdl
  clear hq hk hD hdl hys
  have hdle40 : d ≤ 40 := by omega
  go_enter Tryd.func4, Tryd.ntmps4
  go_wp2_with fail
  refine HF.out.mono ?_
  rintro e w1 ⟨rfl, hb1⟩
  have hk1 := HK0.out.next hb1
  have x0 : w1.cell? ⟨w.heap.size, 0, none⟩ = _ := hk1.cell 0
  have x1 : w1.cell? ⟨w.heap.size, 1, none⟩ = _ := hk1.cell 1
  have x2 : w1.cell? ⟨w.heap.size, 2, none⟩ = _ := hk1.cell 2
  have x3 : w1.cell? ⟨w.heap.size, 3, none⟩ = _ := hk1.cell 3
  have x4 : w1.cell? ⟨w.heap.size, 4, none⟩ = _ := hk1.cell 4
  have x5 : w1.cell? ⟨w.heap.size, 5, none⟩ = _ := hk1.cell 5
  have x6 : w1.cell? ⟨w.heap.size, 6, none⟩ = _ := hk1.cell 6
  have x7 : w1.cell? ⟨w.heap.size, 7, none⟩ = _ := hk1.cell 7
  have x8 : w1.cell? ⟨w.heap.size, 8, none⟩ = _ := hk1.cell 8
  have HB1 := Lib.hid (below_next HB0.out hb1)
  have HK1 := Lib.hid hk1
  clear hb1 hk1
  go_wp2_with fail
  refine (HY.out _ HB1.out).mono ?_
  rintro e w2 ⟨A2, c2, rfl, hown2, hb2⟩
  obtain ⟨hr2, hc2⟩ := own_br hown2 HXB.out
  have hk2 := HK1.out.next hb2
  have HB2 := Lib.hid (below_next HB1.out hb2)
  have HK2 := Lib.hid hk2
  have HR2 := Lib.hid hr2
  have HC2 := Lib.hid hc2
  clear x0 x1 x2 x3 x4 x5 x6 x7 x8
  have x0 : w2.cell? ⟨w.heap.size, 0, none⟩ = _ := hk2.cell 0
  have x1 : w2.cell? ⟨w.heap.size, 1, none⟩ = _ := hk2.cell 1
  have x2 : w2.cell? ⟨w.heap.size, 2, none⟩ = _ := hk2.cell 2
  have x3 : w2.cell? ⟨w.heap.size, 3, none⟩ = _ := hk2.cell 3
  have x4 : w2.cell? ⟨w.heap.size, 4, none⟩ = _ := hk2.cell 4
  have x5 : w2.cell? ⟨w.heap.size, 5, none⟩ = _ := hk2.cell 5
  have x6 : w2.cell? ⟨w.heap.size, 6, none⟩ = _ := hk2.cell 6
  have x7 : w2.cell? ⟨w.heap.size, 7, none⟩ = _ := hk2.cell 7
  have x8 : w2.cell? ⟨w.heap.size, 8, none⟩ = _ := hk2.cell 8
  obtain ⟨b2, o2, rfl, _, _⟩ := HR2.out.2.2 (by omega)
  have hk0 : (0 : Int) ≤ (k : Int) := by omega
  have hk1 : (k : Int) ≤ (c2 : Int) := by omega
  clear hown2 hb2 hk2 hr2 hc2
  go_wp2_with fail
  refine (HLI.out _).mono ?_
  rintro e w3 ⟨rfl, hb3⟩
  have HB3 := Lib.hid (below_next HB2.out hb3)
  have HK3 := Lib.hid (HK2.out.next hb3)
  have HR3 := Lib.hid (HR2.out.next hb3)
  clear hb3
  clear x0 x1 x2 x3 x4 x5 x6 x7 x8
  go_wp2_with fail
  refine (wread_good (erS ads) _ L c2 X _ (HE.out.below HB3.out) HR3.out (by omega) HC2.out HRC.out).mono ?_
  rintro e w4 ⟨A4, n4, c4, rfl, ha4, hn4, hb4⟩
  rw [HBK.out] at ha4 ⊢
  unfold mv
  have hk4 := HK3.out.next hb4
  have hal : Below w4.heap.size w4 (w4.alloc (.cells #[.int .i64 m.k, .int .u32 m.f, .int .u32 m.t, .int .u32 m.s, .int .u32 m.g, .int .i64 m.r, .int .i64 m.c, .bool m.o, .slice A4 n4 c4] 28)) := (Below.refl _ _).alloc (Nat.le_refl _) _
  have HB4 := Lib.hid (below_next (below_next HB3.out hb4) hal)
  have HK4 := Lib.hid (hk4.next hal)
  have HM4 := Lib.hid (Blk.new w4 28 #[.int .i64 m.k, .int .u32 m.f, .int .u32 m.t, .int .u32 m.s, .int .u32 m.g, .int .i64 m.r, .int .i64 m.c, .bool m.o, .slice A4 n4 c4])
  have HR4 := Lib.hid ((HR3.out.next hb4).next hal)
  have HA4 := Lib.hid (ha4.next hal)
  have HN4 := Lib.hid hn4
  have hlk := hk4.lt
  have hne : w.heap.size ≠ w4.heap.size := by omega
  have hne' := hne.symm
  have x0 : w4.cell? ⟨w.heap.size, 0, none⟩ = _ := hk4.cell 0
  have x1 : w4.cell? ⟨w.heap.size, 1, none⟩ = _ := hk4.cell 1
  have x2 : w4.cell? ⟨w.heap.size, 2, none⟩ = _ := hk4.cell 2
  have x3 : w4.cell? ⟨w.heap.size, 3, none⟩ = _ := hk4.cell 3
  have x4 : w4.cell? ⟨w.heap.size, 4, none⟩ = _ := hk4.cell 4
  have x5 : w4.cell? ⟨w.heap.size, 5, none⟩ = _ := hk4.cell 5
  have x6 : w4.cell? ⟨w.heap.size, 6, none⟩ = _ := hk4.cell 6
  have x7 : w4.cell? ⟨w.heap.size, 7, none⟩ = _ := hk4.cell 7
  have x8 : w4.cell? ⟨w.heap.size, 8, none⟩ = _ := hk4.cell 8
  clear hb4 ha4 hn4 hal hk4
  go_wp2_with fail
  refine (HSM.out _ _ _ _ HA4.out (HA.out _ HB4.out) HN4.out).mono ?_
  rintro e w5 ⟨rfl, hb5⟩
  have hk5 := HK4.out.next hb5
  have hm5 := HM4.out.next hb5
  have HB5 := Lib.hid (below_next HB4.out hb5)
  have HK5 := Lib.hid hk5
  have HR5 := Lib.hid (HR4.out.next hb5)
  have HA5 := Lib.hid (HA4.out.next hb5)
  clear x0 x1 x2 x3 x4 x5 x6 x7 x8
  have x0 : w5.cell? ⟨w.heap.size, 0, none⟩ = _ := hk5.cell 0
  have x1 : w5.cell? ⟨w.heap.size, 1, none⟩ = _ := hk5.cell 1
  have x2 : w5.cell? ⟨w.heap.size, 2, none⟩ = _ := hk5.cell 2
  have x3 : w5.cell? ⟨w.heap.size, 3, none⟩ = _ := hk5.cell 3
  have x4 : w5.cell? ⟨w.heap.size, 4, none⟩ = _ := hk5.cell 4
  have x5 : w5.cell? ⟨w.heap.size, 5, none⟩ = _ := hk5.cell 5
  have x6 : w5.cell? ⟨w.heap.size, 6, none⟩ = _ := hk5.cell 6
  have x7 : w5.cell? ⟨w.heap.size, 7, none⟩ = _ := hk5.cell 7
  have x8 : w5.cell? ⟨w.heap.size, 8, none⟩ = _ := hk5.cell 8
  have y0 : w5.cell? ⟨w4.heap.size, 0, none⟩ = _ := hm5.cell 0
  have y1 : w5.cell? ⟨w4.heap.size, 1, none⟩ = _ := hm5.cell 1
  have y2 : w5.cell? ⟨w4.heap.size, 2, none⟩ = _ := hm5.cell 2
  have y3 : w5.cell? ⟨w4.heap.size, 3, none⟩ = _ := hm5.cell 3
  have y4 : w5.cell? ⟨w4.heap.size, 4, none⟩ = _ := hm5.cell 4
  have y5 : w5.cell? ⟨w4.heap.size, 5, none⟩ = _ := hm5.cell 5
  have y6 : w5.cell? ⟨w4.heap.size, 6, none⟩ = _ := hm5.cell 6
  have y7 : w5.cell? ⟨w4.heap.size, 7, none⟩ = _ := hm5.cell 7
  have y8 : w5.cell? ⟨w4.heap.size, 8, none⟩ = _ := hm5.cell 8
  clear hb5 hk5 hm5
  go_wp2_with fail
  refine (HRS.out _ _ _ _ HA5.out (HA.out _ HB5.out) HN4.out).mono ?_
  rintro e w6 ⟨rfl, hb6⟩
  have HB6 := Lib.hid (below_next HB5.out hb6)
  have HR6 := Lib.hid (HR5.out.next hb6)
  clear hb6 hne hne' hlk
  clear x0 x1 x2 x3 x4 x5 x6 x7 x8
  clear y0 y1 y2 y3 y4 y5 y6 y7 y8
  go_wp2_with (go_at_call 20; refine (N1.out _).mono ?_; rintro e wa ⟨rfl, rfl⟩)
  refine (rbytes_any _ L c2 X _ HR6.out (by omega)).mono ?_
  rintro e w7 ⟨g, c7, rfl, hown7, hb7⟩
  have hL := HL.out
  have hi : q / 8 < L := by omega
  have hj : q % 8 < 8 := by omega
  have f0 : w7.frozen? ⟨g, q / 8, none⟩ = false := hown7.frozenAt (q / 8)
  have c0 : w7.cell? ⟨g, q / 8, none⟩ = some (.int .u8 (X.getD (q / 8) 0)) := (hown7.cellAt (q / 8) (by omega)).trans (B8_at (by omega))
  have hi0 : ((q / 8 : Nat) : Int) < L := by omega
  have hi1 : (q : Int) / 8 < L := by omega
  have hi2 : (0 : Int) ≤ (q : Int) / 8 := by omega
  have hi3 : ((q : Int) / 8).toNat = q / 8 := by omega
  have h8 := two8_mod hj
  have ht := turned HXB.out HXS.out (show q / 8 < X.length by omega) hj
  have htb := turned_b HXB.out (q / 8) hj
  have hrt : mrc (X.set (q / 8) (bits .xor .u8 (X.getD (q / 8) 0) (2 ^ (q % 8)))) = 105 := mrc_sum (by simp; omega) ht
  generalize X.getD (q / 8) 0 = u at *
  generalize hV : bits .xor .u8 u (2 ^ (q % 8)) = V at *
  have hgb := (hown7.lt g rfl).1
  have hg0 : w.heap.size ≤ g := Nat.le_trans HB6.out.size hgb
  have hown8 := own_set hown7 (q / 8) V
  have hst : Below w6.heap.size w6 (w7.setCell ⟨g, q / 8, none⟩ (.int .u8 V)) := below_store hb7 hgb _
  obtain ⟨_, _, he, hnc8, hr8, _⟩ := own_form hown8 htb
  simp only [Value.slice.injEq, true_and] at he
  obtain ⟨rfl, rfl⟩ := he
  have HT := Lib.hid hr8
  have HC8 := Lib.hid hnc8
  have HRT := Lib.hid hrt
  have HB8 := Lib.hid (below_next HB6.out hst)
  have HR8 := Lib.hid (HR6.out.next hst)
  clear hown7 hown8 hb7 ht htb hrt hr8 hnc8 hst hL
  go_wp2_with fail
  refine (wread_fail (erS ads) _ L c7 _ _ (HE.out.below HB8.out) HT.out (by omega) HC8.out (by rw [HRT.out]; omega)).mono ?_
  rintro e w9 ⟨ea, A9, c9, hea, rfl, hb9⟩
  unfold mv mz
  have hal : Below w9.heap.size w9 (w9.alloc (.cells #[.int .i64 0, .int .u32 0, .int .u32 0, .int .u32 0, .int .u32 0, .int .i64 0, .int .i64 0, .bool false, .slice A9 0 c9] 28)) := (Below.refl _ _).alloc (Nat.le_refl _) _
  rw [HRT.out] at hea
  have HB9 := Lib.hid (below_next (below_next HB8.out hb9) hal)
  have HR9 := Lib.hid ((HR8.out.next hb9).next hal)
  have HEA := Lib.hid hea
  clear hb9 hal hea f0 c0 hi0 hi1 hi2 hi3 h8 hi hj hV hg0 hgb
  unfold ev
  go_wp2_with (go_at_call 20; refine (N2.out _).mono ?_; rintro e wa ⟨rfl, rfl⟩)
  refine (wread_fail (erS ads) _ k c2 _ _ (HE.out.below HB9.out) (HR9.out.upto (by omega)) (by omega) (by omega) (HCUT.out k hkn)).mono ?_
  rintro e w10 ⟨eb, A10, c10, _, rfl, hb10⟩
  unfold mv mz ev
  have hal : Below w10.heap.size w10 (w10.alloc (.cells #[.int .i64 0, .int .u32 0, .int .u32 0, .int .u32 0, .int .u32 0, .int .i64 0, .int .i64 0, .bool false, .slice A10 0 c10] 28)) := (Below.refl _ _).alloc (Nat.le_refl _) _
  have HB10 := Lib.hid (below_next (below_next HB9.out hb10) hal)
  have HR10 := Lib.hid ((HR9.out.next hb10).next hal)
  clear hb10 hal
  go_wp2_with fail
  refine (rbytes_any _ L c2 X _ HR10.out (by omega)).mono ?_
  rintro e w11 ⟨g11, c11, rfl, hown11, hb11⟩
  have hB11 := below_next HB10.out hb11
  have HB11 := Lib.hid hB11
  clear hB11
  obtain ⟨i0, hi, hz0, hz1, hz2⟩ := info_parts info_u8
  go_wp2_with (at_builtin; refine wpList_append_br rfl _ _ 29 rfl _ 5 i0 Tryd.underlying29 hi hz0 hz1 hz2 _ L X rfl hown11 D d dc ys rfl (HD.out _ HB11.out) (by omega) (by omega) hb11.size ?_; intro v12 w12 hown12 hb12)
  obtain ⟨A12, c12, rfl⟩ := own_slicea hown12
  obtain ⟨hr12, hc12⟩ := own_br hown12 (HXB.out.append HDB.out)
  have HB12 := Lib.hid (below_next HB10.out (hb11.trans hb12))
  have HR12 := Lib.hid hr12
  have HC12 := Lib.hid hc12
  clear hown11 hb11 hown12 hb12 hr12 hc12 hz0 hz1 hz2 hi
  go_wp2_with fail
  refine (wread_fail (erS ads) A12 (L + d) c12 (X ++ ys) _ (HE.out.below HB12.out) HR12.out (by omega) HC12.out (HMORE.out ys HYS.out)).mono ?_
  rintro e w13 ⟨ec, A13, c13, _, rfl, hb13⟩
  unfold mv mz ev
  have HB13 := Lib.hid (below_next HB12.out hb13)
  have hi := fun W (hW : Below w.heap.size w W) => is_code ads 105 (.inr ⟨4, by omega, by omega⟩) W (HS.out.below hW)
  rw [HEA.out] at hi
  unfold ev at hi
  have HI := Lib.hid hi
  clear hb13 hi
  go_wp2_with (go_at_call 12; refine (HI.out _ (HB13.out.alloc HB13.out.size _)).mono ?_; rintro e w14 ⟨rfl, hb14⟩)
  go_ret
  exact ⟨rfl, below_next (HB13.out.alloc HB13.out.size _) hb14⟩
theorem law_back (hS : EnvS ads w) (hw : wfm m) (hA : AR w A n m.l) (hD : BR w D d ys) :
    Calls Tryd.prog 4 #[mv m A n c, .int .i64 bit, .int .i64 cut, .slice D d dc] w fun e w' => e = .returned (.bool true) ∧ Below w.heap.size w w' := by
  by_cases hc : mcode m = 0
  · by_cases hd : 40 < d
    · exact back_big ads m A n c bit cut D d dc w hS hw hA hc hd
    · by_cases h0 : d = 0
      · exact back_zero ads m A n c bit cut D d dc ys w hS hw hA hc hD h0
      · exact back_more ads m A n c bit cut D d dc ys w hS hw hA hc hD (by omega) (by omega)
  · exact back_no ads m A n c bit cut D d dc w hS hw hA hc
end
end Go.Proofs.YtfcfnfofihpegaaDoor
