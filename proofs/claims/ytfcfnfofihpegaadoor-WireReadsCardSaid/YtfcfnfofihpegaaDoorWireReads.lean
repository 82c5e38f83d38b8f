/- WireReads, walked. -/
import Derived.Test.YtfcfnfofihpegaaDoorWl2
namespace Go.Proofs.YtfcfnfofihpegaaDoor
open Go.RowKit Sm
section
variable (er : Int → Value) (A : Option Addr) (n c : Nat) (xs : List Int) (w : World)
theorem reads_big (hE : EnvM er w) (hn : 200 < n) :
    Calls Tryd.prog 5 #[.slice A n c] w fun e w' => e = .returned (.bool true) ∧ Below w.heap.size w w' := by
  have HF := Lib.hid (first_any er w hE.1)
  have hd : decide ((200 : Int) < (n : Int)) = true := by simp; omega
  clear hE hn
  go_enter Tryd.func5, Tryd.ntmps5
  go_wp2_with fail
  refine HF.out.mono ?_
  rintro e w1 ⟨rfl, hb1⟩
  go_wp2
  go_ret
  exact ⟨rfl, hb1⟩
set_option maxHeartbeats 4000000 in
theorem reads_no (hE : EnvM er w) (h : BR w A n xs) (hn : n ≤ 200) (hcap : n ≤ c) (h0 : mrc xs ≠ 0) :
    Calls Tryd.prog 5 #[.slice A n c] w fun e w' => e = .returned (.bool true) ∧ Below w.heap.size w w' := by
  have HF := Lib.hid (first_any er w hE.1)
  have hd : decide ((200 : Int) < (n : Int)) = false := by simp; omega
  have HR := Lib.hid (fun W (hW : Below w.heap.size w W) => wread_fail er A n c xs W (hE.below hW) (h.next hW) (by omega) hcap h0)
  unfold mv mz ev at HR
  clear hE hn h hcap h0
  go_enter Tryd.func5, Tryd.ntmps5
  go_wp2_with fail
  refine HF.out.mono ?_
  rintro e w1 ⟨rfl, hb1⟩
  have HB1 := Lib.hid hb1
  clear hb1
  go_wp2_with fail
  refine (HR.out _ HB1.out).mono ?_
  rintro e w2 ⟨ea, A2, c2, _, rfl, hb2⟩
  have HB2 := Lib.hid (below_next HB1.out hb2)
  clear hb2
  go_wp2
  go_ret
  exact ⟨rfl, HB2.out.alloc HB2.out.size _⟩
set_option maxHeartbeats 8000000 in
theorem reads_yes (hE : EnvM er w) (h : BR w A n xs) (hn : n ≤ 200) (hcap : n ≤ c) (h0 : mrc xs = 0) :
    Calls Tryd.prog 5 #[.slice A n c] w fun e w' => e = .returned (.bool true) ∧ Below w.heap.size w w' := by
  have HF := Lib.hid (first_any er w hE.1)
  have hd : decide ((200 : Int) < (n : Int)) = false := by simp; omega
  have hr := fun W (hW : Below w.heap.size w W) => wread_good er A n c xs W (hE.below hW) (h.next hW) (by omega) hcap h0
  have hm0 := (mrc_ok h0).2.2.2.2.2.2.2
  have hmw := mrd_wf h.isB
  obtain ⟨hlen, hsame⟩ := mrd_again h.isB h0
  have hmb := mbs_b hmw hm0
  have hrc := mrc_of hmw hm0
  have hbk := (mback hmw hm0 []).2.2.1
  rw [List.append_nil] at hbk
  have hln := h.len
  generalize mrd xs = m at *
  generalize hX : mbs m = X at *
  have hy := fun A2 n2 c2 W (hEW : EnvM er W) (ha : AR W A2 n2 m.l) => wbytes_yes er m A2 n2 c2 W hEW.1 hmw ha hm0
  have hv := fun A2 n2 c2 W (hEW : EnvM er W) (ha : AR W A2 n2 m.l) => valid_any er m A2 n2 c2 W hEW.1 hmw ha
  have hs := fun A2 n2 c2 A7 n7 c7 W (ha : AR W A2 n2 m.l) (hb : AR W A7 n7 m.l) (q1 : n2 ≤ 4) (q2 : n7 ≤ 4) => wsame_any m m A2 A7 n2 c2 n7 c7 W ha hb (by omega) (by omega)
  have hr2 := fun A3 n3 c3 W (hEW : EnvM er W) (hb : BR W A3 n3 X) (q1 : n3 ≤ 1048576) (q2 : n3 ≤ c3) => wread_good er A3 n3 c3 X W hEW hb q1 q2 hrc
  rw [hm0, hE.1.1] at hv
  rw [sameB_self] at hs
  rw [hX] at hy
  rw [hbk] at hr2
  unfold bytesOf at hy
  rw [hlen, hln] at hy
  have HR := Lib.hid hr
  have HY := Lib.hid hy
  have HV := Lib.hid hv
  have HS := Lib.hid hs
  have HR2 := Lib.hid hr2
  have HX := Lib.hid hmb
  have HSM := Lib.hid hsame
  have HH := Lib.hid h
  have HE := Lib.hid hE
  have hn1 : n ≤ 1048576 := by omega
  unfold mv at *
  clear hE h hcap h0 hm0 hmw hlen hsame hmb hrc hbk hln hy hv hs hr hr2 hX hn
  go_enter Tryd.func5, Tryd.ntmps5
  go_wp2_with fail
  refine HF.out.mono ?_
  rintro e w1 ⟨rfl, hb1⟩
  have HB1 := Lib.hid hb1
  clear hb1
  go_wp2_with fail
  refine (HR.out _ HB1.out).mono ?_
  rintro e w2 ⟨A2, n2, c2, rfl, ha2, hn2, hb2⟩
  have hB2 := below_next HB1.out hb2
  have hal : Below w2.heap.size w2 (w2.alloc (.cells #[.int .i64 m.k, .int .u32 m.f, .int .u32 m.t, .int .u32 m.s, .int .u32 m.g, .int .i64 m.r, .int .i64 m.c, .bool m.o, .slice A2 n2 c2] 28)) := (Below.refl _ _).alloc (Nat.le_refl _) _
  have hB2 := below_next hB2 hal
  have hM2 := Blk.new w2 28 #[.int .i64 m.k, .int .u32 m.f, .int .u32 m.t, .int .u32 m.s, .int .u32 m.g, .int .i64 m.r, .int .i64 m.c, .bool m.o, .slice A2 n2 c2]
  have hA2 := ha2.next hal
  have HB2 := Lib.hid hB2
  have HM2 := Lib.hid hM2
  have HA2 := Lib.hid hA2
  have HN2 := Lib.hid hn2
  clear hb2 ha2 hal hB2 hM2 hA2 hn2
  go_wp2_with fail
  refine (HY.out _ _ _ _ (HE.out.below HB2.out) HA2.out).mono ?_
  rintro e w3 ⟨A3, c3, rfl, hown3, hb3⟩
  obtain ⟨hr3, hc3⟩ := own_br hown3 HX.out
  have hM3 := HM2.out.next hb3
  have HM3 := Lib.hid hM3
  have HA3 := Lib.hid (HA2.out.next hb3)
  have HB3 := Lib.hid (below_next HB2.out hb3)
  have HR3 := Lib.hid hr3
  have HC3 := Lib.hid hc3
  have x0 : w3.cell? ⟨w2.heap.size, 0, none⟩ = _ := hM3.cell 0
  have x1 : w3.cell? ⟨w2.heap.size, 1, none⟩ = _ := hM3.cell 1
  have x2 : w3.cell? ⟨w2.heap.size, 2, none⟩ = _ := hM3.cell 2
  have x3 : w3.cell? ⟨w2.heap.size, 3, none⟩ = _ := hM3.cell 3
  have x4 : w3.cell? ⟨w2.heap.size, 4, none⟩ = _ := hM3.cell 4
  have x5 : w3.cell? ⟨w2.heap.size, 5, none⟩ = _ := hM3.cell 5
  have x6 : w3.cell? ⟨w2.heap.size, 6, none⟩ = _ := hM3.cell 6
  have x7 : w3.cell? ⟨w2.heap.size, 7, none⟩ = _ := hM3.cell 7
  have x8 : w3.cell? ⟨w2.heap.size, 8, none⟩ = _ := hM3.cell 8
  clear hown3 hb3 hr3 hc3 hM3
  go_wp2_with fail
  refine (HV.out _ _ _ _ (HE.out.below HB3.out) HA3.out).mono ?_
  rintro e w4 ⟨rfl, hb4⟩
  have HM4 := Lib.hid (HM3.out.next hb4)
  have HA4 := Lib.hid (HA3.out.next hb4)
  have HB4 := Lib.hid (below_next HB3.out hb4)
  have HR4 := Lib.hid (HR3.out.next hb4)
  clear hb4 x0 x1 x2 x3 x4 x5 x6 x7 x8
  go_wp2_with fail
  go_loopw [8] (fun i wr => ∃ k : Nat, k ≤ n ∧ i = .int .i64 k ∧ Below w4.heap.size w4 wr) (fun i _ => n - (intOf i).toNat)
  case atStart => exact ⟨0, Nat.zero_le _, rfl, Below.refl _ _⟩
  case round =>
    obtain ⟨k, hk, rfl, hbw⟩ := hrel
    rcases Nat.lt_or_ge k n with hlt | hge
    · have hi0 : (k : Int) < n := by omega
      obtain ⟨b, o, rfl, _, hc0⟩ := (HH.out.next (below_next HB4.out hbw)).at_ hlt
      obtain ⟨b', o', rfl, _, hc1⟩ := (HR4.out.next hbw).at_ hlt
      have HB := Lib.hid hbw
      clear hbw
      by_cases h2 : k = 2
      · subst h2
        clear hc0 hc1
        go_wp2_with fail
        go_quiet (fail)
        go_wp2
        go_roundw
        case rel => exact ⟨3, by omega, by go_num, below_drewN HB.out _⟩
        case measure => simp [intOf]; omega
      by_cases h3 : k = 3
      · subst h3
        clear hc0 hc1
        go_wp2_with fail
        go_quiet (fail)
        go_wp2
        go_roundw
        case rel => exact ⟨4, by omega, by go_num, below_drewN HB.out _⟩
        case measure => simp [intOf]; omega
      have e := HSM.out k h2 h3
      rw [e] at hc1
      have d2 : ((k : Int) != 2) = true := by simp; omega
      have d3 : ((k : Int) != 3) = true := by simp; omega
      clear e
      generalize xs.getD k 0 = u at *
      go_wp2_with fail
      go_quiet (fail)
      go_wp2
      go_roundw
      case rel => exact ⟨k + 1, by omega, by go_num, below_drewN HB.out _⟩
      case measure => simp [intOf]; omega
    · obtain rfl : k = n := by omega
      have HB5 := Lib.hid (below_next HB4.out hbw)
      have HM5 := Lib.hid (HM4.out.next hbw)
      have HA5 := Lib.hid (HA4.out.next hbw)
      have HR5 := Lib.hid (HR4.out.next hbw)
      clear hbw
      go_wp2_with fail
      refine (HR2.out _ _ _ _ (HE.out.below HB5.out) HR5.out hn1 HC3.out).mono ?_
      rintro e w6 ⟨A7, n7, c7, rfl, ha7, hn7, hb6⟩
      have hM6 := HM5.out.next hb6
      have hA6 := HA5.out.next hb6
      have hal : Below w6.heap.size w6 (w6.alloc (.cells #[.int .i64 m.k, .int .u32 m.f, .int .u32 m.t, .int .u32 m.s, .int .u32 m.g, .int .i64 m.r, .int .i64 m.c, .bool m.o, .slice A7 n7 c7] 28)) := (Below.refl _ _).alloc (Nat.le_refl _) _
      have HB6 := Lib.hid (below_next (below_next HB5.out hb6) hal)
      have HA6 := Lib.hid (hA6.next hal)
      have HA7 := Lib.hid (ha7.next hal)
      have HN7 := Lib.hid hn7
      have hlm := hM6.lt
      have hne : w2.heap.size ≠ w6.heap.size := by omega
      have hne' := hne.symm
      have x0 : w6.cell? ⟨w2.heap.size, 0, none⟩ = _ := hM6.cell 0
      have x1 : w6.cell? ⟨w2.heap.size, 1, none⟩ = _ := hM6.cell 1
      have x2 : w6.cell? ⟨w2.heap.size, 2, none⟩ = _ := hM6.cell 2
      have x3 : w6.cell? ⟨w2.heap.size, 3, none⟩ = _ := hM6.cell 3
      have x4 : w6.cell? ⟨w2.heap.size, 4, none⟩ = _ := hM6.cell 4
      have x5 : w6.cell? ⟨w2.heap.size, 5, none⟩ = _ := hM6.cell 5
      have x6 : w6.cell? ⟨w2.heap.size, 6, none⟩ = _ := hM6.cell 6
      have x7 : w6.cell? ⟨w2.heap.size, 7, none⟩ = _ := hM6.cell 7
      have x8 : w6.cell? ⟨w2.heap.size, 8, none⟩ = _ := hM6.cell 8
      clear hM6 hA6 ha7 hn7 hb6 hal
      go_wp2_with (go_at_call 14; refine (HS.out _ _ _ _ _ _ _ HA6.out HA7.out HN2.out HN7.out).mono ?_; rintro e w7 ⟨rfl, hb7⟩)
      go_ret
      exact ⟨rfl, below_next HB6.out hb7⟩
theorem law_reads (hE : EnvM er w) (h : BR w A n xs) (hcap : n ≤ c) :
    Calls Tryd.prog 5 #[.slice A n c] w fun e w' => e = .returned (.bool true) ∧ Below w.heap.size w w' := by
  by_cases hn : 200 < n
  · exact reads_big er A n c w hE hn
  by_cases h0 : mrc xs = 0
  · exact reads_yes er A n c xs w hE h (by omega) hcap h0
  · exact reads_no er A n c xs w hE h (by omega) hcap h0
end
end Go.Proofs.YtfcfnfofihpegaaDoor
