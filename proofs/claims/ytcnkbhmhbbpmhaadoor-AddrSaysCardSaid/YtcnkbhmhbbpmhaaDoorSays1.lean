/- AddrSays where the second prefix is valid. -/
import Derived.Test.YtcnkbhmhbbpmhaaDoorSaysK
namespace Go.Proofs.YtcnkbhmhbbpmhaaDoor
open Go.RowKit
set_option maxRecDepth 100000 in
set_option maxHeartbeats 16000000 in
theorem says_1 (s : ByteArray) (a pa pb qa qb n : Int) (ads : List Addr) (b : Addr) (w : World) (hs : s.size ≤ 60) (hT : EnvT w) (hE : EnvP (ev b) w) (hS : EnvS ads w) (hb : ads[7]? = some b)
    (a0 : 0 ≤ a) (a1 : a ≤ 4294967295) (p0 : 0 ≤ pa) (p1 : pa ≤ 4294967295) (q0 : 0 ≤ qa) (q1 : qa ≤ 4294967295) (hv : Ad.valid qa qb = true) :
    Calls Tryd.prog 3 #[.string s, .int .u32 a, .agg #[.int .u32 pa, .int .i64 pb], .agg #[.int .u32 qa, .int .i64 qb], .int .i64 n] w fun e w' => e = .returned (.bool true) ∧ Below w.heap.size w w' := by
  have HT := Lib.hid hT
  have HE := Lib.hid hE
  have HS := Lib.hid hS
  have HIs0 := (fun W h => is_any ads 7 b 108 W h (by decide) hb)
  rw [show (((101 + 7 : Nat) : Int) == 108) = true from rfl] at HIs0
  unfold ev at HIs0
  have HIs := Lib.hid HIs0
  have HPa := Lib.hid (fun W h => parse_any s (.iface 122 (.pointer (some b))) W (by omega) h)
  have HRa := Lib.hid (fun W => rparse_any s W hs)
  have HPf := Lib.hid (fun W h => pref_any s 122 b W (by omega) h)
  have HRf := Lib.hid (fun W => rpref_any s W hs)
  obtain ⟨x, E, is, hx1, hx2, hx⟩ := parse_gen (.iface 122 (.pointer (some b))) (Ad.parse s)
  obtain ⟨ua, ub, F, has, hy1, hy2, hy⟩ := pref_gen (.iface 122 (.pointer (some b))) (Ad.pref s)
  rw [hx1] at HPa
  rw [hx2] at HRa
  rw [hy1] at HPf
  rw [hy2] at HRf
  have HX := Lib.hid hx
  have HY := Lib.hid hy
  unfold nilOr at HX HY
  have HSm := Lib.hid (fun W => same_any ua ub ua ub W)
  rw [show (decide (ua = ua) && decide (ub = ub)) = true by simp] at HSm
  have HTx := Lib.hid (fun W h => text_any a W a0 a1 h)
  have HRt := Lib.hid (fun W h => rtext_any a W a0 a1 h)
  generalize Ad.text a = T at HTx HRt
  have HVp := Lib.hid (fun W => valid_any pa pb W p0 p1)
  have HVr := Lib.hid (fun W => rvalid_any pa pb W p0 p1)
  have HIp := Lib.hid (fun W => in_any pa pb a W p0 p1 a0 a1)
  have HIr := Lib.hid (fun W => rin_any pa pb a W p0 p1 a0 a1)
  have HWp := Lib.hid (fun W => within_any pa pb qa qb W p0 p1 q0 q1)
  have HVq := Lib.hid (fun W => rvalid_any qa qb W q0 q1)
  rw [hv] at HVq
  have HWr := Lib.hid (fun W => rwithin_any pa pb qa qb W p0 p1 q0 q1)
  generalize Ad.within pa pb qa qb = bw at HWp HWr
  generalize Ad.isIn pa pb a = bi at HIp HIr
  generalize Ad.valid pa pb = bv at HVp HVr
  have HOf := Lib.hid (fun W => (of_any (a / 16777216) (a / 65536 % 256) (a / 256 % 256) (a % 256) W (by omega) (by omega) (by omega) (by omega) (by omega) (by omega) (by omega) (by omega)).mono (fun e w' h => (⟨h.1.trans (ret_int (show _ = a by omega)), h.2⟩ : e = .returned (.int .u32 a) ∧ Below W.heap.size W w')))
  have E3 := and255 a a0 a1
  clear HIs0 hT hE hS hb hx hx1 hx2 hy hy1 hy2 hv
  go_enter Tryd.func3, Tryd.ntmps3
  go_wp2_with fail
  have hp := (Blk.new w 25 #[.int .u32 pa, .int .i64 pb]).alloc (.cells #[.int .u32 qa, .int .i64 qb] 25)
  have hq := Blk.new (w.alloc (.cells #[.int .u32 pa, .int .i64 pb] 25)) 25 #[.int .u32 qa, .int .i64 qb]
  rw [show (w.alloc (.cells #[.int .u32 pa, .int .i64 pb] 25)).heap.size = w.heap.size + 1 by simp] at hq
  have hW := ((Below.refl w.heap.size w).alloc (Nat.le_refl _) (.cells #[.int .u32 pa, .int .i64 pb] 25)).alloc (by simp) (.cells #[.int .u32 qa, .int .i64 qb] 25)
  have HP0 := Lib.hid hp
  have HQ0 := Lib.hid hq
  have HW0 := Lib.hid hW
  clear hp hq hW
  refine (first_any _ (HT.out.below HW0.out)).mono ?_
  rintro e w1 ⟨rfl, hb⟩
  have HW1 := Lib.hid (HW0.out.trans (hb.mono HW0.out.size))
  have HP1 := Lib.hid (HP0.out.next hb)
  have HQ1 := Lib.hid (HQ0.out.next hb)
  clear hb HW0 HP0 HQ0
  go_wp2_with fail
  refine (HPa.out _ (HE.out.below HW1.out)).mono ?_
  rintro e w2 ⟨rfl, hb⟩
  have HW2 := Lib.hid (HW1.out.trans (hb.mono HW1.out.size))
  have HP2 := Lib.hid (HP1.out.next hb)
  have HQ2 := Lib.hid (HQ1.out.next hb)
  clear hb HW1 HP1 HQ1
  go_wp2_with fail
  refine (HRa.out _).mono ?_
  rintro e w' ⟨rfl, rfl⟩
  go_wp2_with fail
  refine (HPf.out _ (HE.out.below HW2.out)).mono ?_
  rintro e w3 ⟨rfl, hb⟩
  have HW3 := Lib.hid (HW2.out.trans (hb.mono HW2.out.size))
  have HP3 := Lib.hid (HP2.out.next hb)
  have HQ3 := Lib.hid (HQ2.out.next hb)
  clear hb HW2 HP2 HQ2
  go_wp2_with fail
  have HW4 := Lib.hid (HW3.out.alloc HW3.out.size (.cells #[.int .u32 ua, .int .i64 ub] 25))
  have HP4 := Lib.hid (HP3.out.alloc (.cells #[.int .u32 ua, .int .i64 ub] 25))
  have HQ4 := Lib.hid (HQ3.out.alloc (.cells #[.int .u32 ua, .int .i64 ub] 25))
  have HU4 := Lib.hid (Blk.new w3 25 #[.int .u32 ua, .int .i64 ub])
  clear HW3 HP3 HQ3
  refine (HRf.out _).mono ?_
  rintro e w5 ⟨rfl, hb⟩
  have HW5 := Lib.hid (HW4.out.trans (hb.mono HW4.out.size))
  have HP5 := Lib.hid (HP4.out.next hb)
  have HQ5 := Lib.hid (HQ4.out.next hb)
  have HU5 := Lib.hid (HU4.out.next hb)
  clear hb HW4 HP4 HQ4 HU4
  go_upto_region 10 with fail
  have HW6 := Lib.hid (HW5.out.alloc HW5.out.size (.cells #[.int .u32 ua, .int .i64 ub] 25))
  have HP6 := Lib.hid (HP5.out.alloc (.cells #[.int .u32 ua, .int .i64 ub] 25))
  have HQ6 := Lib.hid (HQ5.out.alloc (.cells #[.int .u32 ua, .int .i64 ub] 25))
  have HU6 := Lib.hid (HU5.out.alloc (.cells #[.int .u32 ua, .int .i64 ub] 25))
  have HV6 := Lib.hid (Blk.new w5 25 #[.int .u32 ua, .int .i64 ub])
  clear HW5 HP5 HQ5 HU5
  go_cut [85] from 21 (fun s85 wc => s85 = .bool false ∧ Blk wc w.heap.size 25 #[.int .u32 pa, .int .i64 pb] ∧ Blk wc (w.heap.size + 1) 25 #[.int .u32 qa, .int .i64 qb] ∧ Below w.heap.size w wc)
  case first =>
    have cU0 : (w5.alloc (.cells #[.int .u32 ua, .int .i64 ub] 25)).cell? ⟨w3.heap.size, 0, none⟩ = some (.int .u32 ua) := HU6.out.cell 0
    have cU1 : (w5.alloc (.cells #[.int .u32 ua, .int .i64 ub] 25)).cell? ⟨w3.heap.size, 1, none⟩ = some (.int .i64 ub) := HU6.out.cell 1
    have lU : w3.heap.size < (w5.alloc (.cells #[.int .u32 ua, .int .i64 ub] 25)).heap.size := HU6.out.lt
    have cV0 : (w5.alloc (.cells #[.int .u32 ua, .int .i64 ub] 25)).cell? ⟨w5.heap.size, 0, none⟩ = some (.int .u32 ua) := HV6.out.cell 0
    have cV1 : (w5.alloc (.cells #[.int .u32 ua, .int .i64 ub] 25)).cell? ⟨w5.heap.size, 1, none⟩ = some (.int .i64 ub) := HV6.out.cell 1
    have lV : w5.heap.size < (w5.alloc (.cells #[.int .u32 ua, .int .i64 ub] 25)).heap.size := HV6.out.lt
    rcases HX.out with ⟨rfl, rfl⟩ | ⟨rfl, rfl⟩
    all_goals rcases HY.out with ⟨rfl, rfl⟩ | ⟨rfl, rfl⟩
    ·
      go_wp2_with fail
      clear lU cU0 cU1 lV cV0 cV1
      refine (HSm.out _).mono ?_
      rintro e w7 ⟨rfl, hb⟩
      have HW7 := Lib.hid (HW6.out.trans (hb.mono HW6.out.size))
      have HP7 := Lib.hid (HP6.out.next hb)
      have HQ7 := Lib.hid (HQ6.out.next hb)
      have HU7 := Lib.hid (HU6.out.next hb)
      have HV7 := Lib.hid (HV6.out.next hb)
      clear hb HW6 HP6 HQ6 HU6 HV6
      go_wp2_with fail
      go_meet
      case rel => exact ⟨rfl, HP7.out, HQ7.out, HW7.out⟩
    ·
      go_wp2_with fail
      clear lU cU0 cU1 lV cV0 cV1
      refine (HSm.out _).mono ?_
      rintro e w7 ⟨rfl, hb⟩
      have HW7 := Lib.hid (HW6.out.trans (hb.mono HW6.out.size))
      have HP7 := Lib.hid (HP6.out.next hb)
      have HQ7 := Lib.hid (HQ6.out.next hb)
      have HU7 := Lib.hid (HU6.out.next hb)
      have HV7 := Lib.hid (HV6.out.next hb)
      clear hb HW6 HP6 HQ6 HU6 HV6
      go_wp2_with fail
      refine (HIs.out _ (HS.out.below HW7.out)).mono ?_
      rintro e w8 ⟨rfl, hb⟩
      have HW8 := Lib.hid (HW7.out.trans (hb.mono HW7.out.size))
      have HP8 := Lib.hid (HP7.out.next hb)
      have HQ8 := Lib.hid (HQ7.out.next hb)
      clear hb HW7 HP7 HQ7
      go_wp2_with fail
      go_meet
      case rel => exact ⟨rfl, HP8.out, HQ8.out, HW8.out⟩
    ·
      go_wp2_with fail
      clear lU cU0 cU1 lV cV0 cV1
      refine (HSm.out _).mono ?_
      rintro e w7 ⟨rfl, hb⟩
      have HW7 := Lib.hid (HW6.out.trans (hb.mono HW6.out.size))
      have HP7 := Lib.hid (HP6.out.next hb)
      have HQ7 := Lib.hid (HQ6.out.next hb)
      have HU7 := Lib.hid (HU6.out.next hb)
      have HV7 := Lib.hid (HV6.out.next hb)
      clear hb HW6 HP6 HQ6 HU6 HV6
      go_wp2_with fail
      refine (HIs.out _ (HS.out.below HW7.out)).mono ?_
      rintro e w8 ⟨rfl, hb⟩
      have HW8 := Lib.hid (HW7.out.trans (hb.mono HW7.out.size))
      have HP8 := Lib.hid (HP7.out.next hb)
      have HQ8 := Lib.hid (HQ7.out.next hb)
      clear hb HW7 HP7 HQ7
      go_wp2_with fail
      go_meet
      case rel => exact ⟨rfl, HP8.out, HQ8.out, HW8.out⟩
    ·
      go_wp2_with fail
      clear lU cU0 cU1 lV cV0 cV1
      refine (HSm.out _).mono ?_
      rintro e w7 ⟨rfl, hb⟩
      have HW7 := Lib.hid (HW6.out.trans (hb.mono HW6.out.size))
      have HP7 := Lib.hid (HP6.out.next hb)
      have HQ7 := Lib.hid (HQ6.out.next hb)
      have HU7 := Lib.hid (HU6.out.next hb)
      have HV7 := Lib.hid (HV6.out.next hb)
      clear hb HW6 HP6 HQ6 HU6 HV6
      go_wp2_with fail
      refine (HIs.out _ (HS.out.below HW7.out)).mono ?_
      rintro e w8 ⟨rfl, hb⟩
      have HW8 := Lib.hid (HW7.out.trans (hb.mono HW7.out.size))
      have HP8 := Lib.hid (HP7.out.next hb)
      have HQ8 := Lib.hid (HQ7.out.next hb)
      clear hb HW7 HP7 HQ7
      go_wp2_with fail
      refine (HIs.out _ (HS.out.below HW8.out)).mono ?_
      rintro e w9 ⟨rfl, hb⟩
      have HW9 := Lib.hid (HW8.out.trans (hb.mono HW8.out.size))
      have HP9 := Lib.hid (HP8.out.next hb)
      have HQ9 := Lib.hid (HQ8.out.next hb)
      clear hb HW8 HP8 HQ8
      go_wp2_with fail
      go_meet
      case rel => exact ⟨rfl, HP9.out, HQ9.out, HW9.out⟩
  case rest =>
  obtain ⟨rfl, hp, hq, hW⟩ := hcut
  clear HP6 HQ6 HU6 HV6 HW6
  have HP7 := Lib.hid hp
  have HQ7 := Lib.hid hq
  have HW7 := Lib.hid hW
  clear hp hq hW HX HY HSm HIs HRf HPf HPa HRa HE HS
  go_wp2_with fail
  refine (bytes_any a _ a0 a1).mono ?_
  rintro e w8 ⟨rfl, hb⟩
  have HW8 := Lib.hid (HW7.out.trans (hb.mono HW7.out.size))
  have HP8 := Lib.hid (HP7.out.next hb)
  have HQ8 := Lib.hid (HQ7.out.next hb)
  clear hb HW7 HP7 HQ7
  go_wp2_with fail
  have HW9 := Lib.hid (HW8.out.alloc HW8.out.size (.cells #[.int .u8 (a / 16777216), .int .u8 (a / 65536 % 256), .int .u8 (a / 256 % 256), .int .u8 (a % 256)] 39))
  have HP9 := Lib.hid (HP8.out.alloc (.cells #[.int .u8 (a / 16777216), .int .u8 (a / 65536 % 256), .int .u8 (a / 256 % 256), .int .u8 (a % 256)] 39))
  have HQ9 := Lib.hid (HQ8.out.alloc (.cells #[.int .u8 (a / 16777216), .int .u8 (a / 65536 % 256), .int .u8 (a / 256 % 256), .int .u8 (a % 256)] 39))
  have HB9 := Lib.hid (Blk.new w8 39 #[.int .u8 (a / 16777216), .int .u8 (a / 65536 % 256), .int .u8 (a / 256 % 256), .int .u8 (a % 256)])
  clear HW8 HP8 HQ8
  have hS := pqb HP9.out HQ9.out HB9.out HW9.out
  generalize hM : w8.heap.size = M at *
  clear hM HP9 HQ9 HB9 HW9
  have hS' := pqb_drew hS
  simp only [List.append_eq, List.cons_append, List.nil_append]
  go_region_held3 (fun w' => w'.cell? ⟨w.heap.size, 0, none⟩ = some (.int .u32 pa) ∧ w'.cell? ⟨w.heap.size, 1, none⟩ = some (.int .i64 pb) ∧ w'.cell? ⟨(w.heap.size + 1), 0, none⟩ = some (.int .u32 qa) ∧ w'.cell? ⟨(w.heap.size + 1), 1, none⟩ = some (.int .i64 qb) ∧ w'.cell? ⟨M, 0, none⟩ = some (.int .u8 (a / 16777216)) ∧ w'.cell? ⟨M, 1, none⟩ = some (.int .u8 (a / 65536 % 256)) ∧ w'.cell? ⟨M, 2, none⟩ = some (.int .u8 (a / 256 % 256)) ∧ w'.cell? ⟨M, 3, none⟩ = some (.int .u8 (a % 256)) ∧ w.heap.size < w'.heap.size ∧ w.heap.size + 1 < w'.heap.size ∧ M < w'.heap.size ∧ Below w.heap.size w w')
    (first | exact hS' | exact pqb_next (by assumption) (by assumption) | assumption)
    (first
    | (go_at_call 17; refine (HTx.out _ (pqb_env HT.out (by assumption))).mono ?_; rintro e w5 ⟨rfl, hb5⟩)
    | (go_at_call 18; refine (HRt.out _ (pqb_env HT.out (by assumption))).mono ?_; rintro e w5 ⟨rfl, hb5⟩)
    | (go_at_call 19; refine (mask_any n _).mono ?_; rintro e w5 ⟨rfl, rfl⟩)
    | (go_at_call 20; refine (rmask_any n _).mono ?_; rintro e w5 ⟨rfl, rfl⟩)
    | (go_at_call 27; refine (group_any a _ a0 a1).mono ?_; rintro e w5 ⟨rfl, rfl⟩)
    | (go_at_call 28; refine (rgroup_any a _ a0 a1).mono ?_; rintro e w5 ⟨rfl, rfl⟩)
    | (go_at_call 21; refine (HVp.out _).mono ?_; rintro e w5 ⟨rfl, hb5⟩)
    | (go_at_call 23; refine (HIp.out _).mono ?_; rintro e w5 ⟨rfl, hb5⟩)
    | (go_at_call 24; refine (HIr.out _).mono ?_; rintro e w5 ⟨rfl, hb5⟩)
    | (go_at_call 25; refine (HWp.out _).mono ?_; rintro e w5 ⟨rfl, hb5⟩)
    | (go_at_call 29; refine (HOf.out _).mono ?_; rintro e w5 ⟨rfl, hb5⟩)
    | (go_at_call 26; refine (HWr.out _).mono ?_; rintro e w5 ⟨rfl, hb5⟩)
    | (go_at_call 22; first | with_reducible refine (HVr.out _).mono ?_ | with_reducible refine (HVq.out _).mono ?_
       rintro e w5 ⟨rfl, hb5⟩))
  go_wp2
  go_ret
  rename_i hS2
  exact ⟨rfl, hS2.2.2.2.2.2.2.2.2.2.2.2⟩
end Go.Proofs.YtcnkbhmhbbpmhaaDoor
