/- AddrBack: for every two addresses and every number of bits the law returns true. -/
import Derived.Test.YtcnkbhmhbbpmhaaDoorBackP
import Derived.Test.YtcnkbhmhbbpmhaaDoorRef
import Derived.Test.YtcnkbhmhbbpmhaaDoorAddrMasks
namespace Go.Proofs.YtcnkbhmhbbpmhaaDoor
open Go.RowKit
theorem beq_bytes (x y : ByteArray) : (x == y) = true ↔ x = y := by
  constructor
  · intro h
    have h' : (x.data == y.data) = true := h
    exact ByteArray.ext (by simpa using h')
  · intro h
    subst h
    show (x.data == x.data) = true
    simp
theorem text_short (a : Int) (h0 : 0 ≤ a) (h1 : a ≤ 4294967295) : (Ad.text a).size < 4294967281 := by
  have := Ad.textL_short a h0 h1
  have e : (Ad.text a).size = (Ad.textL a).length := by unfold Ad.text; simp [ByteArray.size]
  omega
theorem pfx_short (a b : Int) (h0 : 0 ≤ a) (h1 : a ≤ 4294967295) (hb0 : 0 ≤ b) (hb1 : b ≤ 32) : (Ad.pfx a b).size < 4294967281 := by
  have := Ad.textL_short a h0 h1
  have h2 := itoa_short b hb0 (by omega)
  have e : (Ad.pfx a b).size = (Ad.textL a).length + ((Lib.itoa b).length + 1) := by unfold Ad.pfx Ad.pfxL; simp [ByteArray.size]
  omega
set_option maxRecDepth 100000 in
set_option maxHeartbeats 4000000 in
theorem law_back (a b n : Int) (T : TypeId) (A0 : Addr) (w : World) (hT : EnvT w) (hE : EnvP (.iface T (.pointer (some A0))) w) (a0 : 0 ≤ a) (a1 : a ≤ 4294967295) (b0 : 0 ≤ b) (b1 : b ≤ 4294967295) :
    Calls Tryd.prog 4 #[.int .u32 a, .int .u32 b, .int .i64 n] w fun e w' => e = .returned (.bool true) ∧ Below w.heap.size w w' := by
  have HF := Lib.hid (first_any w hT)
  have HT := Lib.hid hT
  have HE := Lib.hid hE
  clear hT hE
  have hk0 : 0 ≤ n % 33 := by omega
  have hk1 : n % 33 ≤ 32 := by omega
  have HN := Lib.hid (fun w => number_any n 33 w (by omega) (by omega))
  generalize n % 33 = k at hk0 hk1 HN
  have hA := Ad.and_mask a k hk0 hk1 a0 a1
  have hv := Ad.valid_cut a k hk0 hk1
  have hA2 := Ad.cut_bd a (Ad.fr k) a0 a1
  change _ = Ad.cut a k at hA
  change 0 ≤ Ad.cut a k ∧ Ad.cut a k ≤ _ at hA2
  generalize Ad.cut a k = A at *
  obtain ⟨hA0, hA1⟩ := hA2
  have HV := Lib.hid hv
  have HParse := Lib.hid (fun W h => parse_any (Ad.text a) (.iface T (.pointer (some A0))) W (text_short a a0 a1) h)
  rw [Ad.parse_text a0 a1] at HParse
  have HPref := Lib.hid (fun W h => pref_any (Ad.pfx A k) T A0 W (pfx_short A k hA0 hA1 hk0 hk1) h)
  rw [Ad.pref_pfx hA0 hA1 hk0 hk1, if_pos hv] at HPref
  have HSame := Lib.hid (fun W => same_any A k A k W)
  have e1 : (decide (A = A) && decide (k = k)) = true := by simp
  rw [e1] at HSame
  clear hv e1
  obtain ⟨c, hc1, hc2⟩ : ∃ c : Bool, ((Ad.text a).toList == (Ad.text b).toList) = c ∧ (a == b) = c := by
    refine ⟨_, rfl, ?_⟩
    rw [← beq_toListBytes, Bool.eq_iff_iff, beq_bytes]
    simp only [beq_iff_eq]
    exact ⟨fun h => by rw [h], fun h => Ad.text_inj a0 a1 b0 b1 h⟩
  go_enter Tryd.func4, Tryd.ntmps4
  go_wp2_with (first
    | (go_at_call 9; refine HF.out.mono ?_; rintro e w1 ⟨rfl, hb1⟩; have HB1 := Lib.hid hb1; clear hb1)
    | (go_at_call 30; refine (HN.out _).mono ?_; rintro e w2 ⟨rfl, rfl⟩)
    | (go_at_call 19; refine (mask_any _ _).mono ?_; rintro e w2 ⟨rfl, rfl⟩))
  have hW := HB1.out.alloc HB1.out.size (.cells #[.int .u32 A, .int .i64 k] 25)
  have hP := Blk.new w1 25 #[.int .u32 A, .int .i64 k]
  refine (text_any a _ a0 a1 (HT.out.below hW)).mono ?_
  rintro e w2 ⟨rfl, hb2⟩
  have HW2 := Lib.hid (hW.trans (hb2.mono hW.size))
  have HP2 := Lib.hid (hP.next hb2)
  clear hW hP hb2
  go_wp2_with fail
  refine (HParse.out _ (HE.out.below HW2.out)).mono ?_
  rintro e w3 ⟨rfl, hb3⟩
  have HW3 := Lib.hid (HW2.out.trans (hb3.mono HW2.out.size))
  have hP3 := HP2.out.next hb3
  have hq0 : w3.cell? ⟨w1.heap.size, 0, none⟩ = some (.int .u32 A) := hP3.cell 0
  have hq1 : w3.cell? ⟨w1.heap.size, 1, none⟩ = some (.int .i64 k) := hP3.cell 1
  have HP3 := Lib.hid hP3
  clear hb3 hP3 HW2 HP2
  simp only [parseV]
  go_wp2_with fail
  refine (pfx_any A k _ hA0 hA1 hk0 hk1 HV.out (HT.out.below HW3.out)).mono ?_
  rintro e w4 ⟨rfl, hb4⟩
  have HW4 := Lib.hid (HW3.out.trans (hb4.mono HW3.out.size))
  have HP4 := Lib.hid (HP3.out.next hb4)
  clear hb4 hq0 hq1 HP3 HW3
  go_wp2_with fail
  refine (HPref.out _ (HE.out.below HW4.out)).mono ?_
  rintro e w5 ⟨rfl, hb5⟩
  have HW5 := Lib.hid (HW4.out.trans (hb5.mono HW4.out.size))
  have hP5 := HP4.out.next hb5
  have hq0 : w5.cell? ⟨w1.heap.size, 0, none⟩ = some (.int .u32 A) := hP5.cell 0
  have hq1 : w5.cell? ⟨w1.heap.size, 1, none⟩ = some (.int .i64 k) := hP5.cell 1
  have hlt := hP5.lt
  have HP5 := Lib.hid hP5
  clear hb5 hP5 HP4 HW4
  simp only [prefV]
  go_wp2_with fail
  refine (HSame.out _).mono ?_
  rintro e w6 ⟨rfl, hb6⟩
  have HW6 := Lib.hid ((HW5.out.alloc HW5.out.size _).trans (hb6.mono (Nat.le_trans HW5.out.size (by simp))))
  have HP6 := Lib.hid ((HP5.out.alloc _).next hb6)
  clear hb6 hq0 hq1 HP5 HW5 hlt
  go_wp2_with fail
  refine (text_any a _ a0 a1 (HT.out.below HW6.out)).mono ?_
  rintro e w7 ⟨rfl, hb7⟩
  have HW7 := Lib.hid (HW6.out.trans (hb7.mono HW6.out.size))
  have HP7 := Lib.hid (HP6.out.next hb7)
  clear hb7 HP6 HW6
  go_wp2_with fail
  refine (text_any b _ b0 b1 (HT.out.below HW7.out)).mono ?_
  rintro e w8 ⟨rfl, hb8⟩
  have HW8 := Lib.hid (HW7.out.trans (hb8.mono HW7.out.size))
  have hP8 := HP7.out.next hb8
  have hq0 : w8.cell? ⟨w1.heap.size, 0, none⟩ = some (.int .u32 A) := hP8.cell 0
  have hq1 : w8.cell? ⟨w1.heap.size, 1, none⟩ = some (.int .i64 k) := hP8.cell 1
  clear hb8 HP7 HW7 hP8
  cases c
  all_goals
    go_wp2_with fail
    refine (valid_any A k _ hA0 hA1).mono ?_
    rintro e w9 ⟨rfl, hb9⟩
    rw [HV.out]
    go_wp2
    go_ret
    exact ⟨rfl, HW8.out.trans (hb9.mono HW8.out.size)⟩
end Go.Proofs.YtcnkbhmhbbpmhaaDoor
