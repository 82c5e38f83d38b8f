/- WireSays, walked. -/
import Derived.Test.YtfcfnfofihpegaaDoorR1
import Derived.Test.YtfcfnfofihpegaaDoorR5
import Derived.Test.YtfcfnfofihpegaaDoorWl2
import Derived.Test.YtfcfnfofihpegaaDoorIs
namespace Go.Proofs.YtfcfnfofihpegaaDoor
open Go.RowKit Sm
theorem mres_small (xs : List Int) : (mres xs).l.length ≤ 4 := by
  unfold mres
  split
  · rename_i h
    exact (mcode_ok (mrc_ok h).2.2.2.2.2.2.2).2.2.1
  · simp [mz]
section
variable (ads : List Addr) (m n : Ms) (A B : Option Addr) (a c b d : Nat) (D : Option Addr) (p dc : Nat) (zs : List Int) (w : World)
set_option maxHeartbeats 4000000 in
theorem says_big (hS : EnvS ads w) (hp : 200 < p) :
    Calls Tryd.prog 3 #[mv m A a c, mv n B b d, .slice D p dc] w fun e w' => e = .returned (.bool true) ∧ Below w.heap.size w w' := by
  have HB := Lib.hid (two_boxes w (.cells #[.int .i64 m.k, .int .u32 m.f, .int .u32 m.t, .int .u32 m.s, .int .u32 m.g, .int .i64 m.r, .int .i64 m.c, .bool m.o, .slice A a c] 28) (.cells #[.int .i64 n.k, .int .u32 n.f, .int .u32 n.t, .int .u32 n.s, .int .u32 n.g, .int .i64 n.r, .int .i64 n.c, .bool n.o, .slice B b d] 28))
  have HF := Lib.hid (first_any (erS ads) _ ((envM_of_S hS).1.below HB.out))
  have HK1 := Lib.hid ((Blk.new w 28 #[.int .i64 m.k, .int .u32 m.f, .int .u32 m.t, .int .u32 m.s, .int .u32 m.g, .int .i64 m.r, .int .i64 m.c, .bool m.o, .slice A a c]).alloc (.cells #[.int .i64 n.k, .int .u32 n.f, .int .u32 n.t, .int .u32 n.s, .int .u32 n.g, .int .i64 n.r, .int .i64 n.c, .bool n.o, .slice B b d] 28))
  have HK2 := Lib.hid (Blk.new (w.alloc (.cells #[.int .i64 m.k, .int .u32 m.f, .int .u32 m.t, .int .u32 m.s, .int .u32 m.g, .int .i64 m.r, .int .i64 m.c, .bool m.o, .slice A a c] 28)) 28 #[.int .i64 n.k, .int .u32 n.f, .int .u32 n.t, .int .u32 n.s, .int .u32 n.g, .int .i64 n.r, .int .i64 n.c, .bool n.o, .slice B b d])
  have e9 : (w.alloc (.cells #[.int .i64 m.k, .int .u32 m.f, .int .u32 m.t, .int .u32 m.s, .int .u32 m.g, .int .i64 m.r, .int .i64 m.c, .bool m.o, .slice A a c] 28)).heap.size = w.heap.size + 1 := by simp
  rw [e9] at HK2
  have hpp : (200 : Int) < (p : Int) := by omega
  unfold mv at *
  clear hS hp e9
  go_enter Tryd.func3, Tryd.ntmps3
  go_wp2_with fail
  refine HF.out.mono ?_
  rintro e w1 ⟨rfl, hb⟩
  have hk1 := HK1.out.next hb
  have hk2 := HK2.out.next hb
  have HB1 := Lib.hid (below_next HB.out hb)
  clear hb hk1 hk2
  go_wp2
  go_ret
  exact ⟨rfl, HB1.out⟩
set_option maxHeartbeats 4000000 in
theorem says_heavy (hS : EnvS ads w) (hp : p ≤ 200) (h : ¬ a ≤ 20 ∨ ¬ b ≤ 20) :
    Calls Tryd.prog 3 #[mv m A a c, mv n B b d, .slice D p dc] w fun e w' => e = .returned (.bool true) ∧ Below w.heap.size w w' := by
  have hpp : ¬ (200 : Int) < (p : Int) := by omega
  have hc : decide (a ≤ 20) = false ∨ decide (a ≤ 20) = true ∧ decide (b ≤ 20) = false := by
    simp only [decide_eq_true_eq, decide_eq_false_iff_not]; omega
  have HB := Lib.hid (two_boxes w (.cells #[.int .i64 m.k, .int .u32 m.f, .int .u32 m.t, .int .u32 m.s, .int .u32 m.g, .int .i64 m.r, .int .i64 m.c, .bool m.o, .slice A a c] 28) (.cells #[.int .i64 n.k, .int .u32 n.f, .int .u32 n.t, .int .u32 n.s, .int .u32 n.g, .int .i64 n.r, .int .i64 n.c, .bool n.o, .slice B b d] 28))
  have HF := Lib.hid (first_any (erS ads) _ ((envM_of_S hS).1.below HB.out))
  have HK1 := Lib.hid ((Blk.new w 28 #[.int .i64 m.k, .int .u32 m.f, .int .u32 m.t, .int .u32 m.s, .int .u32 m.g, .int .i64 m.r, .int .i64 m.c, .bool m.o, .slice A a c]).alloc (.cells #[.int .i64 n.k, .int .u32 n.f, .int .u32 n.t, .int .u32 n.s, .int .u32 n.g, .int .i64 n.r, .int .i64 n.c, .bool n.o, .slice B b d] 28))
  have HK2 := Lib.hid (Blk.new (w.alloc (.cells #[.int .i64 m.k, .int .u32 m.f, .int .u32 m.t, .int .u32 m.s, .int .u32 m.g, .int .i64 m.r, .int .i64 m.c, .bool m.o, .slice A a c] 28)) 28 #[.int .i64 n.k, .int .u32 n.f, .int .u32 n.t, .int .u32 n.s, .int .u32 n.g, .int .i64 n.r, .int .i64 n.c, .bool n.o, .slice B b d])
  have e9 : (w.alloc (.cells #[.int .i64 m.k, .int .u32 m.f, .int .u32 m.t, .int .u32 m.s, .int .u32 m.g, .int .i64 m.r, .int .i64 m.c, .bool m.o, .slice A a c] 28)).heap.size = w.heap.size + 1 := by simp
  rw [e9] at HK2
  have HL1 := Lib.hid (fun W => light_any m A a c W)
  have HL2 := Lib.hid (fun W => light_any n B b d W)
  unfold mv at *
  clear hS hp h e9
  rcases hc with h1 | ⟨h1, h2⟩
  · go_enter Tryd.func3, Tryd.ntmps3
    go_wp2_with fail
    refine HF.out.mono ?_
    rintro e w1 ⟨rfl, hb⟩
    have hk1 := HK1.out.next hb
    have hk2 := HK2.out.next hb
    have HB1 := Lib.hid (below_next HB.out hb)
    rw [h1] at HL1
    have x0 : w1.cell? ⟨w.heap.size, 0, none⟩ = _ := hk1.cell 0
    have x1 : w1.cell? ⟨w.heap.size, 1, none⟩ = _ := hk1.cell 1
    have x2 : w1.cell? ⟨w.heap.size, 2, none⟩ = _ := hk1.cell 2
    have x3 : w1.cell? ⟨w.heap.size, 3, none⟩ = _ := hk1.cell 3
    have x4 : w1.cell? ⟨w.heap.size, 4, none⟩ = _ := hk1.cell 4
    have x5 : w1.cell? ⟨w.heap.size, 5, none⟩ = _ := hk1.cell 5
    have x6 : w1.cell? ⟨w.heap.size, 6, none⟩ = _ := hk1.cell 6
    have x7 : w1.cell? ⟨w.heap.size, 7, none⟩ = _ := hk1.cell 7
    have x8 : w1.cell? ⟨w.heap.size, 8, none⟩ = _ := hk1.cell 8
    clear hb hk1 hk2 h1
    go_wp2_with fail
    refine (HL1.out _).mono ?_
    rintro e w2 ⟨rfl, hb2⟩
    go_wp2
    go_ret
    exact ⟨rfl, below_next HB1.out hb2⟩
  · go_enter Tryd.func3, Tryd.ntmps3
    go_wp2_with fail
    refine HF.out.mono ?_
    rintro e w1 ⟨rfl, hb⟩
    have hk1 := HK1.out.next hb
    have hk2 := HK2.out.next hb
    have HB1 := Lib.hid (below_next HB.out hb)
    rw [h1] at HL1
    rw [h2] at HL2
    have x0 : w1.cell? ⟨w.heap.size, 0, none⟩ = _ := hk1.cell 0
    have x1 : w1.cell? ⟨w.heap.size, 1, none⟩ = _ := hk1.cell 1
    have x2 : w1.cell? ⟨w.heap.size, 2, none⟩ = _ := hk1.cell 2
    have x3 : w1.cell? ⟨w.heap.size, 3, none⟩ = _ := hk1.cell 3
    have x4 : w1.cell? ⟨w.heap.size, 4, none⟩ = _ := hk1.cell 4
    have x5 : w1.cell? ⟨w.heap.size, 5, none⟩ = _ := hk1.cell 5
    have x6 : w1.cell? ⟨w.heap.size, 6, none⟩ = _ := hk1.cell 6
    have x7 : w1.cell? ⟨w.heap.size, 7, none⟩ = _ := hk1.cell 7
    have x8 : w1.cell? ⟨w.heap.size, 8, none⟩ = _ := hk1.cell 8
    have HK2 := Lib.hid hk2
    clear hb hk1 hk2 h1 h2
    go_wp2_with fail
    refine (HL1.out _).mono ?_
    rintro e w2 ⟨rfl, hb2⟩
    have hk2 := HK2.out.next hb2
    clear x0 x1 x2 x3 x4 x5 x6 x7 x8
    have y0 : w2.cell? ⟨w.heap.size + 1, 0, none⟩ = _ := hk2.cell 0
    have y1 : w2.cell? ⟨w.heap.size + 1, 1, none⟩ = _ := hk2.cell 1
    have y2 : w2.cell? ⟨w.heap.size + 1, 2, none⟩ = _ := hk2.cell 2
    have y3 : w2.cell? ⟨w.heap.size + 1, 3, none⟩ = _ := hk2.cell 3
    have y4 : w2.cell? ⟨w.heap.size + 1, 4, none⟩ = _ := hk2.cell 4
    have y5 : w2.cell? ⟨w.heap.size + 1, 5, none⟩ = _ := hk2.cell 5
    have y6 : w2.cell? ⟨w.heap.size + 1, 6, none⟩ = _ := hk2.cell 6
    have y7 : w2.cell? ⟨w.heap.size + 1, 7, none⟩ = _ := hk2.cell 7
    have y8 : w2.cell? ⟨w.heap.size + 1, 8, none⟩ = _ := hk2.cell 8
    have HB2 := Lib.hid (below_next HB1.out hb2)
    clear hk2 hb2
    go_wp2_with fail
    refine (HL2.out _).mono ?_
    rintro e w3 ⟨rfl, hb3⟩
    go_wp2
    go_ret
    exact ⟨rfl, below_next HB2.out hb3⟩
set_option maxHeartbeats 16000000 in
set_option maxRecDepth 100000 in
theorem says_no (hS : EnvS ads w) (wm : wfm m) (_wn : wfm n) (hA : AR w A a m.l) (hB : AR w B b n.l) (hD : BR w D p zs) (hdc : p ≤ dc) (ha : a ≤ 20) (hb' : b ≤ 20) (hp : p ≤ 200) (hc : mcode m ≠ 0) :
    Calls Tryd.prog 3 #[mv m A a c, mv n B b d, .slice D p dc] w fun e w' => e = .returned (.bool true) ∧ Below w.heap.size w w' := by
  have hpp : ¬ (200 : Int) < (p : Int) := by omega
  have h1 : decide (a ≤ 20) = true := by simpa using ha
  have h2 : decide (b ≤ 20) = true := by simpa using hb'
  have HB := Lib.hid (two_boxes w (.cells #[.int .i64 m.k, .int .u32 m.f, .int .u32 m.t, .int .u32 m.s, .int .u32 m.g, .int .i64 m.r, .int .i64 m.c, .bool m.o, .slice A a c] 28) (.cells #[.int .i64 n.k, .int .u32 n.f, .int .u32 n.t, .int .u32 n.s, .int .u32 n.g, .int .i64 n.r, .int .i64 n.c, .bool n.o, .slice B b d] 28))
  have HF := Lib.hid (first_any (erS ads) _ ((envM_of_S hS).1.below HB.out))
  have HK1 := Lib.hid ((Blk.new w 28 #[.int .i64 m.k, .int .u32 m.f, .int .u32 m.t, .int .u32 m.s, .int .u32 m.g, .int .i64 m.r, .int .i64 m.c, .bool m.o, .slice A a c]).alloc (.cells #[.int .i64 n.k, .int .u32 n.f, .int .u32 n.t, .int .u32 n.s, .int .u32 n.g, .int .i64 n.r, .int .i64 n.c, .bool n.o, .slice B b d] 28))
  have HK2 := Lib.hid (Blk.new (w.alloc (.cells #[.int .i64 m.k, .int .u32 m.f, .int .u32 m.t, .int .u32 m.s, .int .u32 m.g, .int .i64 m.r, .int .i64 m.c, .bool m.o, .slice A a c] 28)) 28 #[.int .i64 n.k, .int .u32 n.f, .int .u32 n.t, .int .u32 n.s, .int .u32 n.g, .int .i64 n.r, .int .i64 n.c, .bool n.o, .slice B b d])
  have e9 : (w.alloc (.cells #[.int .i64 m.k, .int .u32 m.f, .int .u32 m.t, .int .u32 m.s, .int .u32 m.g, .int .i64 m.r, .int .i64 m.c, .bool m.o, .slice A a c] 28)).heap.size = w.heap.size + 1 := by simp
  rw [e9] at HK2
  have HL1 := Lib.hid (fun W => light_any m A a c W)
  have HL2 := Lib.hid (fun W => light_any n B b d W)
  rw [h1] at HL1
  rw [h2] at HL2
  have HE := Lib.hid (envM_of_S hS)
  have HV := Lib.hid (fun W (hW : Below w.heap.size w W) => valid_any (erS ads) m A a c W (HE.out.below hW).1 wm (hA.next hW))
  have HRV := Lib.hid (fun W => rvalid_any m A a c W wm hA.len)
  have HY := Lib.hid (fun W (hW : Below w.heap.size w W) => wbytes_gen (erS ads) m A a c W (HE.out.below hW).1 wm (hA.next hW))
  have HI := Lib.hid (fun W (hW : Below w.heap.size w W) => is_code ads (mcode m) (isC_m m) W (hS.below hW))
  have HI2 := Lib.hid (fun W (hW : Below w.heap.size w W) => is_code ads (mrc zs) (isC_r zs) W (hS.below hW))
  have HWS := Lib.hid (fun W (hW : Below w.heap.size w W) => wsame_any m n A B a c b d W (hA.next hW) (hB.next hW) (by omega) (by omega))
  have HRS := Lib.hid (fun W (hW : Below w.heap.size w W) => rsame_any m n A B a c b d W (hA.next hW) (hB.next hW) (by omega) (by omega))
  have HRD := Lib.hid (fun W (hW : Below w.heap.size w W) => wread_any (erS ads) D p dc zs W (HE.out.below hW) (hD.next hW) (by omega) hdc)
  have HRR := Lib.hid (fun W (hW : Below w.heap.size w W) => rread_any D p dc zs W (hD.next hW) (by omega) hdc)
  have HMS := Lib.hid (mres_small zs)
  have HSELF := Lib.hid (sameB_self (mres zs))
  unfold readOf at HRD
  unfold rreadOf at HRR
  have e1 : mbx m = [] := if_neg hc
  rw [e1] at HY
  have hc0 : (mcode m == 0) = false := by simpa using hc
  have hc1 : ¬ mcode m = 0 := hc
  have hc2 : (mcode m != 0) = true := by simpa using hc
  generalize erS ads (mcode m) = E at *
  generalize mcode m = C at *
  generalize erS ads (mrc zs) = E2 at *
  generalize mrc zs = C2 at *
  generalize mres zs = u at *
  generalize sameB m n = R at *
  unfold mv at *
  clear hS wm _wn hA hB hD hdc ha hb' hp hc h1 h2 e1 e9
  go_enter Tryd.func3, Tryd.ntmps3
  go_wp2_with fail
  refine HF.out.mono ?_
  rintro e w1 ⟨rfl, hb⟩
  have hk1 := HK1.out.next hb
  have hk2 := HK2.out.next hb
  have HB1 := Lib.hid (below_next HB.out hb)
  have x0 : w1.cell? ⟨w.heap.size, 0, none⟩ = _ := hk1.cell 0
  have x1 : w1.cell? ⟨w.heap.size, 1, none⟩ = _ := hk1.cell 1
  have x2 : w1.cell? ⟨w.heap.size, 2, none⟩ = _ := hk1.cell 2
  have x3 : w1.cell? ⟨w.heap.size, 3, none⟩ = _ := hk1.cell 3
  have x4 : w1.cell? ⟨w.heap.size, 4, none⟩ = _ := hk1.cell 4
  have x5 : w1.cell? ⟨w.heap.size, 5, none⟩ = _ := hk1.cell 5
  have x6 : w1.cell? ⟨w.heap.size, 6, none⟩ = _ := hk1.cell 6
  have x7 : w1.cell? ⟨w.heap.size, 7, none⟩ = _ := hk1.cell 7
  have x8 : w1.cell? ⟨w.heap.size, 8, none⟩ = _ := hk1.cell 8
  have HK1 := Lib.hid hk1
  have HK2 := Lib.hid hk2
  clear hb hk1 hk2
  go_wp2_with fail
  refine (HL1.out _).mono ?_
  rintro e w2 ⟨rfl, hb2⟩
  have hk1 := HK1.out.next hb2
  have hk2 := HK2.out.next hb2
  clear x0 x1 x2 x3 x4 x5 x6 x7 x8
  have y0 : w2.cell? ⟨w.heap.size + 1, 0, none⟩ = _ := hk2.cell 0
  have y1 : w2.cell? ⟨w.heap.size + 1, 1, none⟩ = _ := hk2.cell 1
  have y2 : w2.cell? ⟨w.heap.size + 1, 2, none⟩ = _ := hk2.cell 2
  have y3 : w2.cell? ⟨w.heap.size + 1, 3, none⟩ = _ := hk2.cell 3
  have y4 : w2.cell? ⟨w.heap.size + 1, 4, none⟩ = _ := hk2.cell 4
  have y5 : w2.cell? ⟨w.heap.size + 1, 5, none⟩ = _ := hk2.cell 5
  have y6 : w2.cell? ⟨w.heap.size + 1, 6, none⟩ = _ := hk2.cell 6
  have y7 : w2.cell? ⟨w.heap.size + 1, 7, none⟩ = _ := hk2.cell 7
  have y8 : w2.cell? ⟨w.heap.size + 1, 8, none⟩ = _ := hk2.cell 8
  have HB2 := Lib.hid (below_next HB1.out hb2)
  have HK1 := Lib.hid hk1
  have HK2 := Lib.hid hk2
  clear hk1 hk2 hb2
  go_wp2_with fail
  refine (HL2.out _).mono ?_
  rintro e w3 ⟨rfl, hb3⟩
  have hk1 := HK1.out.next hb3
  have hk2 := HK2.out.next hb3
  clear y0 y1 y2 y3 y4 y5 y6 y7 y8
  have x0 : w3.cell? ⟨w.heap.size, 0, none⟩ = _ := hk1.cell 0
  have x1 : w3.cell? ⟨w.heap.size, 1, none⟩ = _ := hk1.cell 1
  have x2 : w3.cell? ⟨w.heap.size, 2, none⟩ = _ := hk1.cell 2
  have x3 : w3.cell? ⟨w.heap.size, 3, none⟩ = _ := hk1.cell 3
  have x4 : w3.cell? ⟨w.heap.size, 4, none⟩ = _ := hk1.cell 4
  have x5 : w3.cell? ⟨w.heap.size, 5, none⟩ = _ := hk1.cell 5
  have x6 : w3.cell? ⟨w.heap.size, 6, none⟩ = _ := hk1.cell 6
  have x7 : w3.cell? ⟨w.heap.size, 7, none⟩ = _ := hk1.cell 7
  have x8 : w3.cell? ⟨w.heap.size, 8, none⟩ = _ := hk1.cell 8
  have HB3 := Lib.hid (below_next HB2.out hb3)
  have HK1 := Lib.hid hk1
  have HK2 := Lib.hid hk2
  clear hk1 hk2 hb3
  go_wp2_with fail
  refine (HRV.out _).mono ?_
  rintro e w4 ⟨rfl, hb4⟩
  have hk1 := HK1.out.next hb4
  have hk2 := HK2.out.next hb4
  clear x0 x1 x2 x3 x4 x5 x6 x7 x8
  have x0 : w4.cell? ⟨w.heap.size, 0, none⟩ = _ := hk1.cell 0
  have x1 : w4.cell? ⟨w.heap.size, 1, none⟩ = _ := hk1.cell 1
  have x2 : w4.cell? ⟨w.heap.size, 2, none⟩ = _ := hk1.cell 2
  have x3 : w4.cell? ⟨w.heap.size, 3, none⟩ = _ := hk1.cell 3
  have x4 : w4.cell? ⟨w.heap.size, 4, none⟩ = _ := hk1.cell 4
  have x5 : w4.cell? ⟨w.heap.size, 5, none⟩ = _ := hk1.cell 5
  have x6 : w4.cell? ⟨w.heap.size, 6, none⟩ = _ := hk1.cell 6
  have x7 : w4.cell? ⟨w.heap.size, 7, none⟩ = _ := hk1.cell 7
  have x8 : w4.cell? ⟨w.heap.size, 8, none⟩ = _ := hk1.cell 8
  have HB4 := Lib.hid (below_next HB3.out hb4)
  have HK1 := Lib.hid hk1
  have HK2 := Lib.hid hk2
  clear hk1 hk2 hb4
  go_wp2_with fail
  refine (HY.out _ HB4.out).mono ?_
  rintro e w5 ⟨A5, n5, c5, rfl, hn5, hr5, hb5⟩
  have hk1 := HK1.out.next hb5
  have hk2 := HK2.out.next hb5
  have HB5 := Lib.hid (below_next HB4.out hb5)
  have HK1 := Lib.hid hk1
  have HK2 := Lib.hid hk2
  clear x0 x1 x2 x3 x4 x5 x6 x7 x8
  have x0 := fun W hW => keepc (w' := W) (w := w5) (hk1.cell 0) hW
  have x1 := fun W hW => keepc (w' := W) (w := w5) (hk1.cell 1) hW
  have x2 := fun W hW => keepc (w' := W) (w := w5) (hk1.cell 2) hW
  have x3 := fun W hW => keepc (w' := W) (w := w5) (hk1.cell 3) hW
  have x4 := fun W hW => keepc (w' := W) (w := w5) (hk1.cell 4) hW
  have x5 := fun W hW => keepc (w' := W) (w := w5) (hk1.cell 5) hW
  have x6 := fun W hW => keepc (w' := W) (w := w5) (hk1.cell 6) hW
  have x7 := fun W hW => keepc (w' := W) (w := w5) (hk1.cell 7) hW
  have x8 := fun W hW => keepc (w' := W) (w := w5) (hk1.cell 8) hW
  have y0 := fun W hW => keepc (w' := W) (w := w5) (hk2.cell 0) hW
  have y1 := fun W hW => keepc (w' := W) (w := w5) (hk2.cell 1) hW
  have y2 := fun W hW => keepc (w' := W) (w := w5) (hk2.cell 2) hW
  have y3 := fun W hW => keepc (w' := W) (w := w5) (hk2.cell 3) hW
  have y4 := fun W hW => keepc (w' := W) (w := w5) (hk2.cell 4) hW
  have y5 := fun W hW => keepc (w' := W) (w := w5) (hk2.cell 5) hW
  have y6 := fun W hW => keepc (w' := W) (w := w5) (hk2.cell 6) hW
  have y7 := fun W hW => keepc (w' := W) (w := w5) (hk2.cell 7) hW
  have y8 := fun W hW => keepc (w' := W) (w := w5) (hk2.cell 8) hW
  obtain rfl : n5 = 0 := by have := hr5.len; simp at this; omega
  have HR5 := Lib.hid hr5
  clear hb5 hn5 hr5 hk1 hk2
  have HI5 := Lib.hid (fun W (hW : Below w5.heap.size w5 W) => HI.out W (below_next HB5.out hW))
  have HV5 := Lib.hid (fun W (hW : Below w5.heap.size w5 W) => HV.out W (below_next HB5.out hW))
  have HWS5 := Lib.hid (fun W (hW : Below w5.heap.size w5 W) => HWS.out W (below_next HB5.out hW))
  have HRS5 := Lib.hid (fun W (hW : Below w5.heap.size w5 W) => HRS.out W (below_next HB5.out hW))
  go_wp2_with fail
  go_region_held3 (fun w' => Below w5.heap.size w5 w')
    (first | with_reducible assumption | exact (Below.refl _ _).drew)
    (first
    | (go_at_call 13; refine (HV5.out _ (by with_reducible assumption)).mono ?_; rintro e wr ⟨rfl, hb⟩; have hbr := below_next (w := w5) (by with_reducible assumption) hb)
    | (go_at_call 12; refine (HI5.out _ (by with_reducible assumption)).mono ?_; rintro e wr ⟨rfl, hb⟩; have hbr := below_next (w := w5) (by with_reducible assumption) hb)
    | (go_at_call 14; refine (HWS5.out _ (by with_reducible assumption)).mono ?_; rintro e wr ⟨rfl, hb⟩; have hbr := below_next (w := w5) (by with_reducible assumption) hb)
    | (go_at_call 15; refine (HRS5.out _ (by with_reducible assumption)).mono ?_; rintro e wr ⟨rfl, hb⟩; have hbr := below_next (w := w5) (by with_reducible assumption) hb))
  clear x0 x1 x2 x3 x4 x5 x6 x7 x8
  clear y0 y1 y2 y3 y4 y5 y6 y7 y8
  have hk1 := HK1.out.next hbr
  have HB6 := Lib.hid (below_next HB5.out hbr)
  have HR6 := Lib.hid (HR5.out.next hbr)
  clear hbr
  clear hk1
  have HB8 := Lib.hid HB6.out
  go_wp2_with fail
  refine (HRD.out _ HB8.out).mono ?_
  rintro e w9 ⟨A9, n9, c9, rfl, ha9, hb9⟩
  have hal : Below w9.heap.size w9 (w9.alloc (.cells #[.int .i64 u.k, .int .u32 u.f, .int .u32 u.t, .int .u32 u.s, .int .u32 u.g, .int .i64 u.r, .int .i64 u.c, .bool u.o, .slice A9 n9 c9] 28)) := (Below.refl _ _).alloc (Nat.le_refl _) _
  have HB9 := Lib.hid (below_next (below_next HB8.out hb9) hal)
  have HM9 := Lib.hid (Blk.new w9 28 #[.int .i64 u.k, .int .u32 u.f, .int .u32 u.t, .int .u32 u.s, .int .u32 u.g, .int .i64 u.r, .int .i64 u.c, .bool u.o, .slice A9 n9 c9])
  have HA9 := Lib.hid (ha9.next hal)
  have hn9 : n9 ≤ 4 := by have := ha9.len; have := HMS.out; omega
  clear hal hb9 ha9
  go_wp2_with fail
  refine (HRR.out _ HB9.out).mono ?_
  rintro e w10 ⟨A10, n10, c10, rfl, ha10, hb10⟩
  have hal : Below w10.heap.size w10 (w10.alloc (.cells #[.int .i64 u.k, .int .u32 u.f, .int .u32 u.t, .int .u32 u.s, .int .u32 u.g, .int .i64 u.r, .int .i64 u.c, .bool u.o, .slice A10 n10 c10] 28)) := (Below.refl _ _).alloc (Nat.le_refl _) _
  have HB10 := Lib.hid (below_next (below_next HB9.out hb10) hal)
  have hm9 := (HM9.out.next hb10)
  have hlt := hm9.lt
  have HM9 := Lib.hid (hm9.next hal)
  have HM10 := Lib.hid (Blk.new w10 28 #[.int .i64 u.k, .int .u32 u.f, .int .u32 u.t, .int .u32 u.s, .int .u32 u.g, .int .i64 u.r, .int .i64 u.c, .bool u.o, .slice A10 n10 c10])
  have HA9 := Lib.hid ((HA9.out.next hb10).next hal)
  have HA10 := Lib.hid (ha10.next hal)
  have hn10 : n10 ≤ 4 := by have := ha10.len; have := HMS.out; omega
  clear hal hb10 ha10 hm9
  go_wp2_with fail
  generalize hW : w10.alloc (.cells #[.int .i64 u.k, .int .u32 u.f, .int .u32 u.t, .int .u32 u.s, .int .u32 u.g, .int .i64 u.r, .int .i64 u.c, .bool u.o, .slice A10 n10 c10] 28) = W11 at *
  refine (HI2.out _ HB10.out).mono ?_
  rintro e w12 ⟨rfl, hb12⟩
  have hk1 := HM9.out.next hb12
  have hk2 := HM10.out.next hb12
  have HB12 := Lib.hid (below_next HB10.out hb12)
  have HA9 := Lib.hid (HA9.out.next hb12)
  have HA10 := Lib.hid (HA10.out.next hb12)
  have x0 : w12.cell? ⟨w9.heap.size, 0, none⟩ = _ := hk1.cell 0
  have x1 : w12.cell? ⟨w9.heap.size, 1, none⟩ = _ := hk1.cell 1
  have x2 : w12.cell? ⟨w9.heap.size, 2, none⟩ = _ := hk1.cell 2
  have x3 : w12.cell? ⟨w9.heap.size, 3, none⟩ = _ := hk1.cell 3
  have x4 : w12.cell? ⟨w9.heap.size, 4, none⟩ = _ := hk1.cell 4
  have x5 : w12.cell? ⟨w9.heap.size, 5, none⟩ = _ := hk1.cell 5
  have x6 : w12.cell? ⟨w9.heap.size, 6, none⟩ = _ := hk1.cell 6
  have x7 : w12.cell? ⟨w9.heap.size, 7, none⟩ = _ := hk1.cell 7
  have x8 : w12.cell? ⟨w9.heap.size, 8, none⟩ = _ := hk1.cell 8
  have y0 : w12.cell? ⟨w10.heap.size, 0, none⟩ = _ := hk2.cell 0
  have y1 : w12.cell? ⟨w10.heap.size, 1, none⟩ = _ := hk2.cell 1
  have y2 : w12.cell? ⟨w10.heap.size, 2, none⟩ = _ := hk2.cell 2
  have y3 : w12.cell? ⟨w10.heap.size, 3, none⟩ = _ := hk2.cell 3
  have y4 : w12.cell? ⟨w10.heap.size, 4, none⟩ = _ := hk2.cell 4
  have y5 : w12.cell? ⟨w10.heap.size, 5, none⟩ = _ := hk2.cell 5
  have y6 : w12.cell? ⟨w10.heap.size, 6, none⟩ = _ := hk2.cell 6
  have y7 : w12.cell? ⟨w10.heap.size, 7, none⟩ = _ := hk2.cell 7
  have y8 : w12.cell? ⟨w10.heap.size, 8, none⟩ = _ := hk2.cell 8
  have HRS := Lib.hid (rsame_any u u A9 A10 n9 c9 n10 c10 w12 HA9.out HA10.out (by omega) (by omega))
  rw [HSELF.out] at HRS
  unfold mv at HRS
  clear hb12 hk1 hk2 hW hlt
  go_wp2_with fail
  refine HRS.out.mono ?_
  rintro e w13 ⟨rfl, hb13⟩
  go_wp2
  go_ret
  exact ⟨rfl, below_next HB12.out hb13⟩
set_option maxHeartbeats 16000000 in
set_option maxRecDepth 100000 in
theorem says_yes (hS : EnvS ads w) (wm : wfm m) (_wn : wfm n) (hA : AR w A a m.l) (hB : AR w B b n.l) (hD : BR w D p zs) (hdc : p ≤ dc) (ha : a ≤ 20) (hb' : b ≤ 20) (hp : p ≤ 200) (hc : mcode m = 0) :
    Calls Tryd.prog 3 #[mv m A a c, mv n B b d, .slice D p dc] w fun e w' => e = .returned (.bool true) ∧ Below w.heap.size w w' := by
  have hpp : ¬ (200 : Int) < (p : Int) := by omega
  have h1 : decide (a ≤ 20) = true := by simpa using ha
  have h2 : decide (b ≤ 20) = true := by simpa using hb'
  have HB := Lib.hid (two_boxes w (.cells #[.int .i64 m.k, .int .u32 m.f, .int .u32 m.t, .int .u32 m.s, .int .u32 m.g, .int .i64 m.r, .int .i64 m.c, .bool m.o, .slice A a c] 28) (.cells #[.int .i64 n.k, .int .u32 n.f, .int .u32 n.t, .int .u32 n.s, .int .u32 n.g, .int .i64 n.r, .int .i64 n.c, .bool n.o, .slice B b d] 28))
  have HF := Lib.hid (first_any (erS ads) _ ((envM_of_S hS).1.below HB.out))
  have HK1 := Lib.hid ((Blk.new w 28 #[.int .i64 m.k, .int .u32 m.f, .int .u32 m.t, .int .u32 m.s, .int .u32 m.g, .int .i64 m.r, .int .i64 m.c, .bool m.o, .slice A a c]).alloc (.cells #[.int .i64 n.k, .int .u32 n.f, .int .u32 n.t, .int .u32 n.s, .int .u32 n.g, .int .i64 n.r, .int .i64 n.c, .bool n.o, .slice B b d] 28))
  have HK2 := Lib.hid (Blk.new (w.alloc (.cells #[.int .i64 m.k, .int .u32 m.f, .int .u32 m.t, .int .u32 m.s, .int .u32 m.g, .int .i64 m.r, .int .i64 m.c, .bool m.o, .slice A a c] 28)) 28 #[.int .i64 n.k, .int .u32 n.f, .int .u32 n.t, .int .u32 n.s, .int .u32 n.g, .int .i64 n.r, .int .i64 n.c, .bool n.o, .slice B b d])
  have e9 : (w.alloc (.cells #[.int .i64 m.k, .int .u32 m.f, .int .u32 m.t, .int .u32 m.s, .int .u32 m.g, .int .i64 m.r, .int .i64 m.c, .bool m.o, .slice A a c] 28)).heap.size = w.heap.size + 1 := by simp
  rw [e9] at HK2
  have HL1 := Lib.hid (fun W => light_any m A a c W)
  have HL2 := Lib.hid (fun W => light_any n B b d W)
  rw [h1] at HL1
  rw [h2] at HL2
  have HE := Lib.hid (envM_of_S hS)
  have HV := Lib.hid (fun W (hW : Below w.heap.size w W) => valid_any (erS ads) m A a c W (HE.out.below hW).1 wm (hA.next hW))
  have HRV := Lib.hid (fun W => rvalid_any m A a c W wm hA.len)
  have HY := Lib.hid (fun W (hW : Below w.heap.size w W) => wbytes_gen (erS ads) m A a c W (HE.out.below hW).1 wm (hA.next hW))
  have HI := Lib.hid (fun W (hW : Below w.heap.size w W) => is_code ads (mcode m) (isC_m m) W (hS.below hW))
  have HI2 := Lib.hid (fun W (hW : Below w.heap.size w W) => is_code ads (mrc zs) (isC_r zs) W (hS.below hW))
  have HWS := Lib.hid (fun W (hW : Below w.heap.size w W) => wsame_any m n A B a c b d W (hA.next hW) (hB.next hW) (by omega) (by omega))
  have HRS := Lib.hid (fun W (hW : Below w.heap.size w W) => rsame_any m n A B a c b d W (hA.next hW) (hB.next hW) (by omega) (by omega))
  have HRD := Lib.hid (fun W (hW : Below w.heap.size w W) => wread_any (erS ads) D p dc zs W (HE.out.below hW) (hD.next hW) (by omega) hdc)
  have HRR := Lib.hid (fun W (hW : Below w.heap.size w W) => rread_any D p dc zs W (hD.next hW) (by omega) hdc)
  have HMS := Lib.hid (mres_small zs)
  have HSELF := Lib.hid (sameB_self (mres zs))
  unfold readOf at HRD
  unfold rreadOf at HRR
  have HMB := Lib.hid (fun W (hW : Below w.heap.size w W) => rmb_any m A a c W wm (hA.next hW) hc)
  have HXB := Lib.hid (mbs_len10 hc).2
  have e1 : mbx m = mbs m := if_pos hc
  rw [e1] at HY
  unfold rbytesOf at HMB
  rw [hc] at HV HRV HI HY
  generalize erS ads 0 = E at *
  generalize erS ads (mrc zs) = E2 at *
  generalize mrc zs = C2 at *
  generalize mres zs = u at *
  generalize sameB m n = R at *
  generalize mbs m = X at *
  unfold mv at *
  clear hS wm _wn hA hB hD hdc ha hb' hp hc h1 h2 e1 e9
  go_enter Tryd.func3, Tryd.ntmps3
  go_wp2_with fail
  refine HF.out.mono ?_
  rintro e w1 ⟨rfl, hb⟩
  have hk1 := HK1.out.next hb
  have hk2 := HK2.out.next hb
  have HB1 := Lib.hid (below_next HB.out hb)
  have x0 : w1.cell? ⟨w.heap.size, 0, none⟩ = _ := hk1.cell 0
  have x1 : w1.cell? ⟨w.heap.size, 1, none⟩ = _ := hk1.cell 1
  have x2 : w1.cell? ⟨w.heap.size, 2, none⟩ = _ := hk1.cell 2
  have x3 : w1.cell? ⟨w.heap.size, 3, none⟩ = _ := hk1.cell 3
  have x4 : w1.cell? ⟨w.heap.size, 4, none⟩ = _ := hk1.cell 4
  have x5 : w1.cell? ⟨w.heap.size, 5, none⟩ = _ := hk1.cell 5
  have x6 : w1.cell? ⟨w.heap.size, 6, none⟩ = _ := hk1.cell 6
  have x7 : w1.cell? ⟨w.heap.size, 7, none⟩ = _ := hk1.cell 7
  have x8 : w1.cell? ⟨w.heap.size, 8, none⟩ = _ := hk1.cell 8
  have HK1 := Lib.hid hk1
  have HK2 := Lib.hid hk2
  clear hb hk1 hk2
  go_wp2_with fail
  refine (HL1.out _).mono ?_
  rintro e w2 ⟨rfl, hb2⟩
  have hk1 := HK1.out.next hb2
  have hk2 := HK2.out.next hb2
  clear x0 x1 x2 x3 x4 x5 x6 x7 x8
  have y0 : w2.cell? ⟨w.heap.size + 1, 0, none⟩ = _ := hk2.cell 0
  have y1 : w2.cell? ⟨w.heap.size + 1, 1, none⟩ = _ := hk2.cell 1
  have y2 : w2.cell? ⟨w.heap.size + 1, 2, none⟩ = _ := hk2.cell 2
  have y3 : w2.cell? ⟨w.heap.size + 1, 3, none⟩ = _ := hk2.cell 3
  have y4 : w2.cell? ⟨w.heap.size + 1, 4, none⟩ = _ := hk2.cell 4
  have y5 : w2.cell? ⟨w.heap.size + 1, 5, none⟩ = _ := hk2.cell 5
  have y6 : w2.cell? ⟨w.heap.size + 1, 6, none⟩ = _ := hk2.cell 6
  have y7 : w2.cell? ⟨w.heap.size + 1, 7, none⟩ = _ := hk2.cell 7
  have y8 : w2.cell? ⟨w.heap.size + 1, 8, none⟩ = _ := hk2.cell 8
  have HB2 := Lib.hid (below_next HB1.out hb2)
  have HK1 := Lib.hid hk1
  have HK2 := Lib.hid hk2
  clear hk1 hk2 hb2
  go_wp2_with fail
  refine (HL2.out _).mono ?_
  rintro e w3 ⟨rfl, hb3⟩
  have hk1 := HK1.out.next hb3
  have hk2 := HK2.out.next hb3
  clear y0 y1 y2 y3 y4 y5 y6 y7 y8
  have x0 : w3.cell? ⟨w.heap.size, 0, none⟩ = _ := hk1.cell 0
  have x1 : w3.cell? ⟨w.heap.size, 1, none⟩ = _ := hk1.cell 1
  have x2 : w3.cell? ⟨w.heap.size, 2, none⟩ = _ := hk1.cell 2
  have x3 : w3.cell? ⟨w.heap.size, 3, none⟩ = _ := hk1.cell 3
  have x4 : w3.cell? ⟨w.heap.size, 4, none⟩ = _ := hk1.cell 4
  have x5 : w3.cell? ⟨w.heap.size, 5, none⟩ = _ := hk1.cell 5
  have x6 : w3.cell? ⟨w.heap.size, 6, none⟩ = _ := hk1.cell 6
  have x7 : w3.cell? ⟨w.heap.size, 7, none⟩ = _ := hk1.cell 7
  have x8 : w3.cell? ⟨w.heap.size, 8, none⟩ = _ := hk1.cell 8
  have HB3 := Lib.hid (below_next HB2.out hb3)
  have HK1 := Lib.hid hk1
  have HK2 := Lib.hid hk2
  clear hk1 hk2 hb3
  go_wp2_with fail
  refine (HRV.out _).mono ?_
  rintro e w4 ⟨rfl, hb4⟩
  have hk1 := HK1.out.next hb4
  have hk2 := HK2.out.next hb4
  clear x0 x1 x2 x3 x4 x5 x6 x7 x8
  have x0 : w4.cell? ⟨w.heap.size, 0, none⟩ = _ := hk1.cell 0
  have x1 : w4.cell? ⟨w.heap.size, 1, none⟩ = _ := hk1.cell 1
  have x2 : w4.cell? ⟨w.heap.size, 2, none⟩ = _ := hk1.cell 2
  have x3 : w4.cell? ⟨w.heap.size, 3, none⟩ = _ := hk1.cell 3
  have x4 : w4.cell? ⟨w.heap.size, 4, none⟩ = _ := hk1.cell 4
  have x5 : w4.cell? ⟨w.heap.size, 5, none⟩ = _ := hk1.cell 5
  have x6 : w4.cell? ⟨w.heap.size, 6, none⟩ = _ := hk1.cell 6
  have x7 : w4.cell? ⟨w.heap.size, 7, none⟩ = _ := hk1.cell 7
  have x8 : w4.cell? ⟨w.heap.size, 8, none⟩ = _ := hk1.cell 8
  have HB4 := Lib.hid (below_next HB3.out hb4)
  have HK1 := Lib.hid hk1
  have HK2 := Lib.hid hk2
  clear hk1 hk2 hb4
  go_wp2_with fail
  refine (HY.out _ HB4.out).mono ?_
  rintro e w5 ⟨A5, n5, c5, rfl, hn5, hr5, hb5⟩
  have hk1 := HK1.out.next hb5
  have hk2 := HK2.out.next hb5
  have HB5 := Lib.hid (below_next HB4.out hb5)
  have HK1 := Lib.hid hk1
  have HK2 := Lib.hid hk2
  clear x0 x1 x2 x3 x4 x5 x6 x7 x8
  have x0 := fun W hW => keepc (w' := W) (w := w5) (hk1.cell 0) hW
  have x1 := fun W hW => keepc (w' := W) (w := w5) (hk1.cell 1) hW
  have x2 := fun W hW => keepc (w' := W) (w := w5) (hk1.cell 2) hW
  have x3 := fun W hW => keepc (w' := W) (w := w5) (hk1.cell 3) hW
  have x4 := fun W hW => keepc (w' := W) (w := w5) (hk1.cell 4) hW
  have x5 := fun W hW => keepc (w' := W) (w := w5) (hk1.cell 5) hW
  have x6 := fun W hW => keepc (w' := W) (w := w5) (hk1.cell 6) hW
  have x7 := fun W hW => keepc (w' := W) (w := w5) (hk1.cell 7) hW
  have x8 := fun W hW => keepc (w' := W) (w := w5) (hk1.cell 8) hW
  have y0 := fun W hW => keepc (w' := W) (w := w5) (hk2.cell 0) hW
  have y1 := fun W hW => keepc (w' := W) (w := w5) (hk2.cell 1) hW
  have y2 := fun W hW => keepc (w' := W) (w := w5) (hk2.cell 2) hW
  have y3 := fun W hW => keepc (w' := W) (w := w5) (hk2.cell 3) hW
  have y4 := fun W hW => keepc (w' := W) (w := w5) (hk2.cell 4) hW
  have y5 := fun W hW => keepc (w' := W) (w := w5) (hk2.cell 5) hW
  have y6 := fun W hW => keepc (w' := W) (w := w5) (hk2.cell 6) hW
  have y7 := fun W hW => keepc (w' := W) (w := w5) (hk2.cell 7) hW
  have y8 := fun W hW => keepc (w' := W) (w := w5) (hk2.cell 8) hW
  have hl5 : n5 ≤ 30 := by have := hr5.len; have := HXB.out; omega
  have HR5 := Lib.hid hr5
  clear hb5 hn5 hr5 hk1 hk2
  have HI5 := Lib.hid (fun W (hW : Below w5.heap.size w5 W) => HI.out W (below_next HB5.out hW))
  have HV5 := Lib.hid (fun W (hW : Below w5.heap.size w5 W) => HV.out W (below_next HB5.out hW))
  have HWS5 := Lib.hid (fun W (hW : Below w5.heap.size w5 W) => HWS.out W (below_next HB5.out hW))
  have HRS5 := Lib.hid (fun W (hW : Below w5.heap.size w5 W) => HRS.out W (below_next HB5.out hW))
  go_wp2_with fail
  go_region_held3 (fun w' => Below w5.heap.size w5 w')
    (first | with_reducible assumption | exact (Below.refl _ _).drew)
    (first
    | (go_at_call 13; refine (HV5.out _ (by with_reducible assumption)).mono ?_; rintro e wr ⟨rfl, hb⟩; have hbr := below_next (w := w5) (by with_reducible assumption) hb)
    | (go_at_call 12; refine (HI5.out _ (by with_reducible assumption)).mono ?_; rintro e wr ⟨rfl, hb⟩; have hbr := below_next (w := w5) (by with_reducible assumption) hb)
    | (go_at_call 14; refine (HWS5.out _ (by with_reducible assumption)).mono ?_; rintro e wr ⟨rfl, hb⟩; have hbr := below_next (w := w5) (by with_reducible assumption) hb)
    | (go_at_call 15; refine (HRS5.out _ (by with_reducible assumption)).mono ?_; rintro e wr ⟨rfl, hb⟩; have hbr := below_next (w := w5) (by with_reducible assumption) hb))
  clear x0 x1 x2 x3 x4 x5 x6 x7 x8
  clear y0 y1 y2 y3 y4 y5 y6 y7 y8
  have hk1 := HK1.out.next hbr
  have HB6 := Lib.hid (below_next HB5.out hbr)
  have HR6 := Lib.hid (HR5.out.next hbr)
  clear hbr
  have x0 : wr.cell? ⟨w.heap.size, 0, none⟩ = _ := hk1.cell 0
  have x1 : wr.cell? ⟨w.heap.size, 1, none⟩ = _ := hk1.cell 1
  have x2 : wr.cell? ⟨w.heap.size, 2, none⟩ = _ := hk1.cell 2
  have x3 : wr.cell? ⟨w.heap.size, 3, none⟩ = _ := hk1.cell 3
  have x4 : wr.cell? ⟨w.heap.size, 4, none⟩ = _ := hk1.cell 4
  have x5 : wr.cell? ⟨w.heap.size, 5, none⟩ = _ := hk1.cell 5
  have x6 : wr.cell? ⟨w.heap.size, 6, none⟩ = _ := hk1.cell 6
  have x7 : wr.cell? ⟨w.heap.size, 7, none⟩ = _ := hk1.cell 7
  have x8 : wr.cell? ⟨w.heap.size, 8, none⟩ = _ := hk1.cell 8
  clear hk1
  go_wp2_with fail
  refine (HMB.out _ HB6.out).mono ?_
  rintro e w7 ⟨A7, n7, c7, rfl, hr7, _, hb7⟩
  have HB7 := Lib.hid (below_next HB6.out hb7)
  have HR7 := Lib.hid (HR6.out.next hb7)
  have HQ7 := Lib.hid hr7
  have hl7 : n7 ≤ 30 := by have := hr7.len; have := HXB.out; omega
  clear hr7 hb7
  clear x0 x1 x2 x3 x4 x5 x6 x7 x8
  go_wp2_with fail
  refine (same_any _ _ n5 n7 _ _ X X _ HR7.out HQ7.out (by omega) (by omega)).mono ?_
  rintro e w8 ⟨rfl, hb8⟩
  rw [decide_eq_true (rfl : X = X)]
  have HB8 := Lib.hid (below_next HB7.out hb8)
  clear hb8 hl5 hl7
  go_wp2_with fail
  refine (HRD.out _ HB8.out).mono ?_
  rintro e w9 ⟨A9, n9, c9, rfl, ha9, hb9⟩
  have hal : Below w9.heap.size w9 (w9.alloc (.cells #[.int .i64 u.k, .int .u32 u.f, .int .u32 u.t, .int .u32 u.s, .int .u32 u.g, .int .i64 u.r, .int .i64 u.c, .bool u.o, .slice A9 n9 c9] 28)) := (Below.refl _ _).alloc (Nat.le_refl _) _
  have HB9 := Lib.hid (below_next (below_next HB8.out hb9) hal)
  have HM9 := Lib.hid (Blk.new w9 28 #[.int .i64 u.k, .int .u32 u.f, .int .u32 u.t, .int .u32 u.s, .int .u32 u.g, .int .i64 u.r, .int .i64 u.c, .bool u.o, .slice A9 n9 c9])
  have HA9 := Lib.hid (ha9.next hal)
  have hn9 : n9 ≤ 4 := by have := ha9.len; have := HMS.out; omega
  clear hal hb9 ha9
  go_wp2_with fail
  refine (HRR.out _ HB9.out).mono ?_
  rintro e w10 ⟨A10, n10, c10, rfl, ha10, hb10⟩
  have hal : Below w10.heap.size w10 (w10.alloc (.cells #[.int .i64 u.k, .int .u32 u.f, .int .u32 u.t, .int .u32 u.s, .int .u32 u.g, .int .i64 u.r, .int .i64 u.c, .bool u.o, .slice A10 n10 c10] 28)) := (Below.refl _ _).alloc (Nat.le_refl _) _
  have HB10 := Lib.hid (below_next (below_next HB9.out hb10) hal)
  have hm9 := (HM9.out.next hb10)
  have hlt := hm9.lt
  have HM9 := Lib.hid (hm9.next hal)
  have HM10 := Lib.hid (Blk.new w10 28 #[.int .i64 u.k, .int .u32 u.f, .int .u32 u.t, .int .u32 u.s, .int .u32 u.g, .int .i64 u.r, .int .i64 u.c, .bool u.o, .slice A10 n10 c10])
  have HA9 := Lib.hid ((HA9.out.next hb10).next hal)
  have HA10 := Lib.hid (ha10.next hal)
  have hn10 : n10 ≤ 4 := by have := ha10.len; have := HMS.out; omega
  clear hal hb10 ha10 hm9
  go_wp2_with fail
  generalize hW : w10.alloc (.cells #[.int .i64 u.k, .int .u32 u.f, .int .u32 u.t, .int .u32 u.s, .int .u32 u.g, .int .i64 u.r, .int .i64 u.c, .bool u.o, .slice A10 n10 c10] 28) = W11 at *
  refine (HI2.out _ HB10.out).mono ?_
  rintro e w12 ⟨rfl, hb12⟩
  have hk1 := HM9.out.next hb12
  have hk2 := HM10.out.next hb12
  have HB12 := Lib.hid (below_next HB10.out hb12)
  have HA9 := Lib.hid (HA9.out.next hb12)
  have HA10 := Lib.hid (HA10.out.next hb12)
  have x0 : w12.cell? ⟨w9.heap.size, 0, none⟩ = _ := hk1.cell 0
  have x1 : w12.cell? ⟨w9.heap.size, 1, none⟩ = _ := hk1.cell 1
  have x2 : w12.cell? ⟨w9.heap.size, 2, none⟩ = _ := hk1.cell 2
  have x3 : w12.cell? ⟨w9.heap.size, 3, none⟩ = _ := hk1.cell 3
  have x4 : w12.cell? ⟨w9.heap.size, 4, none⟩ = _ := hk1.cell 4
  have x5 : w12.cell? ⟨w9.heap.size, 5, none⟩ = _ := hk1.cell 5
  have x6 : w12.cell? ⟨w9.heap.size, 6, none⟩ = _ := hk1.cell 6
  have x7 : w12.cell? ⟨w9.heap.size, 7, none⟩ = _ := hk1.cell 7
  have x8 : w12.cell? ⟨w9.heap.size, 8, none⟩ = _ := hk1.cell 8
  have y0 : w12.cell? ⟨w10.heap.size, 0, none⟩ = _ := hk2.cell 0
  have y1 : w12.cell? ⟨w10.heap.size, 1, none⟩ = _ := hk2.cell 1
  have y2 : w12.cell? ⟨w10.heap.size, 2, none⟩ = _ := hk2.cell 2
  have y3 : w12.cell? ⟨w10.heap.size, 3, none⟩ = _ := hk2.cell 3
  have y4 : w12.cell? ⟨w10.heap.size, 4, none⟩ = _ := hk2.cell 4
  have y5 : w12.cell? ⟨w10.heap.size, 5, none⟩ = _ := hk2.cell 5
  have y6 : w12.cell? ⟨w10.heap.size, 6, none⟩ = _ := hk2.cell 6
  have y7 : w12.cell? ⟨w10.heap.size, 7, none⟩ = _ := hk2.cell 7
  have y8 : w12.cell? ⟨w10.heap.size, 8, none⟩ = _ := hk2.cell 8
  have HRS := Lib.hid (rsame_any u u A9 A10 n9 c9 n10 c10 w12 HA9.out HA10.out (by omega) (by omega))
  rw [HSELF.out] at HRS
  unfold mv at HRS
  clear hb12 hk1 hk2 hW hlt
  go_wp2_with fail
  refine HRS.out.mono ?_
  rintro e w13 ⟨rfl, hb13⟩
  go_wp2
  go_ret
  exact ⟨rfl, below_next HB12.out hb13⟩
theorem law_says (hS : EnvS ads w) (wm : wfm m) (wn : wfm n) (hA : AR w A a m.l) (hB : AR w B b n.l) (hD : BR w D p zs) (hdc : p ≤ dc) :
    Calls Tryd.prog 3 #[mv m A a c, mv n B b d, .slice D p dc] w fun e w' => e = .returned (.bool true) ∧ Below w.heap.size w w' := by
  by_cases hp : p ≤ 200
  case neg => exact says_big ads m n A B a c b d D p dc w hS (by omega)
  by_cases h : a ≤ 20 ∧ b ≤ 20
  case neg => exact says_heavy ads m n A B a c b d D p dc w hS hp (by omega)
  by_cases hc : mcode m = 0
  · exact says_yes ads m n A B a c b d D p dc zs w hS wm wn hA hB hD hdc h.1 h.2 hp hc
  · exact says_no ads m n A B a c b d D p dc zs w hS wm wn hA hB hD hdc h.1 h.2 hp hc
end
end Go.Proofs.YtfcfnfofihpegaaDoor
