/- WireTwins, walked. -/
import Derived.Test.YtfcfnfofihpegaaDoorWl
namespace Go.Proofs.YtfcfnfofihpegaaDoor
open Go.RowKit Sm
section
variable (er : Int → Value) (m n : Ms) (A B : Option Addr) (a c b d : Nat) (w : World)
set_option maxHeartbeats 4000000 in
theorem twins_heavy (hE : EnvV er w) (h : ¬ a ≤ 20 ∨ ¬ b ≤ 20) :
    Calls Tryd.prog 6 #[mv m A a c, mv n B b d] w fun e w' => e = .returned (.bool true) ∧ Below w.heap.size w w' := by
  have hc : decide (a ≤ 20) = false ∨ decide (a ≤ 20) = true ∧ decide (b ≤ 20) = false := by
    simp only [decide_eq_true_eq, decide_eq_false_iff_not]; omega
  have HB := Lib.hid (two_boxes w (.cells #[.int .i64 m.k, .int .u32 m.f, .int .u32 m.t, .int .u32 m.s, .int .u32 m.g, .int .i64 m.r, .int .i64 m.c, .bool m.o, .slice A a c] 28) (.cells #[.int .i64 n.k, .int .u32 n.f, .int .u32 n.t, .int .u32 n.s, .int .u32 n.g, .int .i64 n.r, .int .i64 n.c, .bool n.o, .slice B b d] 28))
  have HE := Lib.hid (hE.below HB.out)
  have HF := Lib.hid (first_any er _ HE.out)
  have HK1 := Lib.hid ((Blk.new w 28 #[.int .i64 m.k, .int .u32 m.f, .int .u32 m.t, .int .u32 m.s, .int .u32 m.g, .int .i64 m.r, .int .i64 m.c, .bool m.o, .slice A a c]).alloc (.cells #[.int .i64 n.k, .int .u32 n.f, .int .u32 n.t, .int .u32 n.s, .int .u32 n.g, .int .i64 n.r, .int .i64 n.c, .bool n.o, .slice B b d] 28))
  have HK2 := Lib.hid (Blk.new (w.alloc (.cells #[.int .i64 m.k, .int .u32 m.f, .int .u32 m.t, .int .u32 m.s, .int .u32 m.g, .int .i64 m.r, .int .i64 m.c, .bool m.o, .slice A a c] 28)) 28 #[.int .i64 n.k, .int .u32 n.f, .int .u32 n.t, .int .u32 n.s, .int .u32 n.g, .int .i64 n.r, .int .i64 n.c, .bool n.o, .slice B b d])
  have e9 : (w.alloc (.cells #[.int .i64 m.k, .int .u32 m.f, .int .u32 m.t, .int .u32 m.s, .int .u32 m.g, .int .i64 m.r, .int .i64 m.c, .bool m.o, .slice A a c] 28)).heap.size = w.heap.size + 1 := by simp
  rw [e9] at HK2
  have HL1 := Lib.hid (fun W => light_any m A a c W)
  have HL2 := Lib.hid (fun W => light_any n B b d W)
  unfold mv at *
  rcases hc with h1 | ⟨h1, h2⟩
  · clear hE h e9
    go_enter Tryd.func6, Tryd.ntmps6
    go_wp2_with fail
    refine HF.out.mono ?_
    rintro e w1 ⟨rfl, hb⟩
    have hk1 := HK1.out.next hb
    have hk2 := HK2.out.next hb
    have hB1 := below_next HB.out hb
    rw [h1] at HL1
    have x0 : w1.cell? ⟨w.heap.size, 0, none⟩ = _ := hk1.cell 0
    have x1 : w1.cell? ⟨w.heap.size, 1, none⟩ = _ := hk1.cell 1
    have x2 : w1.cell? ⟨w.heap.size, 2, none⟩ = _ := hk1.cell 2
    have x3 : w1.cell? ⟨w.heap.size, 3, none⟩ = _ := hk1.cell 3
    have x4 : w1.cell? ⟨w.heap.size, 4, none⟩ = _ := hk1.cell 4
    have x5 : w1.cell? ⟨w.heap.size, 5, none⟩ = _ := hk1.cell 5
    have x6 : w1.cell? ⟨w.heap.size, 6, none⟩ = _ := hk1.cell 6
    have x7 : w1.cell? ⟨w.heap.size, 7, none⟩ = _ := hk1.cell 7
    have x8 : w1.cell? ⟨w.heap.size, 8, none⟩ = _ := hk1.cell 8
    have y0 : w1.cell? ⟨w.heap.size + 1, 0, none⟩ = _ := hk2.cell 0
    have y1 : w1.cell? ⟨w.heap.size + 1, 1, none⟩ = _ := hk2.cell 1
    have y2 : w1.cell? ⟨w.heap.size + 1, 2, none⟩ = _ := hk2.cell 2
    have y3 : w1.cell? ⟨w.heap.size + 1, 3, none⟩ = _ := hk2.cell 3
    have y4 : w1.cell? ⟨w.heap.size + 1, 4, none⟩ = _ := hk2.cell 4
    have y5 : w1.cell? ⟨w.heap.size + 1, 5, none⟩ = _ := hk2.cell 5
    have y6 : w1.cell? ⟨w.heap.size + 1, 6, none⟩ = _ := hk2.cell 6
    have y7 : w1.cell? ⟨w.heap.size + 1, 7, none⟩ = _ := hk2.cell 7
    have y8 : w1.cell? ⟨w.heap.size + 1, 8, none⟩ = _ := hk2.cell 8
    have HB1 := Lib.hid hB1
    clear hb hk1 hk2 hB1 h1
    go_wp2_with fail
    refine (HL1.out _).mono ?_
    rintro e w2 ⟨rfl, hb2⟩
    go_wp2
    go_ret
    exact ⟨rfl, below_next HB1.out hb2⟩
  · clear hE h e9
    go_enter Tryd.func6, Tryd.ntmps6
    go_wp2_with fail
    refine HF.out.mono ?_
    rintro e w1 ⟨rfl, hb⟩
    have hk1 := HK1.out.next hb
    have hk2 := HK2.out.next hb
    have hB1 := below_next HB.out hb
    rw [h1] at HL1
    rw [h2] at HL2
    have x0 : w1.cell? ⟨w.heap.size, 0, none⟩ = _ := hk1.cell 0
    have x1 : w1.cell? ⟨w.heap.size, 1, none⟩ = _ := hk1.cell 1
    have x2 : w1.cell? ⟨w.heap.size, 2, none⟩ = _ := hk1.cell 2
    have x3 : w1.cell? ⟨w.heap.size, 3, none⟩ = _ := hk1.cell 3
    have x4 : w1.cell? ⟨w.heap.size, 4, none⟩ = _ := hk1.cell 4
    have x5 : w1.cell? ⟨w.heap.size, 5, none⟩ = _ := hk1.cell 5
    have x6 : w1.cell? ⟨w.heap.size, 6, none⟩ = _ := hk1.cell 6
    have x7 : w1.cell? ⟨w.heap.size, 7, none⟩ = _ := hk1.cell 7
    have x8 : w1.cell? ⟨w.heap.size, 8, none⟩ = _ := hk1.cell 8
    have y0 : w1.cell? ⟨w.heap.size + 1, 0, none⟩ = _ := hk2.cell 0
    have y1 : w1.cell? ⟨w.heap.size + 1, 1, none⟩ = _ := hk2.cell 1
    have y2 : w1.cell? ⟨w.heap.size + 1, 2, none⟩ = _ := hk2.cell 2
    have y3 : w1.cell? ⟨w.heap.size + 1, 3, none⟩ = _ := hk2.cell 3
    have y4 : w1.cell? ⟨w.heap.size + 1, 4, none⟩ = _ := hk2.cell 4
    have y5 : w1.cell? ⟨w.heap.size + 1, 5, none⟩ = _ := hk2.cell 5
    have y6 : w1.cell? ⟨w.heap.size + 1, 6, none⟩ = _ := hk2.cell 6
    have y7 : w1.cell? ⟨w.heap.size + 1, 7, none⟩ = _ := hk2.cell 7
    have y8 : w1.cell? ⟨w.heap.size + 1, 8, none⟩ = _ := hk2.cell 8
    have HB1 := Lib.hid hB1
    have HK1 := Lib.hid hk1
    have HK2 := Lib.hid hk2
    clear hb hk1 hk2 hB1 h1 h2
    go_wp2_with fail
    refine (HL1.out _).mono ?_
    rintro e w2 ⟨rfl, hb2⟩
    have hk2 := HK2.out.next hb2
    have y0 : w2.cell? ⟨w.heap.size + 1, 0, none⟩ = _ := hk2.cell 0
    have y1 : w2.cell? ⟨w.heap.size + 1, 1, none⟩ = _ := hk2.cell 1
    have y2 : w2.cell? ⟨w.heap.size + 1, 2, none⟩ = _ := hk2.cell 2
    have y3 : w2.cell? ⟨w.heap.size + 1, 3, none⟩ = _ := hk2.cell 3
    have y4 : w2.cell? ⟨w.heap.size + 1, 4, none⟩ = _ := hk2.cell 4
    have y5 : w2.cell? ⟨w.heap.size + 1, 5, none⟩ = _ := hk2.cell 5
    have y6 : w2.cell? ⟨w.heap.size + 1, 6, none⟩ = _ := hk2.cell 6
    have y7 : w2.cell? ⟨w.heap.size + 1, 7, none⟩ = _ := hk2.cell 7
    have y8 : w2.cell? ⟨w.heap.size + 1, 8, none⟩ = _ := hk2.cell 8
    have HB2 := Lib.hid (below_next HB1.out hb2)
    clear hk2 hb2
    go_wp2_with fail
    refine (HL2.out _).mono ?_
    rintro e w3 ⟨rfl, hb3⟩
    go_wp2
    go_ret
    exact ⟨rfl, below_next HB2.out hb3⟩
set_option maxHeartbeats 4000000 in
theorem twins_bad (hE : EnvV er w) (wm : wfm m) (wn : wfm n) (hA : AR w A a m.l) (hB : AR w B b n.l) (ha : a ≤ 20) (hb' : b ≤ 20) (hc : mcode m ≠ 0 ∨ mcode n ≠ 0) :
    Calls Tryd.prog 6 #[mv m A a c, mv n B b d] w fun e w' => e = .returned (.bool true) ∧ Below w.heap.size w w' := by
  have HL1 := Lib.hid (fun W => light_any m A a c W)
  have HL2 := Lib.hid (fun W => light_any n B b d W)
  have h1 : decide (a ≤ 20) = true := by simpa using ha
  have h2 : decide (b ≤ 20) = true := by simpa using hb'
  rw [h1] at HL1
  rw [h2] at HL2
  have HY1 := Lib.hid (fun W (hW : Below w.heap.size w W) hEW => wbytes_gen er m A a c W hEW wm (hA.next hW))
  have HY2 := Lib.hid (fun W (hW : Below w.heap.size w W) hEW => wbytes_gen er n B b d W hEW wn (hB.next hW))
  have HB := Lib.hid (two_boxes w (.cells #[.int .i64 m.k, .int .u32 m.f, .int .u32 m.t, .int .u32 m.s, .int .u32 m.g, .int .i64 m.r, .int .i64 m.c, .bool m.o, .slice A a c] 28) (.cells #[.int .i64 n.k, .int .u32 n.f, .int .u32 n.t, .int .u32 n.s, .int .u32 n.g, .int .i64 n.r, .int .i64 n.c, .bool n.o, .slice B b d] 28))
  have HE := Lib.hid (hE.below HB.out)
  have HF := Lib.hid (first_any er _ HE.out)
  have HK1 := Lib.hid ((Blk.new w 28 #[.int .i64 m.k, .int .u32 m.f, .int .u32 m.t, .int .u32 m.s, .int .u32 m.g, .int .i64 m.r, .int .i64 m.c, .bool m.o, .slice A a c]).alloc (.cells #[.int .i64 n.k, .int .u32 n.f, .int .u32 n.t, .int .u32 n.s, .int .u32 n.g, .int .i64 n.r, .int .i64 n.c, .bool n.o, .slice B b d] 28))
  have HK2 := Lib.hid (Blk.new (w.alloc (.cells #[.int .i64 m.k, .int .u32 m.f, .int .u32 m.t, .int .u32 m.s, .int .u32 m.g, .int .i64 m.r, .int .i64 m.c, .bool m.o, .slice A a c] 28)) 28 #[.int .i64 n.k, .int .u32 n.f, .int .u32 n.t, .int .u32 n.s, .int .u32 n.g, .int .i64 n.r, .int .i64 n.c, .bool n.o, .slice B b d])
  have e9 : (w.alloc (.cells #[.int .i64 m.k, .int .u32 m.f, .int .u32 m.t, .int .u32 m.s, .int .u32 m.g, .int .i64 m.r, .int .i64 m.c, .bool m.o, .slice A a c] 28)).heap.size = w.heap.size + 1 := by simp
  rw [e9] at HK2
  have hz : er 0 = .nilIface := hE.1
  have hev : ∀ x, mcode x ≠ 0 → ∃ q, er (mcode x) = ev q := fun x hx => hE.2.1 _ (by have := mcode_cases x; omega)
  have hw : (er (mcode m) = .nilIface ∧ ∃ q, er (mcode n) = ev q ∧ mbx n = []) ∨ ((∃ q, er (mcode m) = ev q ∧ mbx m = []) ∧ er (mcode n) = .nilIface) ∨ ((∃ q, er (mcode m) = ev q ∧ mbx m = []) ∧ ∃ q, er (mcode n) = ev q ∧ mbx n = []) := by
    by_cases h1 : mcode m = 0
    · have h2 : mcode n ≠ 0 := by rcases hc with h | h; exact absurd h1 h; exact h
      obtain ⟨q, hq⟩ := hev n h2
      exact .inl ⟨by rw [h1, hz], q, hq, if_neg h2⟩
    · obtain ⟨q, hq⟩ := hev m h1
      by_cases h2 : mcode n = 0
      · exact .inr (.inl ⟨⟨q, hq, if_neg h1⟩, by rw [h2, hz]⟩)
      · obtain ⟨q', hq'⟩ := hev n h2
        exact .inr (.inr ⟨⟨q, hq, if_neg h1⟩, q', hq', if_neg h2⟩)
  unfold mv ev at *
  clear hev hz wm wn hA hB ha hb' hc h1 h2
  rcases hw with ⟨q1, q, q2, q3⟩ | ⟨⟨q, q1, q3⟩, q2⟩ | ⟨⟨q, q1, q3⟩, q', q2, q4⟩
  · rw [q1] at HY1
    rw [q2] at HY2
    rw [q3] at HY2
    clear q1 q2 q3
    clear hE e9
    go_enter Tryd.func6, Tryd.ntmps6
    go_wp2_with fail
    refine HF.out.mono ?_
    rintro e w1 ⟨rfl, hb⟩
    have hk1 := HK1.out.next hb
    have hk2 := HK2.out.next hb
    have hB1 := below_next HB.out hb
    have x0 : w1.cell? ⟨w.heap.size, 0, none⟩ = _ := hk1.cell 0
    have x1 : w1.cell? ⟨w.heap.size, 1, none⟩ = _ := hk1.cell 1
    have x2 : w1.cell? ⟨w.heap.size, 2, none⟩ = _ := hk1.cell 2
    have x3 : w1.cell? ⟨w.heap.size, 3, none⟩ = _ := hk1.cell 3
    have x4 : w1.cell? ⟨w.heap.size, 4, none⟩ = _ := hk1.cell 4
    have x5 : w1.cell? ⟨w.heap.size, 5, none⟩ = _ := hk1.cell 5
    have x6 : w1.cell? ⟨w.heap.size, 6, none⟩ = _ := hk1.cell 6
    have x7 : w1.cell? ⟨w.heap.size, 7, none⟩ = _ := hk1.cell 7
    have x8 : w1.cell? ⟨w.heap.size, 8, none⟩ = _ := hk1.cell 8
    have y0 : w1.cell? ⟨w.heap.size + 1, 0, none⟩ = _ := hk2.cell 0
    have y1 : w1.cell? ⟨w.heap.size + 1, 1, none⟩ = _ := hk2.cell 1
    have y2 : w1.cell? ⟨w.heap.size + 1, 2, none⟩ = _ := hk2.cell 2
    have y3 : w1.cell? ⟨w.heap.size + 1, 3, none⟩ = _ := hk2.cell 3
    have y4 : w1.cell? ⟨w.heap.size + 1, 4, none⟩ = _ := hk2.cell 4
    have y5 : w1.cell? ⟨w.heap.size + 1, 5, none⟩ = _ := hk2.cell 5
    have y6 : w1.cell? ⟨w.heap.size + 1, 6, none⟩ = _ := hk2.cell 6
    have y7 : w1.cell? ⟨w.heap.size + 1, 7, none⟩ = _ := hk2.cell 7
    have y8 : w1.cell? ⟨w.heap.size + 1, 8, none⟩ = _ := hk2.cell 8
    have HB1 := Lib.hid hB1
    have HK1 := Lib.hid hk1
    have HK2 := Lib.hid hk2
    have HE1 := Lib.hid (HE.out.below hb)
    clear hb hk1 hk2 hB1
    go_wp2_with fail
    refine (HL1.out _).mono ?_
    rintro e w2 ⟨rfl, hb2⟩
    have hk1 := HK1.out.next hb2
    have hk2 := HK2.out.next hb2
    have x0 : w2.cell? ⟨w.heap.size, 0, none⟩ = _ := hk1.cell 0
    have x1 : w2.cell? ⟨w.heap.size, 1, none⟩ = _ := hk1.cell 1
    have x2 : w2.cell? ⟨w.heap.size, 2, none⟩ = _ := hk1.cell 2
    have x3 : w2.cell? ⟨w.heap.size, 3, none⟩ = _ := hk1.cell 3
    have x4 : w2.cell? ⟨w.heap.size, 4, none⟩ = _ := hk1.cell 4
    have x5 : w2.cell? ⟨w.heap.size, 5, none⟩ = _ := hk1.cell 5
    have x6 : w2.cell? ⟨w.heap.size, 6, none⟩ = _ := hk1.cell 6
    have x7 : w2.cell? ⟨w.heap.size, 7, none⟩ = _ := hk1.cell 7
    have x8 : w2.cell? ⟨w.heap.size, 8, none⟩ = _ := hk1.cell 8
    have y0 : w2.cell? ⟨w.heap.size + 1, 0, none⟩ = _ := hk2.cell 0
    have y1 : w2.cell? ⟨w.heap.size + 1, 1, none⟩ = _ := hk2.cell 1
    have y2 : w2.cell? ⟨w.heap.size + 1, 2, none⟩ = _ := hk2.cell 2
    have y3 : w2.cell? ⟨w.heap.size + 1, 3, none⟩ = _ := hk2.cell 3
    have y4 : w2.cell? ⟨w.heap.size + 1, 4, none⟩ = _ := hk2.cell 4
    have y5 : w2.cell? ⟨w.heap.size + 1, 5, none⟩ = _ := hk2.cell 5
    have y6 : w2.cell? ⟨w.heap.size + 1, 6, none⟩ = _ := hk2.cell 6
    have y7 : w2.cell? ⟨w.heap.size + 1, 7, none⟩ = _ := hk2.cell 7
    have y8 : w2.cell? ⟨w.heap.size + 1, 8, none⟩ = _ := hk2.cell 8
    have HB2 := Lib.hid (below_next HB1.out hb2)
    have HE2 := Lib.hid (HE1.out.below hb2)
    have HK1 := Lib.hid hk1
    have HK2 := Lib.hid hk2
    clear hk1 hk2 hb2
    go_wp2_with fail
    refine (HL2.out _).mono ?_
    rintro e w3 ⟨rfl, hb3⟩
    have hk1 := HK1.out.next hb3
    have hk2 := HK2.out.next hb3
    have x0 : w3.cell? ⟨w.heap.size, 0, none⟩ = _ := hk1.cell 0
    have x1 : w3.cell? ⟨w.heap.size, 1, none⟩ = _ := hk1.cell 1
    have x2 : w3.cell? ⟨w.heap.size, 2, none⟩ = _ := hk1.cell 2
    have x3 : w3.cell? ⟨w.heap.size, 3, none⟩ = _ := hk1.cell 3
    have x4 : w3.cell? ⟨w.heap.size, 4, none⟩ = _ := hk1.cell 4
    have x5 : w3.cell? ⟨w.heap.size, 5, none⟩ = _ := hk1.cell 5
    have x6 : w3.cell? ⟨w.heap.size, 6, none⟩ = _ := hk1.cell 6
    have x7 : w3.cell? ⟨w.heap.size, 7, none⟩ = _ := hk1.cell 7
    have x8 : w3.cell? ⟨w.heap.size, 8, none⟩ = _ := hk1.cell 8
    have y0 : w3.cell? ⟨w.heap.size + 1, 0, none⟩ = _ := hk2.cell 0
    have y1 : w3.cell? ⟨w.heap.size + 1, 1, none⟩ = _ := hk2.cell 1
    have y2 : w3.cell? ⟨w.heap.size + 1, 2, none⟩ = _ := hk2.cell 2
    have y3 : w3.cell? ⟨w.heap.size + 1, 3, none⟩ = _ := hk2.cell 3
    have y4 : w3.cell? ⟨w.heap.size + 1, 4, none⟩ = _ := hk2.cell 4
    have y5 : w3.cell? ⟨w.heap.size + 1, 5, none⟩ = _ := hk2.cell 5
    have y6 : w3.cell? ⟨w.heap.size + 1, 6, none⟩ = _ := hk2.cell 6
    have y7 : w3.cell? ⟨w.heap.size + 1, 7, none⟩ = _ := hk2.cell 7
    have y8 : w3.cell? ⟨w.heap.size + 1, 8, none⟩ = _ := hk2.cell 8
    have HB3 := Lib.hid (below_next HB2.out hb3)
    have HE3 := Lib.hid (HE2.out.below hb3)
    have HK1 := Lib.hid hk1
    have HK2 := Lib.hid hk2
    clear hk1 hk2 hb3
    go_wp2_with fail
    refine (HY1.out _ HB3.out HE3.out).mono ?_
    rintro e w4 ⟨A4, n4, c4, rfl, hn4, hr4, hb4⟩
    have hk1 := HK1.out.next hb4
    have hk2 := HK2.out.next hb4
    have x0 : w4.cell? ⟨w.heap.size, 0, none⟩ = _ := hk1.cell 0
    have x1 : w4.cell? ⟨w.heap.size, 1, none⟩ = _ := hk1.cell 1
    have x2 : w4.cell? ⟨w.heap.size, 2, none⟩ = _ := hk1.cell 2
    have x3 : w4.cell? ⟨w.heap.size, 3, none⟩ = _ := hk1.cell 3
    have x4 : w4.cell? ⟨w.heap.size, 4, none⟩ = _ := hk1.cell 4
    have x5 : w4.cell? ⟨w.heap.size, 5, none⟩ = _ := hk1.cell 5
    have x6 : w4.cell? ⟨w.heap.size, 6, none⟩ = _ := hk1.cell 6
    have x7 : w4.cell? ⟨w.heap.size, 7, none⟩ = _ := hk1.cell 7
    have x8 : w4.cell? ⟨w.heap.size, 8, none⟩ = _ := hk1.cell 8
    have y0 : w4.cell? ⟨w.heap.size + 1, 0, none⟩ = _ := hk2.cell 0
    have y1 : w4.cell? ⟨w.heap.size + 1, 1, none⟩ = _ := hk2.cell 1
    have y2 : w4.cell? ⟨w.heap.size + 1, 2, none⟩ = _ := hk2.cell 2
    have y3 : w4.cell? ⟨w.heap.size + 1, 3, none⟩ = _ := hk2.cell 3
    have y4 : w4.cell? ⟨w.heap.size + 1, 4, none⟩ = _ := hk2.cell 4
    have y5 : w4.cell? ⟨w.heap.size + 1, 5, none⟩ = _ := hk2.cell 5
    have y6 : w4.cell? ⟨w.heap.size + 1, 6, none⟩ = _ := hk2.cell 6
    have y7 : w4.cell? ⟨w.heap.size + 1, 7, none⟩ = _ := hk2.cell 7
    have y8 : w4.cell? ⟨w.heap.size + 1, 8, none⟩ = _ := hk2.cell 8
    have HB4 := Lib.hid (below_next HB3.out hb4)
    have HE4 := Lib.hid (HE3.out.below hb4)
    have HR4 := Lib.hid hr4
    have HK1 := Lib.hid hk1
    have HK2 := Lib.hid hk2
    clear hk1 hk2 hb4 hr4 hn4
    go_wp2_with fail
    refine (HY2.out _ HB4.out HE4.out).mono ?_
    rintro e w5 ⟨A5, n5, c5, rfl, hn5, hr5, hb5⟩
    obtain rfl : n5 = 0 := by have := hr5.len; simp at this; omega
    clear hr5
    have HB5 := Lib.hid (below_next HB4.out hb5)
    clear hb5 hn5
    go_wp2
    go_ret
    exact ⟨rfl, HB5.out⟩
  · rw [q1] at HY1
    rw [q2] at HY2
    rw [q3] at HY1
    clear q1 q2 q3
    clear hE e9
    go_enter Tryd.func6, Tryd.ntmps6
    go_wp2_with fail
    refine HF.out.mono ?_
    rintro e w1 ⟨rfl, hb⟩
    have hk1 := HK1.out.next hb
    have hk2 := HK2.out.next hb
    have hB1 := below_next HB.out hb
    have x0 : w1.cell? ⟨w.heap.size, 0, none⟩ = _ := hk1.cell 0
    have x1 : w1.cell? ⟨w.heap.size, 1, none⟩ = _ := hk1.cell 1
    have x2 : w1.cell? ⟨w.heap.size, 2, none⟩ = _ := hk1.cell 2
    have x3 : w1.cell? ⟨w.heap.size, 3, none⟩ = _ := hk1.cell 3
    have x4 : w1.cell? ⟨w.heap.size, 4, none⟩ = _ := hk1.cell 4
    have x5 : w1.cell? ⟨w.heap.size, 5, none⟩ = _ := hk1.cell 5
    have x6 : w1.cell? ⟨w.heap.size, 6, none⟩ = _ := hk1.cell 6
    have x7 : w1.cell? ⟨w.heap.size, 7, none⟩ = _ := hk1.cell 7
    have x8 : w1.cell? ⟨w.heap.size, 8, none⟩ = _ := hk1.cell 8
    have y0 : w1.cell? ⟨w.heap.size + 1, 0, none⟩ = _ := hk2.cell 0
    have y1 : w1.cell? ⟨w.heap.size + 1, 1, none⟩ = _ := hk2.cell 1
    have y2 : w1.cell? ⟨w.heap.size + 1, 2, none⟩ = _ := hk2.cell 2
    have y3 : w1.cell? ⟨w.heap.size + 1, 3, none⟩ = _ := hk2.cell 3
    have y4 : w1.cell? ⟨w.heap.size + 1, 4, none⟩ = _ := hk2.cell 4
    have y5 : w1.cell? ⟨w.heap.size + 1, 5, none⟩ = _ := hk2.cell 5
    have y6 : w1.cell? ⟨w.heap.size + 1, 6, none⟩ = _ := hk2.cell 6
    have y7 : w1.cell? ⟨w.heap.size + 1, 7, none⟩ = _ := hk2.cell 7
    have y8 : w1.cell? ⟨w.heap.size + 1, 8, none⟩ = _ := hk2.cell 8
    have HB1 := Lib.hid hB1
    have HK1 := Lib.hid hk1
    have HK2 := Lib.hid hk2
    have HE1 := Lib.hid (HE.out.below hb)
    clear hb hk1 hk2 hB1
    go_wp2_with fail
    refine (HL1.out _).mono ?_
    rintro e w2 ⟨rfl, hb2⟩
    have hk1 := HK1.out.next hb2
    have hk2 := HK2.out.next hb2
    have x0 : w2.cell? ⟨w.heap.size, 0, none⟩ = _ := hk1.cell 0
    have x1 : w2.cell? ⟨w.heap.size, 1, none⟩ = _ := hk1.cell 1
    have x2 : w2.cell? ⟨w.heap.size, 2, none⟩ = _ := hk1.cell 2
    have x3 : w2.cell? ⟨w.heap.size, 3, none⟩ = _ := hk1.cell 3
    have x4 : w2.cell? ⟨w.heap.size, 4, none⟩ = _ := hk1.cell 4
    have x5 : w2.cell? ⟨w.heap.size, 5, none⟩ = _ := hk1.cell 5
    have x6 : w2.cell? ⟨w.heap.size, 6, none⟩ = _ := hk1.cell 6
    have x7 : w2.cell? ⟨w.heap.size, 7, none⟩ = _ := hk1.cell 7
    have x8 : w2.cell? ⟨w.heap.size, 8, none⟩ = _ := hk1.cell 8
    have y0 : w2.cell? ⟨w.heap.size + 1, 0, none⟩ = _ := hk2.cell 0
    have y1 : w2.cell? ⟨w.heap.size + 1, 1, none⟩ = _ := hk2.cell 1
    have y2 : w2.cell? ⟨w.heap.size + 1, 2, none⟩ = _ := hk2.cell 2
    have y3 : w2.cell? ⟨w.heap.size + 1, 3, none⟩ = _ := hk2.cell 3
    have y4 : w2.cell? ⟨w.heap.size + 1, 4, none⟩ = _ := hk2.cell 4
    have y5 : w2.cell? ⟨w.heap.size + 1, 5, none⟩ = _ := hk2.cell 5
    have y6 : w2.cell? ⟨w.heap.size + 1, 6, none⟩ = _ := hk2.cell 6
    have y7 : w2.cell? ⟨w.heap.size + 1, 7, none⟩ = _ := hk2.cell 7
    have y8 : w2.cell? ⟨w.heap.size + 1, 8, none⟩ = _ := hk2.cell 8
    have HB2 := Lib.hid (below_next HB1.out hb2)
    have HE2 := Lib.hid (HE1.out.below hb2)
    have HK1 := Lib.hid hk1
    have HK2 := Lib.hid hk2
    clear hk1 hk2 hb2
    go_wp2_with fail
    refine (HL2.out _).mono ?_
    rintro e w3 ⟨rfl, hb3⟩
    have hk1 := HK1.out.next hb3
    have hk2 := HK2.out.next hb3
    have x0 : w3.cell? ⟨w.heap.size, 0, none⟩ = _ := hk1.cell 0
    have x1 : w3.cell? ⟨w.heap.size, 1, none⟩ = _ := hk1.cell 1
    have x2 : w3.cell? ⟨w.heap.size, 2, none⟩ = _ := hk1.cell 2
    have x3 : w3.cell? ⟨w.heap.size, 3, none⟩ = _ := hk1.cell 3
    have x4 : w3.cell? ⟨w.heap.size, 4, none⟩ = _ := hk1.cell 4
    have x5 : w3.cell? ⟨w.heap.size, 5, none⟩ = _ := hk1.cell 5
    have x6 : w3.cell? ⟨w.heap.size, 6, none⟩ = _ := hk1.cell 6
    have x7 : w3.cell? ⟨w.heap.size, 7, none⟩ = _ := hk1.cell 7
    have x8 : w3.cell? ⟨w.heap.size, 8, none⟩ = _ := hk1.cell 8
    have y0 : w3.cell? ⟨w.heap.size + 1, 0, none⟩ = _ := hk2.cell 0
    have y1 : w3.cell? ⟨w.heap.size + 1, 1, none⟩ = _ := hk2.cell 1
    have y2 : w3.cell? ⟨w.heap.size + 1, 2, none⟩ = _ := hk2.cell 2
    have y3 : w3.cell? ⟨w.heap.size + 1, 3, none⟩ = _ := hk2.cell 3
    have y4 : w3.cell? ⟨w.heap.size + 1, 4, none⟩ = _ := hk2.cell 4
    have y5 : w3.cell? ⟨w.heap.size + 1, 5, none⟩ = _ := hk2.cell 5
    have y6 : w3.cell? ⟨w.heap.size + 1, 6, none⟩ = _ := hk2.cell 6
    have y7 : w3.cell? ⟨w.heap.size + 1, 7, none⟩ = _ := hk2.cell 7
    have y8 : w3.cell? ⟨w.heap.size + 1, 8, none⟩ = _ := hk2.cell 8
    have HB3 := Lib.hid (below_next HB2.out hb3)
    have HE3 := Lib.hid (HE2.out.below hb3)
    have HK1 := Lib.hid hk1
    have HK2 := Lib.hid hk2
    clear hk1 hk2 hb3
    go_wp2_with fail
    refine (HY1.out _ HB3.out HE3.out).mono ?_
    rintro e w4 ⟨A4, n4, c4, rfl, hn4, hr4, hb4⟩
    have hk1 := HK1.out.next hb4
    have hk2 := HK2.out.next hb4
    have x0 : w4.cell? ⟨w.heap.size, 0, none⟩ = _ := hk1.cell 0
    have x1 : w4.cell? ⟨w.heap.size, 1, none⟩ = _ := hk1.cell 1
    have x2 : w4.cell? ⟨w.heap.size, 2, none⟩ = _ := hk1.cell 2
    have x3 : w4.cell? ⟨w.heap.size, 3, none⟩ = _ := hk1.cell 3
    have x4 : w4.cell? ⟨w.heap.size, 4, none⟩ = _ := hk1.cell 4
    have x5 : w4.cell? ⟨w.heap.size, 5, none⟩ = _ := hk1.cell 5
    have x6 : w4.cell? ⟨w.heap.size, 6, none⟩ = _ := hk1.cell 6
    have x7 : w4.cell? ⟨w.heap.size, 7, none⟩ = _ := hk1.cell 7
    have x8 : w4.cell? ⟨w.heap.size, 8, none⟩ = _ := hk1.cell 8
    have y0 : w4.cell? ⟨w.heap.size + 1, 0, none⟩ = _ := hk2.cell 0
    have y1 : w4.cell? ⟨w.heap.size + 1, 1, none⟩ = _ := hk2.cell 1
    have y2 : w4.cell? ⟨w.heap.size + 1, 2, none⟩ = _ := hk2.cell 2
    have y3 : w4.cell? ⟨w.heap.size + 1, 3, none⟩ = _ := hk2.cell 3
    have y4 : w4.cell? ⟨w.heap.size + 1, 4, none⟩ = _ := hk2.cell 4
    have y5 : w4.cell? ⟨w.heap.size + 1, 5, none⟩ = _ := hk2.cell 5
    have y6 : w4.cell? ⟨w.heap.size + 1, 6, none⟩ = _ := hk2.cell 6
    have y7 : w4.cell? ⟨w.heap.size + 1, 7, none⟩ = _ := hk2.cell 7
    have y8 : w4.cell? ⟨w.heap.size + 1, 8, none⟩ = _ := hk2.cell 8
    have HB4 := Lib.hid (below_next HB3.out hb4)
    have HE4 := Lib.hid (HE3.out.below hb4)
    have HR4 := Lib.hid hr4
    have HK1 := Lib.hid hk1
    have HK2 := Lib.hid hk2
    clear hk1 hk2 hb4 hr4 hn4
    go_wp2_with fail
    refine (HY2.out _ HB4.out HE4.out).mono ?_
    rintro e w5 ⟨A5, n5, c5, rfl, hn5, hr5, hb5⟩
    obtain rfl : n4 = 0 := by have := HR4.out.len; simp at this; omega
    clear hr5
    have HB5 := Lib.hid (below_next HB4.out hb5)
    clear hb5 hn5
    go_wp2
    go_ret
    exact ⟨rfl, HB5.out⟩
  · rw [q1] at HY1
    rw [q2] at HY2
    rw [q3] at HY1
    rw [q4] at HY2
    clear q1 q2 q3 q4
    clear hE e9
    go_enter Tryd.func6, Tryd.ntmps6
    go_wp2_with fail
    refine HF.out.mono ?_
    rintro e w1 ⟨rfl, hb⟩
    have hk1 := HK1.out.next hb
    have hk2 := HK2.out.next hb
    have hB1 := below_next HB.out hb
    have x0 : w1.cell? ⟨w.heap.size, 0, none⟩ = _ := hk1.cell 0
    have x1 : w1.cell? ⟨w.heap.size, 1, none⟩ = _ := hk1.cell 1
    have x2 : w1.cell? ⟨w.heap.size, 2, none⟩ = _ := hk1.cell 2
    have x3 : w1.cell? ⟨w.heap.size, 3, none⟩ = _ := hk1.cell 3
    have x4 : w1.cell? ⟨w.heap.size, 4, none⟩ = _ := hk1.cell 4
    have x5 : w1.cell? ⟨w.heap.size, 5, none⟩ = _ := hk1.cell 5
    have x6 : w1.cell? ⟨w.heap.size, 6, none⟩ = _ := hk1.cell 6
    have x7 : w1.cell? ⟨w.heap.size, 7, none⟩ = _ := hk1.cell 7
    have x8 : w1.cell? ⟨w.heap.size, 8, none⟩ = _ := hk1.cell 8
    have y0 : w1.cell? ⟨w.heap.size + 1, 0, none⟩ = _ := hk2.cell 0
    have y1 : w1.cell? ⟨w.heap.size + 1, 1, none⟩ = _ := hk2.cell 1
    have y2 : w1.cell? ⟨w.heap.size + 1, 2, none⟩ = _ := hk2.cell 2
    have y3 : w1.cell? ⟨w.heap.size + 1, 3, none⟩ = _ := hk2.cell 3
    have y4 : w1.cell? ⟨w.heap.size + 1, 4, none⟩ = _ := hk2.cell 4
    have y5 : w1.cell? ⟨w.heap.size + 1, 5, none⟩ = _ := hk2.cell 5
    have y6 : w1.cell? ⟨w.heap.size + 1, 6, none⟩ = _ := hk2.cell 6
    have y7 : w1.cell? ⟨w.heap.size + 1, 7, none⟩ = _ := hk2.cell 7
    have y8 : w1.cell? ⟨w.heap.size + 1, 8, none⟩ = _ := hk2.cell 8
    have HB1 := Lib.hid hB1
    have HK1 := Lib.hid hk1
    have HK2 := Lib.hid hk2
    have HE1 := Lib.hid (HE.out.below hb)
    clear hb hk1 hk2 hB1
    go_wp2_with fail
    refine (HL1.out _).mono ?_
    rintro e w2 ⟨rfl, hb2⟩
    have hk1 := HK1.out.next hb2
    have hk2 := HK2.out.next hb2
    have x0 : w2.cell? ⟨w.heap.size, 0, none⟩ = _ := hk1.cell 0
    have x1 : w2.cell? ⟨w.heap.size, 1, none⟩ = _ := hk1.cell 1
    have x2 : w2.cell? ⟨w.heap.size, 2, none⟩ = _ := hk1.cell 2
    have x3 : w2.cell? ⟨w.heap.size, 3, none⟩ = _ := hk1.cell 3
    have x4 : w2.cell? ⟨w.heap.size, 4, none⟩ = _ := hk1.cell 4
    have x5 : w2.cell? ⟨w.heap.size, 5, none⟩ = _ := hk1.cell 5
    have x6 : w2.cell? ⟨w.heap.size, 6, none⟩ = _ := hk1.cell 6
    have x7 : w2.cell? ⟨w.heap.size, 7, none⟩ = _ := hk1.cell 7
    have x8 : w2.cell? ⟨w.heap.size, 8, none⟩ = _ := hk1.cell 8
    have y0 : w2.cell? ⟨w.heap.size + 1, 0, none⟩ = _ := hk2.cell 0
    have y1 : w2.cell? ⟨w.heap.size + 1, 1, none⟩ = _ := hk2.cell 1
    have y2 : w2.cell? ⟨w.heap.size + 1, 2, none⟩ = _ := hk2.cell 2
    have y3 : w2.cell? ⟨w.heap.size + 1, 3, none⟩ = _ := hk2.cell 3
    have y4 : w2.cell? ⟨w.heap.size + 1, 4, none⟩ = _ := hk2.cell 4
    have y5 : w2.cell? ⟨w.heap.size + 1, 5, none⟩ = _ := hk2.cell 5
    have y6 : w2.cell? ⟨w.heap.size + 1, 6, none⟩ = _ := hk2.cell 6
    have y7 : w2.cell? ⟨w.heap.size + 1, 7, none⟩ = _ := hk2.cell 7
    have y8 : w2.cell? ⟨w.heap.size + 1, 8, none⟩ = _ := hk2.cell 8
    have HB2 := Lib.hid (below_next HB1.out hb2)
    have HE2 := Lib.hid (HE1.out.below hb2)
    have HK1 := Lib.hid hk1
    have HK2 := Lib.hid hk2
    clear hk1 hk2 hb2
    go_wp2_with fail
    refine (HL2.out _).mono ?_
    rintro e w3 ⟨rfl, hb3⟩
    have hk1 := HK1.out.next hb3
    have hk2 := HK2.out.next hb3
    have x0 : w3.cell? ⟨w.heap.size, 0, none⟩ = _ := hk1.cell 0
    have x1 : w3.cell? ⟨w.heap.size, 1, none⟩ = _ := hk1.cell 1
    have x2 : w3.cell? ⟨w.heap.size, 2, none⟩ = _ := hk1.cell 2
    have x3 : w3.cell? ⟨w.heap.size, 3, none⟩ = _ := hk1.cell 3
    have x4 : w3.cell? ⟨w.heap.size, 4, none⟩ = _ := hk1.cell 4
    have x5 : w3.cell? ⟨w.heap.size, 5, none⟩ = _ := hk1.cell 5
    have x6 : w3.cell? ⟨w.heap.size, 6, none⟩ = _ := hk1.cell 6
    have x7 : w3.cell? ⟨w.heap.size, 7, none⟩ = _ := hk1.cell 7
    have x8 : w3.cell? ⟨w.heap.size, 8, none⟩ = _ := hk1.cell 8
    have y0 : w3.cell? ⟨w.heap.size + 1, 0, none⟩ = _ := hk2.cell 0
    have y1 : w3.cell? ⟨w.heap.size + 1, 1, none⟩ = _ := hk2.cell 1
    have y2 : w3.cell? ⟨w.heap.size + 1, 2, none⟩ = _ := hk2.cell 2
    have y3 : w3.cell? ⟨w.heap.size + 1, 3, none⟩ = _ := hk2.cell 3
    have y4 : w3.cell? ⟨w.heap.size + 1, 4, none⟩ = _ := hk2.cell 4
    have y5 : w3.cell? ⟨w.heap.size + 1, 5, none⟩ = _ := hk2.cell 5
    have y6 : w3.cell? ⟨w.heap.size + 1, 6, none⟩ = _ := hk2.cell 6
    have y7 : w3.cell? ⟨w.heap.size + 1, 7, none⟩ = _ := hk2.cell 7
    have y8 : w3.cell? ⟨w.heap.size + 1, 8, none⟩ = _ := hk2.cell 8
    have HB3 := Lib.hid (below_next HB2.out hb3)
    have HE3 := Lib.hid (HE2.out.below hb3)
    have HK1 := Lib.hid hk1
    have HK2 := Lib.hid hk2
    clear hk1 hk2 hb3
    go_wp2_with fail
    refine (HY1.out _ HB3.out HE3.out).mono ?_
    rintro e w4 ⟨A4, n4, c4, rfl, hn4, hr4, hb4⟩
    have hk1 := HK1.out.next hb4
    have hk2 := HK2.out.next hb4
    have x0 : w4.cell? ⟨w.heap.size, 0, none⟩ = _ := hk1.cell 0
    have x1 : w4.cell? ⟨w.heap.size, 1, none⟩ = _ := hk1.cell 1
    have x2 : w4.cell? ⟨w.heap.size, 2, none⟩ = _ := hk1.cell 2
    have x3 : w4.cell? ⟨w.heap.size, 3, none⟩ = _ := hk1.cell 3
    have x4 : w4.cell? ⟨w.heap.size, 4, none⟩ = _ := hk1.cell 4
    have x5 : w4.cell? ⟨w.heap.size, 5, none⟩ = _ := hk1.cell 5
    have x6 : w4.cell? ⟨w.heap.size, 6, none⟩ = _ := hk1.cell 6
    have x7 : w4.cell? ⟨w.heap.size, 7, none⟩ = _ := hk1.cell 7
    have x8 : w4.cell? ⟨w.heap.size, 8, none⟩ = _ := hk1.cell 8
    have y0 : w4.cell? ⟨w.heap.size + 1, 0, none⟩ = _ := hk2.cell 0
    have y1 : w4.cell? ⟨w.heap.size + 1, 1, none⟩ = _ := hk2.cell 1
    have y2 : w4.cell? ⟨w.heap.size + 1, 2, none⟩ = _ := hk2.cell 2
    have y3 : w4.cell? ⟨w.heap.size + 1, 3, none⟩ = _ := hk2.cell 3
    have y4 : w4.cell? ⟨w.heap.size + 1, 4, none⟩ = _ := hk2.cell 4
    have y5 : w4.cell? ⟨w.heap.size + 1, 5, none⟩ = _ := hk2.cell 5
    have y6 : w4.cell? ⟨w.heap.size + 1, 6, none⟩ = _ := hk2.cell 6
    have y7 : w4.cell? ⟨w.heap.size + 1, 7, none⟩ = _ := hk2.cell 7
    have y8 : w4.cell? ⟨w.heap.size + 1, 8, none⟩ = _ := hk2.cell 8
    have HB4 := Lib.hid (below_next HB3.out hb4)
    have HE4 := Lib.hid (HE3.out.below hb4)
    have HR4 := Lib.hid hr4
    have HK1 := Lib.hid hk1
    have HK2 := Lib.hid hk2
    clear hk1 hk2 hb4 hr4 hn4
    go_wp2_with fail
    refine (HY2.out _ HB4.out HE4.out).mono ?_
    rintro e w5 ⟨A5, n5, c5, rfl, hn5, hr5, hb5⟩
    obtain rfl : n5 = 0 := by have := hr5.len; simp at this; omega
    obtain rfl : n4 = 0 := by have := HR4.out.len; simp at this; omega
    clear hr5
    have HB5 := Lib.hid (below_next HB4.out hb5)
    clear hb5 hn5
    go_wp2
    go_ret
    exact ⟨rfl, HB5.out⟩
set_option maxHeartbeats 8000000 in
theorem twins_ok (hE : EnvV er w) (wm : wfm m) (wn : wfm n) (hA : AR w A a m.l) (hB : AR w B b n.l) (ha : a ≤ 20) (hb' : b ≤ 20) (cm : mcode m = 0) (cn : mcode n = 0) :
    Calls Tryd.prog 6 #[mv m A a c, mv n B b d] w fun e w' => e = .returned (.bool true) ∧ Below w.heap.size w w' := by
  have HL1 := Lib.hid (fun W => light_any m A a c W)
  have HL2 := Lib.hid (fun W => light_any n B b d W)
  have h1 : decide (a ≤ 20) = true := by simpa using ha
  have h2 : decide (b ≤ 20) = true := by simpa using hb'
  rw [h1] at HL1
  rw [h2] at HL2
  have HY1 := Lib.hid (fun W (hW : Below w.heap.size w W) hEW => wbytes_gen er m A a c W hEW wm (hA.next hW))
  have HY2 := Lib.hid (fun W (hW : Below w.heap.size w W) hEW => wbytes_gen er n B b d W hEW wn (hB.next hW))
  have HB := Lib.hid (two_boxes w (.cells #[.int .i64 m.k, .int .u32 m.f, .int .u32 m.t, .int .u32 m.s, .int .u32 m.g, .int .i64 m.r, .int .i64 m.c, .bool m.o, .slice A a c] 28) (.cells #[.int .i64 n.k, .int .u32 n.f, .int .u32 n.t, .int .u32 n.s, .int .u32 n.g, .int .i64 n.r, .int .i64 n.c, .bool n.o, .slice B b d] 28))
  have HE := Lib.hid (hE.below HB.out)
  have HF := Lib.hid (first_any er _ HE.out)
  have HK1 := Lib.hid ((Blk.new w 28 #[.int .i64 m.k, .int .u32 m.f, .int .u32 m.t, .int .u32 m.s, .int .u32 m.g, .int .i64 m.r, .int .i64 m.c, .bool m.o, .slice A a c]).alloc (.cells #[.int .i64 n.k, .int .u32 n.f, .int .u32 n.t, .int .u32 n.s, .int .u32 n.g, .int .i64 n.r, .int .i64 n.c, .bool n.o, .slice B b d] 28))
  have HK2 := Lib.hid (Blk.new (w.alloc (.cells #[.int .i64 m.k, .int .u32 m.f, .int .u32 m.t, .int .u32 m.s, .int .u32 m.g, .int .i64 m.r, .int .i64 m.c, .bool m.o, .slice A a c] 28)) 28 #[.int .i64 n.k, .int .u32 n.f, .int .u32 n.t, .int .u32 n.s, .int .u32 n.g, .int .i64 n.r, .int .i64 n.c, .bool n.o, .slice B b d])
  have e9 : (w.alloc (.cells #[.int .i64 m.k, .int .u32 m.f, .int .u32 m.t, .int .u32 m.s, .int .u32 m.g, .int .i64 m.r, .int .i64 m.c, .bool m.o, .slice A a c] 28)).heap.size = w.heap.size + 1 := by simp
  rw [e9] at HK2
  have e1 : mbx m = mbs m := if_pos cm
  have e2 : mbx n = mbs n := if_pos cn
  rw [e1, cm, hE.1] at HY1
  rw [e2, cn, hE.1] at HY2
  have hl1 := (mbs_len10 cm).2
  have hl2 := (mbs_len10 cn).2
  have E3 := Lib.hid (twins_eq wm wn cm cn)
  have E1 := Lib.hid (sameB_symm m n)
  have E2 := Lib.hid (sameB_self m)
  have HA := Lib.hid hA
  have HBB := Lib.hid hB
  have HL := Lib.hid hl1
  have HLL := Lib.hid hl2
  have hmn := fun W (hW : Below w.heap.size w W) => wsame_any m n A B a c b d W (hA.next hW) (hB.next hW) (by omega) (by omega)
  have hnm := fun W (hW : Below w.heap.size w W) => wsame_any n m B A b d a c W (hB.next hW) (hA.next hW) (by omega) (by omega)
  have hmm := fun W (hW : Below w.heap.size w W) => wsame_any m m A A a c a c W (hA.next hW) (hA.next hW) (by omega) (by omega)
  rw [E1.out] at hnm
  rw [E2.out] at hmm
  have HMN := Lib.hid hmn
  have HNM := Lib.hid hnm
  have HMM := Lib.hid hmm
  generalize hR : sameB m n = R at *
  generalize mbs m = X at *
  generalize mbs n = Y at *
  unfold mv at *
  clear wm wn hA hB ha hb' h1 h2 hmn hnm hmm e1 e2 cm cn hl1 hl2 hR
  clear hE e9
  go_enter Tryd.func6, Tryd.ntmps6
  go_wp2_with fail
  refine HF.out.mono ?_
  rintro e w1 ⟨rfl, hb⟩
  have hk1 := HK1.out.next hb
  have hk2 := HK2.out.next hb
  have hB1 := below_next HB.out hb
  have x0 : w1.cell? ⟨w.heap.size, 0, none⟩ = _ := hk1.cell 0
  have x1 : w1.cell? ⟨w.heap.size, 1, none⟩ = _ := hk1.cell 1
  have x2 : w1.cell? ⟨w.heap.size, 2, none⟩ = _ := hk1.cell 2
  have x3 : w1.cell? ⟨w.heap.size, 3, none⟩ = _ := hk1.cell 3
  have x4 : w1.cell? ⟨w.heap.size, 4, none⟩ = _ := hk1.cell 4
  have x5 : w1.cell? ⟨w.heap.size, 5, none⟩ = _ := hk1.cell 5
  have x6 : w1.cell? ⟨w.heap.size, 6, none⟩ = _ := hk1.cell 6
  have x7 : w1.cell? ⟨w.heap.size, 7, none⟩ = _ := hk1.cell 7
  have x8 : w1.cell? ⟨w.heap.size, 8, none⟩ = _ := hk1.cell 8
  have y0 : w1.cell? ⟨w.heap.size + 1, 0, none⟩ = _ := hk2.cell 0
  have y1 : w1.cell? ⟨w.heap.size + 1, 1, none⟩ = _ := hk2.cell 1
  have y2 : w1.cell? ⟨w.heap.size + 1, 2, none⟩ = _ := hk2.cell 2
  have y3 : w1.cell? ⟨w.heap.size + 1, 3, none⟩ = _ := hk2.cell 3
  have y4 : w1.cell? ⟨w.heap.size + 1, 4, none⟩ = _ := hk2.cell 4
  have y5 : w1.cell? ⟨w.heap.size + 1, 5, none⟩ = _ := hk2.cell 5
  have y6 : w1.cell? ⟨w.heap.size + 1, 6, none⟩ = _ := hk2.cell 6
  have y7 : w1.cell? ⟨w.heap.size + 1, 7, none⟩ = _ := hk2.cell 7
  have y8 : w1.cell? ⟨w.heap.size + 1, 8, none⟩ = _ := hk2.cell 8
  have HB1 := Lib.hid hB1
  have HK1 := Lib.hid hk1
  have HK2 := Lib.hid hk2
  have HE1 := Lib.hid (HE.out.below hb)
  clear hb hk1 hk2 hB1
  go_wp2_with fail
  refine (HL1.out _).mono ?_
  rintro e w2 ⟨rfl, hb2⟩
  have hk1 := HK1.out.next hb2
  have hk2 := HK2.out.next hb2
  have x0 : w2.cell? ⟨w.heap.size, 0, none⟩ = _ := hk1.cell 0
  have x1 : w2.cell? ⟨w.heap.size, 1, none⟩ = _ := hk1.cell 1
  have x2 : w2.cell? ⟨w.heap.size, 2, none⟩ = _ := hk1.cell 2
  have x3 : w2.cell? ⟨w.heap.size, 3, none⟩ = _ := hk1.cell 3
  have x4 : w2.cell? ⟨w.heap.size, 4, none⟩ = _ := hk1.cell 4
  have x5 : w2.cell? ⟨w.heap.size, 5, none⟩ = _ := hk1.cell 5
  have x6 : w2.cell? ⟨w.heap.size, 6, none⟩ = _ := hk1.cell 6
  have x7 : w2.cell? ⟨w.heap.size, 7, none⟩ = _ := hk1.cell 7
  have x8 : w2.cell? ⟨w.heap.size, 8, none⟩ = _ := hk1.cell 8
  have y0 : w2.cell? ⟨w.heap.size + 1, 0, none⟩ = _ := hk2.cell 0
  have y1 : w2.cell? ⟨w.heap.size + 1, 1, none⟩ = _ := hk2.cell 1
  have y2 : w2.cell? ⟨w.heap.size + 1, 2, none⟩ = _ := hk2.cell 2
  have y3 : w2.cell? ⟨w.heap.size + 1, 3, none⟩ = _ := hk2.cell 3
  have y4 : w2.cell? ⟨w.heap.size + 1, 4, none⟩ = _ := hk2.cell 4
  have y5 : w2.cell? ⟨w.heap.size + 1, 5, none⟩ = _ := hk2.cell 5
  have y6 : w2.cell? ⟨w.heap.size + 1, 6, none⟩ = _ := hk2.cell 6
  have y7 : w2.cell? ⟨w.heap.size + 1, 7, none⟩ = _ := hk2.cell 7
  have y8 : w2.cell? ⟨w.heap.size + 1, 8, none⟩ = _ := hk2.cell 8
  have HB2 := Lib.hid (below_next HB1.out hb2)
  have HE2 := Lib.hid (HE1.out.below hb2)
  have HK1 := Lib.hid hk1
  have HK2 := Lib.hid hk2
  clear hk1 hk2 hb2
  go_wp2_with fail
  refine (HL2.out _).mono ?_
  rintro e w3 ⟨rfl, hb3⟩
  have hk1 := HK1.out.next hb3
  have hk2 := HK2.out.next hb3
  have x0 : w3.cell? ⟨w.heap.size, 0, none⟩ = _ := hk1.cell 0
  have x1 : w3.cell? ⟨w.heap.size, 1, none⟩ = _ := hk1.cell 1
  have x2 : w3.cell? ⟨w.heap.size, 2, none⟩ = _ := hk1.cell 2
  have x3 : w3.cell? ⟨w.heap.size, 3, none⟩ = _ := hk1.cell 3
  have x4 : w3.cell? ⟨w.heap.size, 4, none⟩ = _ := hk1.cell 4
  have x5 : w3.cell? ⟨w.heap.size, 5, none⟩ = _ := hk1.cell 5
  have x6 : w3.cell? ⟨w.heap.size, 6, none⟩ = _ := hk1.cell 6
  have x7 : w3.cell? ⟨w.heap.size, 7, none⟩ = _ := hk1.cell 7
  have x8 : w3.cell? ⟨w.heap.size, 8, none⟩ = _ := hk1.cell 8
  have y0 : w3.cell? ⟨w.heap.size + 1, 0, none⟩ = _ := hk2.cell 0
  have y1 : w3.cell? ⟨w.heap.size + 1, 1, none⟩ = _ := hk2.cell 1
  have y2 : w3.cell? ⟨w.heap.size + 1, 2, none⟩ = _ := hk2.cell 2
  have y3 : w3.cell? ⟨w.heap.size + 1, 3, none⟩ = _ := hk2.cell 3
  have y4 : w3.cell? ⟨w.heap.size + 1, 4, none⟩ = _ := hk2.cell 4
  have y5 : w3.cell? ⟨w.heap.size + 1, 5, none⟩ = _ := hk2.cell 5
  have y6 : w3.cell? ⟨w.heap.size + 1, 6, none⟩ = _ := hk2.cell 6
  have y7 : w3.cell? ⟨w.heap.size + 1, 7, none⟩ = _ := hk2.cell 7
  have y8 : w3.cell? ⟨w.heap.size + 1, 8, none⟩ = _ := hk2.cell 8
  have HB3 := Lib.hid (below_next HB2.out hb3)
  have HE3 := Lib.hid (HE2.out.below hb3)
  have HK1 := Lib.hid hk1
  have HK2 := Lib.hid hk2
  clear hk1 hk2 hb3
  go_wp2_with fail
  refine (HY1.out _ HB3.out HE3.out).mono ?_
  rintro e w4 ⟨A4, n4, c4, rfl, hn4, hr4, hb4⟩
  have hk1 := HK1.out.next hb4
  have hk2 := HK2.out.next hb4
  have x0 : w4.cell? ⟨w.heap.size, 0, none⟩ = _ := hk1.cell 0
  have x1 : w4.cell? ⟨w.heap.size, 1, none⟩ = _ := hk1.cell 1
  have x2 : w4.cell? ⟨w.heap.size, 2, none⟩ = _ := hk1.cell 2
  have x3 : w4.cell? ⟨w.heap.size, 3, none⟩ = _ := hk1.cell 3
  have x4 : w4.cell? ⟨w.heap.size, 4, none⟩ = _ := hk1.cell 4
  have x5 : w4.cell? ⟨w.heap.size, 5, none⟩ = _ := hk1.cell 5
  have x6 : w4.cell? ⟨w.heap.size, 6, none⟩ = _ := hk1.cell 6
  have x7 : w4.cell? ⟨w.heap.size, 7, none⟩ = _ := hk1.cell 7
  have x8 : w4.cell? ⟨w.heap.size, 8, none⟩ = _ := hk1.cell 8
  have y0 : w4.cell? ⟨w.heap.size + 1, 0, none⟩ = _ := hk2.cell 0
  have y1 : w4.cell? ⟨w.heap.size + 1, 1, none⟩ = _ := hk2.cell 1
  have y2 : w4.cell? ⟨w.heap.size + 1, 2, none⟩ = _ := hk2.cell 2
  have y3 : w4.cell? ⟨w.heap.size + 1, 3, none⟩ = _ := hk2.cell 3
  have y4 : w4.cell? ⟨w.heap.size + 1, 4, none⟩ = _ := hk2.cell 4
  have y5 : w4.cell? ⟨w.heap.size + 1, 5, none⟩ = _ := hk2.cell 5
  have y6 : w4.cell? ⟨w.heap.size + 1, 6, none⟩ = _ := hk2.cell 6
  have y7 : w4.cell? ⟨w.heap.size + 1, 7, none⟩ = _ := hk2.cell 7
  have y8 : w4.cell? ⟨w.heap.size + 1, 8, none⟩ = _ := hk2.cell 8
  have HB4 := Lib.hid (below_next HB3.out hb4)
  have HE4 := Lib.hid (HE3.out.below hb4)
  have HR4 := Lib.hid hr4
  have HK1 := Lib.hid hk1
  have HK2 := Lib.hid hk2
  clear hk1 hk2 hb4 hr4 hn4
  go_wp2_with fail
  refine (HY2.out _ HB4.out HE4.out).mono ?_
  rintro e w5 ⟨A5, n5, c5, rfl, hn5, hr5, hb5⟩
  have hk1 := HK1.out.next hb5
  have hk2 := HK2.out.next hb5
  have hB5 := below_next HB4.out hb5
  have x0 := fun W hW => keepc (w' := W) (w := w5) (hk1.cell 0) hW
  have x1 := fun W hW => keepc (w' := W) (w := w5) (hk1.cell 1) hW
  have x2 := fun W hW => keepc (w' := W) (w := w5) (hk1.cell 2) hW
  have x3 := fun W hW => keepc (w' := W) (w := w5) (hk1.cell 3) hW
  have x4 := fun W hW => keepc (w' := W) (w := w5) (hk1.cell 4) hW
  have x5 := fun W hW => keepc (w' := W) (w := w5) (hk1.cell 5) hW
  have x6 := fun W hW => keepc (w' := W) (w := w5) (hk1.cell 6) hW
  have x7 := fun W hW => keepc (w' := W) (w := w5) (hk1.cell 7) hW
  have x8 := fun W hW => keepc (w' := W) (w := w5) (hk1.cell 8) hW
  have y0 := fun W hW => keepc (w' := W) (w := w5) (hk2.cell 0) hW
  have y1 := fun W hW => keepc (w' := W) (w := w5) (hk2.cell 1) hW
  have y2 := fun W hW => keepc (w' := W) (w := w5) (hk2.cell 2) hW
  have y3 := fun W hW => keepc (w' := W) (w := w5) (hk2.cell 3) hW
  have y4 := fun W hW => keepc (w' := W) (w := w5) (hk2.cell 4) hW
  have y5 := fun W hW => keepc (w' := W) (w := w5) (hk2.cell 5) hW
  have y6 := fun W hW => keepc (w' := W) (w := w5) (hk2.cell 6) hW
  have y7 := fun W hW => keepc (w' := W) (w := w5) (hk2.cell 7) hW
  have y8 := fun W hW => keepc (w' := W) (w := w5) (hk2.cell 8) hW
  have HR4 := Lib.hid (HR4.out.next hb5)
  have HR5 := Lib.hid hr5
  have HB5 := Lib.hid hB5
  have hlen4 : n4 ≤ 30 := by have := HR4.out.len; have := HL.out; omega
  have hlen5 : n5 ≤ 30 := by have := HR5.out.len; have := HLL.out; omega
  have HSB := Lib.hid (fun W (hW : Below w5.heap.size w5 W) => same_any A4 A5 n4 n5 c4 c5 X Y W (HR4.out.next hW) (HR5.out.next hW) (by omega) (by omega))
  have HMN := Lib.hid (fun W (hW : Below w5.heap.size w5 W) => HMN.out W (below_next HB5.out hW))
  have HNM := Lib.hid (fun W (hW : Below w5.heap.size w5 W) => HNM.out W (below_next HB5.out hW))
  have HMM := Lib.hid (fun W (hW : Below w5.heap.size w5 W) => HMM.out W (below_next HB5.out hW))
  rw [E3.out] at HSB
  clear hb5 hk1 hk2 hB5 hr5 hn5 hlen4 hlen5
  go_wp2_with fail
  go_region_held3 (fun w' => Below w5.heap.size w5 w')
    (first | with_reducible assumption | exact (Below.refl _ _).drew)
    (first
    | (go_at_call 16; refine (HSB.out _ (by with_reducible assumption)).mono ?_; rintro e wa ⟨rfl, hb⟩; have hba := below_next (by with_reducible assumption) hb)
    | (go_at_call 14; with_reducible refine Calls.mono (HMN.out _ (by with_reducible assumption)) ?_; rintro e wb ⟨rfl, hb⟩; have hbb := below_next (by with_reducible assumption) hb)
    | (go_at_call 14; with_reducible refine Calls.mono (HNM.out _ (by with_reducible assumption)) ?_; rintro e wb ⟨rfl, hb⟩; have hbb := below_next (by with_reducible assumption) hb)
    | (go_at_call 14; with_reducible refine Calls.mono (HMM.out _ (by with_reducible assumption)) ?_; rintro e wb ⟨rfl, hb⟩; have hbb := below_next (by with_reducible assumption) hb))
  go_wp2
  go_ret
  exact ⟨rfl, below_next HB5.out hbb⟩
theorem law_twins (hE : EnvV er w) (wm : wfm m) (wn : wfm n) (hA : AR w A a m.l) (hB : AR w B b n.l) :
    Calls Tryd.prog 6 #[mv m A a c, mv n B b d] w fun e w' => e = .returned (.bool true) ∧ Below w.heap.size w w' := by
  by_cases h : a ≤ 20 ∧ b ≤ 20
  · by_cases hc : mcode m = 0 ∧ mcode n = 0
    · exact twins_ok er m n A B a c b d w hE wm wn hA hB h.1 h.2 hc.1 hc.2
    · exact twins_bad er m n A B a c b d w hE wm wn hA hB h.1 h.2 (by omega)
  · exact twins_heavy er m n A B a c b d w hE (by omega)
end
end Go.Proofs.YtfcfnfofihpegaaDoor
