/- choosePivotOrdered, breakPatternsOrdered at addresses; over the seat's program. -/
import Derived.Test.YtfiiichiflglaaaPa
namespace Go.Proofs.Ytfiiichiflglaaa
open Go.RowKit Sm

/-- what is read of a row -/
structure Rds (w : World) (g n : Nat) (d : Array Int) : Prop where
  lt : g < w.heap.size
  cell : ∀ i, i < n → w.cell? ⟨g, i, none⟩ = some (.int .u32 d[i]!)
theorem Sd.rds {w W : World} {base g n c : Nat} {d : Array Int} (h : Sd w base g n c d W) : Rds W g n d := ⟨(h.s.own.lt g rfl).2, fun _ hi => h.cell hi⟩
theorem Rds.below {w W : World} {g n s : Nat} {d : Array Int} (h : Rds w g n d) (hb : Below s w W) (hg : g < s) : Rds W g n d :=
  ⟨Nat.lt_of_lt_of_le h.lt hb.size, fun i hi => (hb.cell (p := ⟨g, i, none⟩) hg).trans (h.cell i hi)⟩
/-- the count of swaps, in its block -/
def Cn (W : World) (s m : Nat) : Prop := Blk W s 3 #[.int .i64 (m : Int)]
set_option maxHeartbeats 4000000 in
theorem order2_any (g n c : Nat) (d : Array Int) (x y s m : Nat) (w : World) (h : Rds w g n d) (_hn : n ≤ 1000000000) (hx : x < n) (hy : y < n) (_hm : m ≤ 100) (hs : Cn w s m) (_hgs : g < s) :
    Calls Try.prog 64 #[.slice (some ⟨g, 0, none⟩) n c, .int .i64 (x : Int), .int .i64 (y : Int), .pointer (some ⟨s, 0, none⟩)] w fun e w' => ∃ x' y' m' : Nat, e = .returned (.tuple #[.int .i64 (x' : Int), .int .i64 (y' : Int)]) ∧ ((x' = x ∧ y' = y) ∨ (x' = y ∧ y' = x)) ∧ m' ≤ m + 1 ∧ Cn w' s m' ∧ Below s w w' := by
  have i1 : (x : Int) < (n : Int) := by omega
  have i2 : (y : Int) < (n : Int) := by omega
  have HS := Lib.hid hs
  have c0 := Snc.all fun W (hW : Below w.heap.size w W) => (hW.cell (p := ⟨g, x, none⟩) h.lt).trans (h.cell x hx)
  have c1 := Snc.all fun W (hW : Below w.heap.size w W) => (hW.cell (p := ⟨g, y, none⟩) h.lt).trans (h.cell y hy)
  clear h hs
  cases hV : decide (d[y]! < d[x]!) with
  | true =>
    have R0 := lessV (w0 := w) hV
    generalize d[x]! = vx at *
    generalize d[y]! = vy at *
    go_enter Try.func64, Try.ntmps64
    go_upto_region 1 with fail
    refine wp_region_since (by kernel_rfl) (by kernel_rfl) ?_
    repeat (go_big_quiet_step ((go_at_call 53; with_reducible exact R0 _)))
    refine wpQuiet_nil ?_
    rintro w5 ⟨P5, rfl⟩
    have HB5 := Lib.hid P5.b
    have HS5 := Lib.hid (Blk.next HS.out P5.b)
    clear c0 c1 R0 hV
    generalize P5.W = W5 at *
    have z0 : W5.cell? ⟨s, 0, none⟩ = some (.int .i64 (m : Int)) := HS5.out.cell 0
    have zf : W5.frozen? ⟨s, 0, none⟩ = false := HS5.out.frozen 0
    go_wp2
    go_ret2
    have hk : Cn (W5.setCell ⟨s, 0, none⟩ (.int .i64 ((m + 1 : Nat) : Int))) s (m + 1) := by
      have := Blk.set_ HS5.out 0 (.int .i64 ((m + 1 : Nat) : Int))
      exact this
    exact ⟨y, x, m + 1, rfl, .inr ⟨rfl, rfl⟩, Nat.le_refl _, hk, (HB5.out.mono (Nat.le_of_lt HS.out.lt)).setCell (Nat.le_refl _) _⟩
  | false =>
    have R0 := lessV (w0 := w) hV
    generalize d[x]! = vx at *
    generalize d[y]! = vy at *
    go_enter Try.func64, Try.ntmps64
    go_upto_region 1 with fail
    refine wp_region_since (by kernel_rfl) (by kernel_rfl) ?_
    repeat (go_big_quiet_step ((go_at_call 53; with_reducible exact R0 _)))
    refine wpQuiet_nil ?_
    rintro w5 ⟨P5, rfl⟩
    have HB5 := Lib.hid P5.b
    clear c0 c1 R0 hV
    go_wp2
    go_ret2
    exact ⟨x, y, m, rfl, .inl ⟨rfl, rfl⟩, by omega, Blk.next HS.out HB5.out, HB5.out.mono (Nat.le_of_lt HS.out.lt)⟩
set_option maxHeartbeats 4000000 in
theorem median_any (g n c : Nat) (d : Array Int) (x y z lo hi s m : Nat) (w : World) (h : Rds w g n d) (hn : n ≤ 1000000000) (hx : lo ≤ x ∧ x < hi) (hy : lo ≤ y ∧ y < hi) (hz : lo ≤ z ∧ z < hi) (hh : hi ≤ n) (hm : m ≤ 90) (hs : Cn w s m) (hgs : g < s) :
    Calls Try.prog 62 #[.slice (some ⟨g, 0, none⟩) n c, .int .i64 (x : Int), .int .i64 (y : Int), .int .i64 (z : Int), .pointer (some ⟨s, 0, none⟩)] w fun e w' => ∃ q m' : Nat, e = .returned (.int .i64 (q : Int)) ∧ lo ≤ q ∧ q < hi ∧ m' ≤ m + 3 ∧ Cn w' s m' ∧ Below s w w' := by
  have HX := Lib.hid (And.intro hx (And.intro hy (And.intro hz (And.intro hh (And.intro hm hn)))))
  have HG := Lib.hid hgs
  have HR := Lib.hid h
  have H1 := Lib.hid (order2_any g n c d x y s m w h hn (by omega) (by omega) (by omega) hs hgs)
  clear h hs hgs hx hy hz hh hm hn
  go_enter Try.func62, Try.ntmps62
  go_upto_region 2 with (go_at_call 64; (with_reducible refine H1.out.mono ?_); rintro e w1 ⟨x1, y1, m1, rfl, hc1, hm1, hs1, hb1⟩)
  have G1 : Hid ((lo ≤ x1 ∧ x1 < hi) ∧ (lo ≤ y1 ∧ y1 < hi)) := Lib.hid (by have := HX.out; rcases hc1 with ⟨rfl, rfl⟩ | ⟨rfl, rfl⟩ <;> exact ⟨by omega, by omega⟩)
  have HR1 := Lib.hid (HR.out.below hb1 HG.out)
  have H2 := Lib.hid (order2_any g n c d y1 z s m1 w1 HR1.out HX.out.2.2.2.2.2 (by have := HX.out; have := G1.out; omega) (by have := HX.out; omega) (by have := HX.out; omega) hs1 HG.out)
  have HM1 := Lib.hid hm1
  have HB1 := Lib.hid hb1
  clear hc1 hm1 hs1 hb1
  go_upto_region 3 with (go_at_call 64; (with_reducible refine H2.out.mono ?_); rintro e w2 ⟨y2, z2, m2, rfl, hc2, hm2, hs2, hb2⟩)
  have G2 : Hid (lo ≤ y2 ∧ y2 < hi) := Lib.hid (by have := HX.out; have := G1.out; rcases hc2 with ⟨rfl, rfl⟩ | ⟨rfl, rfl⟩ <;> omega)
  have HM2 := Lib.hid hm2
  have HB2 := Lib.hid (HB1.out.trans hb2)
  have HR2 := Lib.hid (HR1.out.below hb2 HG.out)
  have H3 := Lib.hid (order2_any g n c d x1 y2 s m2 w2 HR2.out HX.out.2.2.2.2.2 (by have := HX.out; have := G1.out; omega) (by have := HX.out; have := G2.out; omega) (by have := HX.out; have := HM1.out; have := HM2.out; omega) hs2 HG.out)
  clear hc2 hm2 hs2 hb2
  go_wp2_with (go_at_call 64; (with_reducible refine H3.out.mono ?_); rintro e w3 ⟨x3, y3, m3, rfl, hc3, hm3, hs3, hb3⟩)
  go_ret
  have g3 : lo ≤ y3 ∧ y3 < hi := by have := G1.out; have := G2.out; rcases hc3 with ⟨rfl, rfl⟩ | ⟨rfl, rfl⟩ <;> omega
  exact ⟨y3, m3, rfl, g3.1, g3.2, by have := HM1.out; have := HM2.out; omega, hs3, HB2.out.trans hb3⟩
theorem adjacent_any (g n c : Nat) (d : Array Int) (x lo hi s m : Nat) (w : World) (h : Rds w g n d) (hn : n ≤ 1000000000) (hx : lo < x ∧ x + 1 < hi) (hh : hi ≤ n) (hm : m ≤ 90) (hs : Cn w s m) (hgs : g < s) :
    Calls Try.prog 61 #[.slice (some ⟨g, 0, none⟩) n c, .int .i64 (x : Int), .pointer (some ⟨s, 0, none⟩)] w fun e w' => ∃ q m' : Nat, e = .returned (.int .i64 (q : Int)) ∧ lo ≤ q ∧ q < hi ∧ m' ≤ m + 3 ∧ Cn w' s m' ∧ Below s w w' := by
  have H := Lib.hid (median_any g n c d (x - 1) x (x + 1) lo hi s m w h hn (by omega) (by omega) (by omega) hh hm hs hgs)
  rw [show ((x - 1 : Nat) : Int) = (x : Int) - 1 by omega, show ((x + 1 : Nat) : Int) = (x : Int) + 1 by omega] at H
  have x1 : (0 : Int) < (x : Int) := by omega
  have x2 : (x : Int) < 1000000000 := by omega
  clear h hs
  go_enter Try.func61, Try.ntmps61
  go_wp2_with (go_at_call 62; (with_reducible refine H.out.mono ?_); rintro e w3 ⟨q, m', rfl, h1, h2, h3, h4, h5⟩)
  go_ret
  exact ⟨q, m', rfl, h1, h2, h3, h4, h5⟩
/-- a place of the part, and a hint -/
structure VPost (a b : Nat) (w : World) (e : Ending) (w' : World) : Prop where
  h : ∃ q k : Nat, e = .returned (.tuple #[.int .i64 (q : Int), .int .i64 (k : Int)]) ∧ a ≤ q ∧ q < b ∧ k ≤ 2
  b : Below w.heap.size w w'
set_option maxHeartbeats 4000000 in
theorem ppivot_any (base g n c a b : Nat) (d : Array Int) (w0 w : World) (h : Sd w0 base g n c d w) (hn : n ≤ 1000000000) (hbn : b ≤ n) (hl : a + 12 < b) :
    Calls Try.prog 50 #[.slice (some ⟨g, 0, none⟩) n c, .int .i64 (a : Int), .int .i64 (b : Int)] w (VPost a b w) := by
  have hR := h.rds
  have HG := Lib.hid hR.lt
  have hb0 := (Below.refl w.heap.size w).alloc (Nat.le_refl _) (.cells #[.int .i64 0] 3)
  have HC0 : Hid (Cn (w.alloc (.cells #[.int .i64 0] 3)) w.heap.size 0) := Lib.hid (Blk.new w _ _)
  have HR := Lib.hid (hR.below hb0 hR.lt)
  have HB0 := Lib.hid hb0
  clear h hb0 hR
  go_enter Try.func50, Try.ntmps50
  go_upto_region 3 with fail
  obtain ⟨l, hl'⟩ : ∃ l : Nat, l = b - a := ⟨_, rfl⟩
  rw [show (b : Int) - (a : Int) = (l : Int) by omega]
  have h12 : (12 : Int) < (l : Int) := by omega
  have hln : (l : Int) ≤ 1000000000 := by omega
  have HL := Lib.hid hl'
  clear hl'
  go_upto_region 6 with fail
  obtain ⟨i1, hi1⟩ : ∃ q : Nat, q = a + l / 4 := ⟨_, rfl⟩
  obtain ⟨j1, hj1⟩ : ∃ q : Nat, q = a + l / 4 * 2 := ⟨_, rfl⟩
  obtain ⟨k1, hk1⟩ : ∃ q : Nat, q = a + l / 4 * 3 := ⟨_, rfl⟩
  rw [show (a : Int) + (l : Int) / 4 * 2 = (j1 : Int) by omega, show (a : Int) + (l : Int) / 4 * 3 = (k1 : Int) by omega, show (a : Int) + (l : Int) / 4 = (i1 : Int) by omega]
  have HQ : Hid ((a < i1 ∨ l < 50) ∧ a ≤ i1 ∧ i1 + 1 < b ∧ a < j1 ∧ j1 + 1 < b ∧ a < k1 ∧ (k1 + 1 < b) ∧ a < i1) := Lib.hid (by have := HL.out; omega)
  clear hi1 hj1 hk1
  rcases Nat.lt_or_ge l 50 with hs | hs
  · have r1 : ¬ (50 : Int) ≤ (l : Int) := by omega
    have HM := Lib.hid (median_any g n c d i1 j1 k1 a b w.heap.size 0 (w.alloc (.cells #[.int .i64 0] 3)) HR.out hn (by have := HQ.out; omega) (by have := HQ.out; omega) (by have := HQ.out; omega) hbn (by omega) HC0.out HG.out)
    go_upto_region 12 with (go_at_call 62; (with_reducible refine HM.out.mono ?_); rintro e w1 ⟨q, m, rfl, hq1, hq3, hm, hs1, hb1⟩)
    have z0 : w1.cell? ⟨w.heap.size, 0, none⟩ = some (.int .i64 (m : Int)) := Blk.cell hs1 0
    have HQQ := Lib.hid (And.intro hq1 hq3)
    have HBB := Lib.hid (HB0.out.trans hb1)
    clear hs1 hb1 hq1 hq3 hm
    cases hm0 : ((m : Int) == 0) with
    | true =>
      go_wp2
      go_ret2
      exact ⟨⟨q, 1, rfl, HQQ.out.1, HQQ.out.2, by omega⟩, HBB.out⟩
    | false =>
      cases hm12 : ((m : Int) == 12) with
      | true =>
        go_wp2
        go_ret2
        exact ⟨⟨q, 2, rfl, HQQ.out.1, HQQ.out.2, by omega⟩, HBB.out⟩
      | false =>
        go_wp2
        go_ret2
        exact ⟨⟨q, 0, rfl, HQQ.out.1, HQQ.out.2, by omega⟩, HBB.out⟩
  · have r1 : (50 : Int) ≤ (l : Int) := by omega
    have HM := Lib.hid (adjacent_any g n c d i1 a b w.heap.size 0 (w.alloc (.cells #[.int .i64 0] 3)) HR.out hn (by have := HQ.out; omega) hbn (by omega) HC0.out HG.out)
    go_upto_region 9 with (go_at_call 61; (with_reducible refine HM.out.mono ?_); rintro e w1 ⟨q1, m1, rfl, hq1, hq3, hm, hs1, hb1⟩)
    have HQ1 := Lib.hid (And.intro hq1 (And.intro hq3 hm))
    have HB1 := Lib.hid (HB0.out.trans hb1)
    have HR1 := Lib.hid (HR.out.below hb1 HG.out)
    have HM1 := Lib.hid (adjacent_any g n c d j1 a b w.heap.size m1 w1 HR1.out hn (by have := HQ.out; omega) hbn (by omega) hs1 HG.out)
    clear hq1 hq3 hm hs1 hb1 HB0 HR HM HC0
    go_upto_region 10 with (go_at_call 61; (with_reducible refine HM1.out.mono ?_); rintro e w2 ⟨q2, m2, rfl, hq1, hq3, hm, hs1, hb1⟩)
    have HQ2 := Lib.hid (And.intro hq1 (And.intro hq3 hm))
    have HB2 := Lib.hid (HB1.out.trans hb1)
    have HR2 := Lib.hid (HR1.out.below hb1 HG.out)
    have HM2 := Lib.hid (adjacent_any g n c d k1 a b w.heap.size m2 w2 HR2.out hn (by have := HQ.out; omega) hbn (by have := HQ1.out; have := HQ2.out; omega) hs1 HG.out)
    clear hq1 hq3 hm hs1 hb1 HB1 HR1 HM1
    go_upto_region 11 with (go_at_call 61; (with_reducible refine HM2.out.mono ?_); rintro e w3 ⟨q3, m3, rfl, hq1, hq3, hm, hs1, hb1⟩)
    have HQ3 := Lib.hid (And.intro hq1 (And.intro hq3 hm))
    have HB0 := Lib.hid (HB2.out.trans hb1)
    have HR3 := Lib.hid (HR2.out.below hb1 HG.out)
    have HM3 := Lib.hid (median_any g n c d q1 q2 q3 a b w.heap.size m3 w3 HR3.out hn (by have := HQ1.out; omega) (by have := HQ2.out; omega) (by have := HQ3.out; omega) hbn (by have := HQ1.out; have := HQ2.out; have := HQ3.out; omega) hs1 HG.out)
    clear hq1 hq3 hm hs1 hb1 HB2 HR2 HM2
    go_upto_region 12 with (go_at_call 62; (with_reducible refine HM3.out.mono ?_); rintro e w1 ⟨q, m, rfl, hq1, hq3, hm, hs1, hb1⟩)
    have z0 : w1.cell? ⟨w.heap.size, 0, none⟩ = some (.int .i64 (m : Int)) := Blk.cell hs1 0
    have HQQ := Lib.hid (And.intro hq1 hq3)
    have HBB := Lib.hid (HB0.out.trans hb1)
    clear hs1 hb1 hq1 hq3 hm
    cases hm0 : ((m : Int) == 0) with
    | true =>
      go_wp2
      go_ret2
      exact ⟨⟨q, 1, rfl, HQQ.out.1, HQQ.out.2, by omega⟩, HBB.out⟩
    | false =>
      cases hm12 : ((m : Int) == 12) with
      | true =>
        go_wp2
        go_ret2
        exact ⟨⟨q, 2, rfl, HQQ.out.1, HQQ.out.2, by omega⟩, HBB.out⟩
      | false =>
        go_wp2
        go_ret2
        exact ⟨⟨q, 0, rfl, HQQ.out.1, HQQ.out.2, by omega⟩, HBB.out⟩
end Go.Proofs.Ytfiiichiflglaaa

