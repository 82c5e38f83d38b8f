/- choosePivotOrdered, breakPatternsOrdered at addresses; over the seat's program. breakPatternsOrdered at addresses; over the seat's program. -/
import Derived.Test.YtdljpokhcfhhfaaGreatDoorPa
import Derived.Test.YtdljpokhcfhhfaaGreatDoorShelf
import Derived.Laws.Bits64b
import Derived.Laws.Closers25b
import Derived.Sort.LotD1
namespace Go.Proofs.YtdljpokhcfhhfaaGreatDoor
open Go.RowKit Sm

/-- what is read of a row -/
structure Rds (w : World) (g n : Nat) (d : Array Int) : Prop where
  lt : g < w.heap.size
  cell : ∀ i, i < n → w.cell? ⟨g, i, none⟩ = some (.int .u32 d[i]!)
theorem Sd.rds {w W : World} {base g n c : Nat} {d : Array Int} (h : Sd w base g n c d W) : Rds W g n d := ⟨(h.s.own.lt g rfl).2, fun _ hi => h.cell hi⟩
theorem Rds.below {w W : World} {g n s : Nat} {d : Array Int} (h : Rds w g n d) (hb : Below s w W) (hg : g < s) : Rds W g n d :=
  ⟨Nat.lt_of_lt_of_le h.lt hb.size, fun i hi => (hb.cell (p := ⟨g, i, none⟩) hg).trans (h.cell i hi)⟩
/-- the count of swaps, in its block -/
def Cn (W : World) (s m : Nat) : Prop := Blk W s 3 #[.int .i64 (m : Int)]
set_option maxHeartbeats 4000000 in
theorem order2_any (g n c : Nat) (d : Array Int) (x y s m : Nat) (w : World) (h : Rds w g n d) (_hn : n ≤ 1000000000) (hx : x < n) (hy : y < n) (_hm : m ≤ 100) (hs : Cn w s m) (_hgs : g < s) :
    Calls Tryz.prog 267 #[.slice (some ⟨g, 0, none⟩) n c, .int .i64 (x : Int), .int .i64 (y : Int), .pointer (some ⟨s, 0, none⟩)] w fun e w' => ∃ x' y' m' : Nat, e = .returned (.tuple #[.int .i64 (x' : Int), .int .i64 (y' : Int)]) ∧ ((x' = x ∧ y' = y) ∨ (x' = y ∧ y' = x)) ∧ m' ≤ m + 1 ∧ Cn w' s m' ∧ Below s w w' := by
  have i1 : (x : Int) < (n : Int) := by omega
  have i2 : (y : Int) < (n : Int) := by omega
  have HS := Lib.hid hs
  have c0 := Snc.all fun W (hW : Below w.heap.size w W) => (hW.cell (p := ⟨g, x, none⟩) h.lt).trans (h.cell x hx)
  have c1 := Snc.all fun W (hW : Below w.heap.size w W) => (hW.cell (p := ⟨g, y, none⟩) h.lt).trans (h.cell y hy)
  clear h hs
  cases hV : decide (d[y]! < d[x]!) with
  | true =>
    have R0 := lessV (w0 := w) hV
    generalize d[x]! = vx at *
    generalize d[y]! = vy at *
    go_enter Tryz.func267, Tryz.ntmps267
    go_upto_region 1 with fail
    refine wp_region_since (by kernel_rfl) (by kernel_rfl) ?_
    repeat (go_big_quiet_step ((go_at_call 232; with_reducible exact R0 _)))
    refine wpQuiet_nil ?_
    rintro w5 ⟨P5, rfl⟩
    have HB5 := Lib.hid P5.b
    have HS5 := Lib.hid (Blk.next HS.out P5.b)
    clear c0 c1 R0 hV
    generalize P5.W = W5 at *
    have z0 : W5.cell? ⟨s, 0, none⟩ = some (.int .i64 (m : Int)) := HS5.out.cell 0
    have zf : W5.frozen? ⟨s, 0, none⟩ = false := HS5.out.frozen 0
    go_wp2
    go_ret2
    have hk : Cn (W5.setCell ⟨s, 0, none⟩ (.int .i64 ((m + 1 : Nat) : Int))) s (m + 1) := by
      have := Blk.set_ HS5.out 0 (.int .i64 ((m + 1 : Nat) : Int))
      exact this
    exact ⟨y, x, m + 1, rfl, .inr ⟨rfl, rfl⟩, Nat.le_refl _, hk, (HB5.out.mono (Nat.le_of_lt HS.out.lt)).setCell (Nat.le_refl _) _⟩
  | false =>
    have R0 := lessV (w0 := w) hV
    generalize d[x]! = vx at *
    generalize d[y]! = vy at *
    go_enter Tryz.func267, Tryz.ntmps267
    go_upto_region 1 with fail
    refine wp_region_since (by kernel_rfl) (by kernel_rfl) ?_
    repeat (go_big_quiet_step ((go_at_call 232; with_reducible exact R0 _)))
    refine wpQuiet_nil ?_
    rintro w5 ⟨P5, rfl⟩
    have HB5 := Lib.hid P5.b
    clear c0 c1 R0 hV
    go_wp2
    go_ret2
    exact ⟨x, y, m, rfl, .inl ⟨rfl, rfl⟩, by omega, Blk.next HS.out HB5.out, HB5.out.mono (Nat.le_of_lt HS.out.lt)⟩
set_option maxHeartbeats 4000000 in
theorem median_any (g n c : Nat) (d : Array Int) (x y z lo hi s m : Nat) (w : World) (h : Rds w g n d) (hn : n ≤ 1000000000) (hx : lo ≤ x ∧ x < hi) (hy : lo ≤ y ∧ y < hi) (hz : lo ≤ z ∧ z < hi) (hh : hi ≤ n) (hm : m ≤ 90) (hs : Cn w s m) (hgs : g < s) :
    Calls Tryz.prog 259 #[.slice (some ⟨g, 0, none⟩) n c, .int .i64 (x : Int), .int .i64 (y : Int), .int .i64 (z : Int), .pointer (some ⟨s, 0, none⟩)] w fun e w' => ∃ q m' : Nat, e = .returned (.int .i64 (q : Int)) ∧ lo ≤ q ∧ q < hi ∧ m' ≤ m + 3 ∧ Cn w' s m' ∧ Below s w w' := by
  have HX := Lib.hid (And.intro hx (And.intro hy (And.intro hz (And.intro hh (And.intro hm hn)))))
  have HG := Lib.hid hgs
  have HR := Lib.hid h
  have H1 := Lib.hid (order2_any g n c d x y s m w h hn (by omega) (by omega) (by omega) hs hgs)
  clear h hs hgs hx hy hz hh hm hn
  go_enter Tryz.func259, Tryz.ntmps259
  go_upto_region 2 with (go_at_call 267; (with_reducible refine H1.out.mono ?_); rintro e w1 ⟨x1, y1, m1, rfl, hc1, hm1, hs1, hb1⟩)
  have G1 : Hid ((lo ≤ x1 ∧ x1 < hi) ∧ (lo ≤ y1 ∧ y1 < hi)) := Lib.hid (by have := HX.out; rcases hc1 with ⟨rfl, rfl⟩ | ⟨rfl, rfl⟩ <;> exact ⟨by omega, by omega⟩)
  have HR1 := Lib.hid (HR.out.below hb1 HG.out)
  have H2 := Lib.hid (order2_any g n c d y1 z s m1 w1 HR1.out HX.out.2.2.2.2.2 (by have := HX.out; have := G1.out; omega) (by have := HX.out; omega) (by have := HX.out; omega) hs1 HG.out)
  have HM1 := Lib.hid hm1
  have HB1 := Lib.hid hb1
  clear hc1 hm1 hs1 hb1
  go_upto_region 3 with (go_at_call 267; (with_reducible refine H2.out.mono ?_); rintro e w2 ⟨y2, z2, m2, rfl, hc2, hm2, hs2, hb2⟩)
  have G2 : Hid (lo ≤ y2 ∧ y2 < hi) := Lib.hid (by have := HX.out; have := G1.out; rcases hc2 with ⟨rfl, rfl⟩ | ⟨rfl, rfl⟩ <;> omega)
  have HM2 := Lib.hid hm2
  have HB2 := Lib.hid (HB1.out.trans hb2)
  have HR2 := Lib.hid (HR1.out.below hb2 HG.out)
  have H3 := Lib.hid (order2_any g n c d x1 y2 s m2 w2 HR2.out HX.out.2.2.2.2.2 (by have := HX.out; have := G1.out; omega) (by have := HX.out; have := G2.out; omega) (by have := HX.out; have := HM1.out; have := HM2.out; omega) hs2 HG.out)
  clear hc2 hm2 hs2 hb2
  go_wp2_with (go_at_call 267; (with_reducible refine H3.out.mono ?_); rintro e w3 ⟨x3, y3, m3, rfl, hc3, hm3, hs3, hb3⟩)
  go_ret
  have g3 : lo ≤ y3 ∧ y3 < hi := by have := G1.out; have := G2.out; rcases hc3 with ⟨rfl, rfl⟩ | ⟨rfl, rfl⟩ <;> omega
  exact ⟨y3, m3, rfl, g3.1, g3.2, by have := HM1.out; have := HM2.out; omega, hs3, HB2.out.trans hb3⟩
theorem adjacent_any (g n c : Nat) (d : Array Int) (x lo hi s m : Nat) (w : World) (h : Rds w g n d) (hn : n ≤ 1000000000) (hx : lo < x ∧ x + 1 < hi) (hh : hi ≤ n) (hm : m ≤ 90) (hs : Cn w s m) (hgs : g < s) :
    Calls Tryz.prog 258 #[.slice (some ⟨g, 0, none⟩) n c, .int .i64 (x : Int), .pointer (some ⟨s, 0, none⟩)] w fun e w' => ∃ q m' : Nat, e = .returned (.int .i64 (q : Int)) ∧ lo ≤ q ∧ q < hi ∧ m' ≤ m + 3 ∧ Cn w' s m' ∧ Below s w w' := by
  have H := Lib.hid (median_any g n c d (x - 1) x (x + 1) lo hi s m w h hn (by omega) (by omega) (by omega) hh hm hs hgs)
  rw [show ((x - 1 : Nat) : Int) = (x : Int) - 1 by omega, show ((x + 1 : Nat) : Int) = (x : Int) + 1 by omega] at H
  have x1 : (0 : Int) < (x : Int) := by omega
  have x2 : (x : Int) < 1000000000 := by omega
  clear h hs
  go_enter Tryz.func258, Tryz.ntmps258
  go_wp2_with (go_at_call 259; (with_reducible refine H.out.mono ?_); rintro e w3 ⟨q, m', rfl, h1, h2, h3, h4, h5⟩)
  go_ret
  exact ⟨q, m', rfl, h1, h2, h3, h4, h5⟩
/-- a place of the part, and a hint -/
structure VPost (a b : Nat) (w : World) (e : Ending) (w' : World) : Prop where
  h : ∃ q k : Nat, e = .returned (.tuple #[.int .i64 (q : Int), .int .i64 (k : Int)]) ∧ a ≤ q ∧ q < b ∧ k ≤ 2
  b : Below w.heap.size w w'
set_option maxHeartbeats 4000000 in
theorem ppivot_any (base g n c a b : Nat) (d : Array Int) (w0 w : World) (h : Sd w0 base g n c d w) (hn : n ≤ 1000000000) (hbn : b ≤ n) (hl : a + 12 < b) :
    Calls Tryz.prog 229 #[.slice (some ⟨g, 0, none⟩) n c, .int .i64 (a : Int), .int .i64 (b : Int)] w (VPost a b w) := by
  have hR := h.rds
  have HG := Lib.hid hR.lt
  have hb0 := (Below.refl w.heap.size w).alloc (Nat.le_refl _) (.cells #[.int .i64 0] 3)
  have HC0 : Hid (Cn (w.alloc (.cells #[.int .i64 0] 3)) w.heap.size 0) := Lib.hid (Blk.new w _ _)
  have HR := Lib.hid (hR.below hb0 hR.lt)
  have HB0 := Lib.hid hb0
  clear h hb0 hR
  go_enter Tryz.func229, Tryz.ntmps229
  go_upto_region 3 with fail
  obtain ⟨l, hl'⟩ : ∃ l : Nat, l = b - a := ⟨_, rfl⟩
  rw [show (b : Int) - (a : Int) = (l : Int) by omega]
  have h12 : (12 : Int) < (l : Int) := by omega
  have hln : (l : Int) ≤ 1000000000 := by omega
  have HL := Lib.hid hl'
  clear hl'
  go_upto_region 6 with fail
  obtain ⟨i1, hi1⟩ : ∃ q : Nat, q = a + l / 4 := ⟨_, rfl⟩
  obtain ⟨j1, hj1⟩ : ∃ q : Nat, q = a + l / 4 * 2 := ⟨_, rfl⟩
  obtain ⟨k1, hk1⟩ : ∃ q : Nat, q = a + l / 4 * 3 := ⟨_, rfl⟩
  rw [show (a : Int) + (l : Int) / 4 * 2 = (j1 : Int) by omega, show (a : Int) + (l : Int) / 4 * 3 = (k1 : Int) by omega, show (a : Int) + (l : Int) / 4 = (i1 : Int) by omega]
  have HQ : Hid ((a < i1 ∨ l < 50) ∧ a ≤ i1 ∧ i1 + 1 < b ∧ a < j1 ∧ j1 + 1 < b ∧ a < k1 ∧ (k1 + 1 < b) ∧ a < i1) := Lib.hid (by have := HL.out; omega)
  clear hi1 hj1 hk1
  rcases Nat.lt_or_ge l 50 with hs | hs
  · have r1 : ¬ (50 : Int) ≤ (l : Int) := by omega
    have HM := Lib.hid (median_any g n c d i1 j1 k1 a b w.heap.size 0 (w.alloc (.cells #[.int .i64 0] 3)) HR.out hn (by have := HQ.out; omega) (by have := HQ.out; omega) (by have := HQ.out; omega) hbn (by omega) HC0.out HG.out)
    go_upto_region 12 with (go_at_call 259; (with_reducible refine HM.out.mono ?_); rintro e w1 ⟨q, m, rfl, hq1, hq3, hm, hs1, hb1⟩)
    have z0 : w1.cell? ⟨w.heap.size, 0, none⟩ = some (.int .i64 (m : Int)) := Blk.cell hs1 0
    have HQQ := Lib.hid (And.intro hq1 hq3)
    have HBB := Lib.hid (HB0.out.trans hb1)
    clear hs1 hb1 hq1 hq3 hm
    cases hm0 : ((m : Int) == 0) with
    | true =>
      go_wp2
      go_ret2
      exact ⟨⟨q, 1, rfl, HQQ.out.1, HQQ.out.2, by omega⟩, HBB.out⟩
    | false =>
      cases hm12 : ((m : Int) == 12) with
      | true =>
        go_wp2
        go_ret2
        exact ⟨⟨q, 2, rfl, HQQ.out.1, HQQ.out.2, by omega⟩, HBB.out⟩
      | false =>
        go_wp2
        go_ret2
        exact ⟨⟨q, 0, rfl, HQQ.out.1, HQQ.out.2, by omega⟩, HBB.out⟩
  · have r1 : (50 : Int) ≤ (l : Int) := by omega
    have HM := Lib.hid (adjacent_any g n c d i1 a b w.heap.size 0 (w.alloc (.cells #[.int .i64 0] 3)) HR.out hn (by have := HQ.out; omega) hbn (by omega) HC0.out HG.out)
    go_upto_region 9 with (go_at_call 258; (with_reducible refine HM.out.mono ?_); rintro e w1 ⟨q1, m1, rfl, hq1, hq3, hm, hs1, hb1⟩)
    have HQ1 := Lib.hid (And.intro hq1 (And.intro hq3 hm))
    have HB1 := Lib.hid (HB0.out.trans hb1)
    have HR1 := Lib.hid (HR.out.below hb1 HG.out)
    have HM1 := Lib.hid (adjacent_any g n c d j1 a b w.heap.size m1 w1 HR1.out hn (by have := HQ.out; omega) hbn (by omega) hs1 HG.out)
    clear hq1 hq3 hm hs1 hb1 HB0 HR HM HC0
    go_upto_region 10 with (go_at_call 258; (with_reducible refine HM1.out.mono ?_); rintro e w2 ⟨q2, m2, rfl, hq1, hq3, hm, hs1, hb1⟩)
    have HQ2 := Lib.hid (And.intro hq1 (And.intro hq3 hm))
    have HB2 := Lib.hid (HB1.out.trans hb1)
    have HR2 := Lib.hid (HR1.out.below hb1 HG.out)
    have HM2 := Lib.hid (adjacent_any g n c d k1 a b w.heap.size m2 w2 HR2.out hn (by have := HQ.out; omega) hbn (by have := HQ1.out; have := HQ2.out; omega) hs1 HG.out)
    clear hq1 hq3 hm hs1 hb1 HB1 HR1 HM1
    go_upto_region 11 with (go_at_call 258; (with_reducible refine HM2.out.mono ?_); rintro e w3 ⟨q3, m3, rfl, hq1, hq3, hm, hs1, hb1⟩)
    have HQ3 := Lib.hid (And.intro hq1 (And.intro hq3 hm))
    have HB0 := Lib.hid (HB2.out.trans hb1)
    have HR3 := Lib.hid (HR2.out.below hb1 HG.out)
    have HM3 := Lib.hid (median_any g n c d q1 q2 q3 a b w.heap.size m3 w3 HR3.out hn (by have := HQ1.out; omega) (by have := HQ2.out; omega) (by have := HQ3.out; omega) hbn (by have := HQ1.out; have := HQ2.out; have := HQ3.out; omega) hs1 HG.out)
    clear hq1 hq3 hm hs1 hb1 HB2 HR2 HM2
    go_upto_region 12 with (go_at_call 259; (with_reducible refine HM3.out.mono ?_); rintro e w1 ⟨q, m, rfl, hq1, hq3, hm, hs1, hb1⟩)
    have z0 : w1.cell? ⟨w.heap.size, 0, none⟩ = some (.int .i64 (m : Int)) := Blk.cell hs1 0
    have HQQ := Lib.hid (And.intro hq1 hq3)
    have HBB := Lib.hid (HB0.out.trans hb1)
    clear hs1 hb1 hq1 hq3 hm
    cases hm0 : ((m : Int) == 0) with
    | true =>
      go_wp2
      go_ret2
      exact ⟨⟨q, 1, rfl, HQQ.out.1, HQQ.out.2, by omega⟩, HBB.out⟩
    | false =>
      cases hm12 : ((m : Int) == 12) with
      | true =>
        go_wp2
        go_ret2
        exact ⟨⟨q, 2, rfl, HQQ.out.1, HQQ.out.2, by omega⟩, HBB.out⟩
      | false =>
        go_wp2
        go_ret2
        exact ⟨⟨q, 0, rfl, HQQ.out.1, HQQ.out.2, by omega⟩, HBB.out⟩
end Go.Proofs.YtdljpokhcfhhfaaGreatDoor
namespace Go.Proofs.YtdljpokhcfhhfaaGreatDoor
open Go.RowKit Sm

def Xr (W : World) (s : Nat) (x : Int) : Prop := Blk W s 304 #[.int .u64 x]
/-- a number beside a world -/
structure XPost (s : Nat) (w : World) (e : Ending) (w' : World) : Prop where
  h : ∃ v : Nat, e = .returned (.int .u64 (v : Int)) ∧ v < 18446744073709551616 ∧ Xr w' s v
  b : w.grownBy w' (some s)
theorem grown_same (w : World) (s : Nat) : w.grownBy w (some s) := ⟨rfl, rfl, rfl, Nat.le_refl _, fun _ _ _ => rfl⟩
theorem grown_set {w W : World} {s : Nat} (h : w.grownBy W (some s)) (v : Value) : w.grownBy (W.setCell ⟨s, 0, none⟩ v) (some s) :=
  ⟨h.os, h.tape, h.output, by simpa using h.size, fun k hk hne => (Below.heap_setCell W ⟨s, 0, none⟩ v k (fun e => hne (by rw [e]))).trans (h.block k hk hne)⟩
theorem grown_drew {w W : World} {s : Nat} (h : w.grownBy W (some s)) : w.grownBy W.drew (some s) := ⟨h.os, h.tape, h.output, h.size, h.block⟩
theorem Sd.past {w W W' : World} {base g n c s : Nat} {d : Array Int} (h : Sd w base g n c d W) (hb : W.grownBy W' (some s)) (hg : g < s) (hs : w.heap.size ≤ s) : Sd w base g n c d W' :=
  ⟨⟨h.s.own.kept hb (.inr (by intro e; cases e; exact absurd hg (Nat.lt_irrefl _))), ⟨hb.os.trans h.s.grow.os, hb.tape.trans h.s.grow.tape, hb.output.trans h.s.grow.output, Nat.le_trans h.s.grow.size hb.size, fun k hk hne => (hb.block k (Nat.lt_of_lt_of_le hk h.s.grow.size) (by intro e; cases e; omega)).trans (h.s.grow.block k hk hne)⟩, h.s.len⟩⟩
theorem and_other (v M : Nat) (hM : 0 < M) (hM2 : M ≤ 2000000000) (hv : v < 18446744073709551616) : wrap64 (bits BinOp.and IntKind.u64 (v : Int) (IntKind.u64.wrap ((M : Int) - 1))) = ((v &&& (M - 1) : Nat) : Int) ∧ v &&& (M - 1) < M := by
  have h1 : IntKind.u64.wrap ((M : Int) - 1) = ((M - 1 : Nat) : Int) := by rw [IntKind.wrap_u64]; omega
  have h2 : v &&& (M - 1) ≤ M - 1 := Nat.and_le_right
  rw [h1, bits_and_u64_nat v (M - 1) hv (by omega)]
  exact ⟨by unfold wrap64; omega, by omega⟩
set_option maxHeartbeats 4000000 in
theorem xnext_any (s : Nat) (x : Int) (w : World) (h : Xr w s x) :
    Calls Tryz.prog 257 #[.pointer (some ⟨s, 0, none⟩)] w (XPost s w) := by
  have c0 : w.cell? ⟨s, 0, none⟩ = some (.int .u64 x) := Blk.cell h 0
  have f0 : w.frozen? ⟨s, 0, none⟩ = false := Blk.frozen h 0
  have HB := Lib.hid h
  clear h
  go_enter Tryz.func257, Tryz.ntmps257
  go_upto_region 1 with fail
  go_region
  go_upto_region 2 with fail
  go_region
  go_upto_region 3 with fail
  go_region
  obtain ⟨y1, h1⟩ : ∃ y1, bits BinOp.xor IntKind.u64 x (IntKind.u64.wrap (x * 8192)) = y1 := ⟨_, rfl⟩
  rw [h1]
  obtain ⟨y2, h2⟩ : ∃ y2, bits BinOp.xor IntKind.u64 y1 (y1 / 128) = y2 := ⟨_, rfl⟩
  rw [h2]
  obtain ⟨y3, h3⟩ : ∃ y3, bits BinOp.xor IntKind.u64 y2 (IntKind.u64.wrap (y2 * 131072)) = y3 := ⟨_, rfl⟩
  rw [h3]
  have hlo := bits_lo_u64 BinOp.xor y2 (IntKind.u64.wrap (y2 * 131072))
  have hhi := bits_hi_u64 BinOp.xor y2 (IntKind.u64.wrap (y2 * 131072))
  rw [h3] at hlo hhi
  obtain ⟨v, rfl⟩ : ∃ v : Nat, y3 = (v : Int) := ⟨y3.toNat, by omega⟩
  have HX3 : Hid (Xr (((w.setCell ⟨s, 0, none⟩ (.int .u64 y1)).setCell ⟨s, 0, none⟩ (.int .u64 y2)).setCell ⟨s, 0, none⟩ (.int .u64 (v : Int))).drew.drew.drew s (v : Int)) :=
    Lib.hid (((Blk.set_ HB.out 0 (.int .u64 y1)).set_ 0 (.int .u64 y2)).set_ 0 (.int .u64 (v : Int)))
  have HW3 : Hid (w.grownBy (((w.setCell ⟨s, 0, none⟩ (.int .u64 y1)).setCell ⟨s, 0, none⟩ (.int .u64 y2)).setCell ⟨s, 0, none⟩ (.int .u64 (v : Int))).drew.drew.drew (some s)) :=
    Lib.hid (grown_drew (grown_drew (grown_drew (grown_set (grown_set (grown_set (grown_same w s) _) _) _))))
  generalize (((w.setCell ⟨s, 0, none⟩ (.int .u64 y1)).setCell ⟨s, 0, none⟩ (.int .u64 y2)).setCell ⟨s, 0, none⟩ (.int .u64 (v : Int))).drew.drew.drew = W3 at *
  clear c0 f0 h1 h2 h3
  have c0 : W3.cell? ⟨s, 0, none⟩ = some (.int .u64 (v : Int)) := Blk.cell HX3.out 0
  have HV : Hid (v < 18446744073709551616) := Lib.hid (by omega)
  clear hlo hhi
  go_wp2
  go_ret
  exact ⟨⟨v, rfl, HV.out, HX3.out⟩, HW3.out⟩
theorem pow_len : ∀ (k l : Nat), l ≤ k → 0 < l → l < 2 ^ 63 → l < 2 ^ Lib.bitLen l ∧ 2 ^ Lib.bitLen l ≤ 2 * l
  | 0, l, h, h0, _ => by omega
  | k + 1, l, h, h0, hl => by
    rcases Nat.lt_or_ge l 2 with h2 | h2
    · obtain rfl : l = 1 := by omega
      decide
    · have ih := pow_len k (l / 2) (by omega) (by omega) (by omega)
      rw [Lib.bitLen_half l (by omega) (by omega), Nat.pow_add]
      omega
theorem next2_any (l : Nat) (w : World) (hl : 0 < l) (hl2 : l ≤ 1000000000) :
    Calls Tryz.prog 256 #[.int .i64 (l : Int)] w fun e w' => e = .returned (.int .u64 ((2 ^ Lib.bitLen l : Nat) : Int)) ∧ w' = w := by
  have HL := Lib.hid (Tryz.bits_Len (l : Int) w (by omega) (by omega))
  go_enter Tryz.func256, Tryz.ntmps256
  go_wp2_with (go_at_call 191; (with_reducible refine HL.out.mono ?_); rintro e w1 ⟨rfl, rfl⟩)
  go_ret
  have h := pow_len l l (Nat.le_refl _) hl (by omega)
  have h30 : Lib.bitLen l < 40 := by
    rcases Nat.lt_or_ge (Lib.bitLen l) 40 with h4 | h4
    · exact h4
    · have := Nat.pow_le_pow_right (show 0 < 2 by omega) h4
      omega
  refine ⟨?_, rfl⟩
  rw [Nat.min_eq_left (by omega), IntKind.wrap_u64]
  have e : (2 : Int) ^ Lib.bitLen l = ((2 ^ Lib.bitLen l : Nat) : Int) := by simp
  have e2 : (2 : Int) ^ Lib.bitLen l % 18446744073709551616 = ((2 ^ Lib.bitLen l : Nat) : Int) := by rw [e]; omega
  rw [e2]
  rfl
/-- a row beside what it was: the same addresses in another order within a part -/
structure BPost (w0 : World) (base g n c a b : Nat) (d : Array Int) (e : Ending) (w' : World) : Prop where
  e : e = .returned (.tuple #[])
  h : ∃ d', Sd w0 base g n c d' w' ∧ Sort.PermIn a b d d'
/-- .. beside the block of the random number -/
structure Br (w0 : World) (base g n c a b s : Nat) (d : Array Int) (W : World) : Prop where
  h : ∃ d', Sd w0 base g n c d' W ∧ Sort.PermIn a b d d'
  x : ∃ x : Int, Xr W s x ∧ 0 ≤ x ∧ x < 18446744073709551616
set_option maxRecDepth 100000 in
set_option maxHeartbeats 4000000 in
theorem pbreak_any (base g n c a b : Nat) (d : Array Int) (w0 w : World) (h : Sd w0 base g n c d w) (hbn : b ≤ n) (hn : n ≤ 1000000000) (hl : a + 12 < b) :
    Calls Tryz.prog 228 #[.slice (some ⟨g, 0, none⟩) n c, .int .i64 (a : Int), .int .i64 (b : Int)] w (BPost w0 base g n c a b d) := by
  have HG := Lib.hid h.s.own.lt
  have HS00 := Lib.hid h.s.grow.size
  have H0 := Lib.hid h
  clear h
  go_enter Tryz.func228, Tryz.ntmps228
  go_upto_region 1 with fail
  obtain ⟨l, hl'⟩ : ∃ l : Nat, l = b - a := ⟨_, rfl⟩
  rw [show (b : Int) - (a : Int) = (l : Int) by omega]
  have h12 : (12 : Int) < (l : Int) := by omega
  have hln : (l : Int) ≤ 1000000000 := by omega
  have HL := Lib.hid hl'
  have H2 := Lib.hid (fun W => next2_any l W (by omega) (by omega))
  have HM := Lib.hid (pow_len l l (Nat.le_refl _) (by omega) (by omega))
  clear hl'
  obtain ⟨M, hM⟩ : ∃ M, 2 ^ Lib.bitLen l = M := ⟨_, rfl⟩
  rw [hM] at H2 HM
  clear hM
  go_upto_region 4 with (go_at_call 256; (with_reducible refine (H2.out _).mono ?_); rintro e w1 ⟨rfl, rfl⟩)
  have HB0 : Hid (Br w0 base g n c a b w.heap.size d (w.alloc (.cells #[.int .u64 (l : Int)] 304))) := Lib.hid ⟨⟨d, H0.out.since ((Below.refl w.heap.size w).alloc (Nat.le_refl _) _), Sort.permIn_refl _ _ _⟩, ⟨l, Blk.new w _ _, by omega, by omega⟩⟩
  generalize w.alloc (.cells #[.int .u64 (l : Int)] 304) = w4 at *
  generalize w.heap.size = s at *
  have hgs : Hid (g < s) := Lib.hid (HG.out g rfl).2
  have HS0 : Hid (w0.heap.size ≤ s) := Lib.hid HS00.out
  clear HG H0
  obtain ⟨m2, hm2⟩ : ∃ m2 : Nat, m2 = a + l / 4 * 2 := ⟨_, rfl⟩
  have HM2 : Hid (a + 5 ≤ m2 - 1 ∧ m2 + 2 < b ∧ a + l ≤ n ∧ 12 < l ∧ a + l = b) := Lib.hid (by have := HL.out; omega)
  have e4 : (a : Int) + (l : Int) / 4 * 2 = (m2 : Int) := by omega
  have E4 := Lib.hid e4
  clear e4 hm2
  go_wp2
  go_loopw [9] (fun iv wr => ∃ i : Nat, m2 - 1 ≤ i ∧ i ≤ m2 + 2 ∧ iv = .int .i64 (i : Int) ∧ Hid (Br w0 base g n c a b s d wr)) (fun iv _ => m2 + 2 - (intOf iv).toNat)
  case atStart => exact ⟨m2 - 1, by omega, by omega, by rw [E4.out]; have := HM2.out; go_num, HB0⟩
  case round =>
    clear HB0
    obtain ⟨i, hi1, hi2, rfl, HB⟩ := hrel
    rcases Nat.lt_or_ge i (m2 + 2) with hi | hi
    · have q1 : (i : Int) ≤ (a : Int) + (l : Int) / 4 * 2 + 1 := by have := E4.out; omega
      obtain ⟨x, hx, hx0, hx1⟩ := HB.out.x
      obtain ⟨dk, hdk, hpk⟩ := HB.out.h
      have HN := Lib.hid (xnext_any s x wr hx)
      have HD := Lib.hid hdk
      have HP := Lib.hid hpk
      clear hx hx0 hx1 hdk hpk HB
      go_upto_region 8 with (go_at_call 257; (with_reducible refine HN.out.mono ?_); rintro e w7 ⟨⟨v, rfl, hv, hx7⟩, hb7⟩)
      have hd7 := Lib.hid (HD.out.past hb7 hgs.out HS0.out)
      have HX7 := Lib.hid hx7
      have ho := and_other v M (by have := HM.out; omega) (by have := HM.out; omega) hv
      obtain ⟨o, hoo⟩ : ∃ o : Nat, v &&& (M - 1) = o := ⟨_, rfl⟩
      rw [hoo] at ho
      rw [ho.1]
      have hoM : o < 2 * l := by have := HM.out; have := ho.2; omega
      clear ho hoo hx7 hb7 HN HD q1
      have HV := Lib.hid hv
      clear hv
      have hib : a ≤ i ∧ i < b := by have := HM2.out; omega
      rcases Nat.lt_or_ge o l with hol | hol
      · have r1 : ¬ (l : Int) ≤ (o : Int) := by omega
        have r2 : (a : Int) + (o : Int) < (n : Int) := by have := HM2.out; omega
        have r3 : (0 : Int) ≤ (a : Int) + (o : Int) := by omega
        have r4 : (i : Int) < (n : Int) := by omega
        have bx : i < n := by omega
        have by_ : (a + o) < n := by omega
        obtain ⟨vx, hvx'⟩ : ∃ vx, (dk)[i]! = vx := ⟨_, rfl⟩
        obtain ⟨vy, hvy'⟩ : ∃ vy, (dk)[(a + o)]! = vy := ⟨_, rfl⟩
        have cx : w7.cell? ⟨g, i, none⟩ = some (.int .u32 vx) := by rw [← hvx']; exact hd7.out.cell bx
        have cy : w7.cell? ⟨g, (a + o), none⟩ = some (.int .u32 vy) := by rw [← hvy']; exact hd7.out.cell by_
        have fx : w7.frozen? ⟨g, i, none⟩ = false := hd7.out.frozen _
        have fy : w7.frozen? ⟨g, (a + o), none⟩ = false := hd7.out.frozen _
        obtain ⟨vz, cz⟩ := Go.RowKit.cell?_setCell_some (w := w7) (p := ⟨g, i, none⟩) (x := .int .u32 vy) (q := ⟨g, (a + o), none⟩) cy
        have HS6 : Hid (Sd w0 base g n c (Sort.swp (dk) i (a + o)) ((w7.setCell ⟨g, i, none⟩ (.int .u32 vy)).setCell ⟨g, (a + o), none⟩ (.int .u32 vx)).drew) := Lib.hid (by
          rw [← hvx', ← hvy']
          exact (hd7.out.swap i (a + o)).drew)
        clear hvx' hvy'
        go_upto_region 10 with fail
        go_region
        have HX6 : Hid (Xr (((w7.setCell ⟨g, i, none⟩ (.int .u32 vy)).setCell ⟨g, a + o, none⟩ (.int .u32 vx)).drew) s v) := Lib.hid (((Blk.far (p := ⟨g, i, none⟩) HX7.out (by have := hgs.out; simp; omega) _).far (p := ⟨g, a + o, none⟩) (by have := hgs.out; simp; omega) _).drew)
        have HB6 : Hid (Br w0 base g n c a b s d (((w7.setCell ⟨g, i, none⟩ (.int .u32 vy)).setCell ⟨g, a + o, none⟩ (.int .u32 vx)).drew)) := Lib.hid ⟨⟨_, HS6.out, Sort.permIn_trans _ _ _ a b HP.out (Sort.swp_permIn dk a b i (a + o) hib.1 hib.2 (by omega) (by have := HM2.out; omega) (by rw [hd7.out.size]; exact hbn))⟩, ⟨_, HX6.out, by omega, by have := HV.out; omega⟩⟩
        clear cx cy fx fy cz HS6 HX6
        all_goals go_wp2
        all_goals go_roundw
        case rel => exact ⟨i + 1, by omega, by omega, by go_num, HB6⟩
        case measure => simp [intOf]; omega
      · have r1 : (l : Int) ≤ (o : Int) := by omega
        go_upto_region 10 with fail
        obtain ⟨o2, ho2⟩ : ∃ o2 : Nat, o2 = o - l := ⟨_, rfl⟩
        rw [show (o : Int) - (l : Int) = (o2 : Int) by omega]
        have hol2 : o2 < l := by omega
        clear ho2 hol r1
        have r2 : (a : Int) + (o2 : Int) < (n : Int) := by have := HM2.out; omega
        have r3 : (0 : Int) ≤ (a : Int) + (o2 : Int) := by omega
        have r4 : (i : Int) < (n : Int) := by omega
        have bx : i < n := by omega
        have by_ : (a + o2) < n := by omega
        obtain ⟨vx, hvx'⟩ : ∃ vx, (dk)[i]! = vx := ⟨_, rfl⟩
        obtain ⟨vy, hvy'⟩ : ∃ vy, (dk)[(a + o2)]! = vy := ⟨_, rfl⟩
        have cx : w7.cell? ⟨g, i, none⟩ = some (.int .u32 vx) := by rw [← hvx']; exact hd7.out.cell bx
        have cy : w7.cell? ⟨g, (a + o2), none⟩ = some (.int .u32 vy) := by rw [← hvy']; exact hd7.out.cell by_
        have fx : w7.frozen? ⟨g, i, none⟩ = false := hd7.out.frozen _
        have fy : w7.frozen? ⟨g, (a + o2), none⟩ = false := hd7.out.frozen _
        obtain ⟨vz, cz⟩ := Go.RowKit.cell?_setCell_some (w := w7) (p := ⟨g, i, none⟩) (x := .int .u32 vy) (q := ⟨g, (a + o2), none⟩) cy
        have HS6 : Hid (Sd w0 base g n c (Sort.swp (dk) i (a + o2)) ((w7.setCell ⟨g, i, none⟩ (.int .u32 vy)).setCell ⟨g, (a + o2), none⟩ (.int .u32 vx)).drew) := Lib.hid (by
          rw [← hvx', ← hvy']
          exact (hd7.out.swap i (a + o2)).drew)
        clear hvx' hvy'
        go_upto_region 10 with fail
        go_region
        have HX6 : Hid (Xr (((w7.setCell ⟨g, i, none⟩ (.int .u32 vy)).setCell ⟨g, a + o2, none⟩ (.int .u32 vx)).drew) s v) := Lib.hid (((Blk.far (p := ⟨g, i, none⟩) HX7.out (by have := hgs.out; simp; omega) _).far (p := ⟨g, a + o2, none⟩) (by have := hgs.out; simp; omega) _).drew)
        have HB6 : Hid (Br w0 base g n c a b s d (((w7.setCell ⟨g, i, none⟩ (.int .u32 vy)).setCell ⟨g, a + o2, none⟩ (.int .u32 vx)).drew)) := Lib.hid ⟨⟨_, HS6.out, Sort.permIn_trans _ _ _ a b HP.out (Sort.swp_permIn dk a b i (a + o2) hib.1 hib.2 (by omega) (by have := HM2.out; omega) (by rw [hd7.out.size]; exact hbn))⟩, ⟨_, HX6.out, by omega, by have := HV.out; omega⟩⟩
        clear cx cy fx fy cz HS6 HX6
        all_goals go_wp2
        all_goals go_roundw
        case rel => exact ⟨i + 1, by omega, by omega, by go_num, HB6⟩
        case measure => simp [intOf]; omega
    · have q1 : ¬ (i : Int) ≤ (a : Int) + (l : Int) / 4 * 2 + 1 := by have := E4.out; omega
      go_wp2
      go_returns
      exact ⟨rfl, HB.out.h⟩
end Go.Proofs.YtdljpokhcfhhfaaGreatDoor

