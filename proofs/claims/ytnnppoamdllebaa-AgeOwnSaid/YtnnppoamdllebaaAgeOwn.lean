/- AgeOwn: the law of what is heard anew, walked over the seat's program. -/
import Derived.Test.YtnnppoamdllebaaAgo
import Derived.Test.YtnnppoamdllebaaAo
import Derived.Test.YtnnppoamdllebaaW2
import Derived.Test.YtnnppoamdllebaaRa
import Derived.Test.YtnnppoamdllebaaQb
import Derived.Test.YtnnppoamdllebaaAhp
import Derived.Deep.CutRange
namespace Go.Proofs.Ytnnppoamdllebaa
open Go.RowKit Sm Ag
theorem sameB_self (m : Ms) : sameB m m = true := by unfold sameB; simp
theorem less_apart {x y : Th} (h : x ≠ y) : (decide (ordT x y < 0) != decide (ordT y x < 0)) = true := by
  have h1 := ord_ltT x y
  have h2 := ord_ltT y x
  by_cases h3 : ltT x y
  · have h4 : ¬ ltT y x := fun h5 => ltT_irrefl x (ltT_trans h3 h5)
    have e1 : decide (ordT x y < 0) = true := by simpa [h1] using h3
    have e2 : decide (ordT y x < 0) = false := by
      rw [decide_eq_false_iff_not, h2]; exact h4
    rw [e1, e2]; rfl
  · have h4 : ltT y x := by
      by_cases h5 : ltT y x
      · exact h5
      · exact absurd (ltT_total h3 h5) h
    have e1 : decide (ordT x y < 0) = false := by rw [decide_eq_false_iff_not, h1]; exact h3
    have e2 : decide (ordT y x < 0) = true := by rw [decide_eq_true_eq, h2]; exact h4
    rw [e1, e2]; rfl
/-- the four boxes of the arguments -/
structure Box4 (H : Nat) (m0 m1 : Ms) (A0 A1 : Option Addr) (n0 n1 c0 c1 : Nat) (x y : Th) (W : World) : Prop where
  a : Blk W H 40 #[.int .i64 m0.k, .int .u32 m0.f, .int .u32 m0.t, .int .u32 m0.s, .int .u32 m0.g, .int .i64 m0.r, .int .i64 m0.c, .bool m0.o, .slice A0 n0 c0]
  b : Blk W (H + 1) 40 #[.int .i64 m1.k, .int .u32 m1.f, .int .u32 m1.t, .int .u32 m1.s, .int .u32 m1.g, .int .i64 m1.r, .int .i64 m1.c, .bool m1.o, .slice A1 n1 c1]
  x : Blk W (H + 1 + 1) 28 #[.int .i64 x.1, .int .i64 x.2.1, .int .u32 x.2.2.1, .int .u32 x.2.2.2.1, .int .u32 x.2.2.2.2]
  y : Blk W (H + 1 + 1 + 1) 28 #[.int .i64 y.1, .int .i64 y.2.1, .int .u32 y.2.2.1, .int .u32 y.2.2.2.1, .int .u32 y.2.2.2.2]
section
variable {H : Nat} {m0 m1 : Ms} {A0 A1 : Option Addr} {n0 n1 c0 c1 : Nat} {x y : Th} {w w' : World}
theorem Box4.next (h : Box4 H m0 m1 A0 A1 n0 n1 c0 c1 x y w) (hb : Below w.heap.size w w') : Box4 H m0 m1 A0 A1 n0 n1 c0 c1 x y w' := ⟨h.a.next hb, h.b.next hb, h.x.next hb, h.y.next hb⟩
theorem Box4.chg {N : Nat} {mb : Option Nat} {M : List En} (h : Box4 H m0 m1 A0 A1 n0 n1 c0 c1 x y w) (ht : TP w N mb M) (hc : Chg w w' N mb) (hN : H + 3 < N) : Box4 H m0 m1 A0 A1 n0 n1 c0 c1 x y w' :=
  ⟨ht.blk hc h.a (by omega), ht.blk hc h.b (by omega), ht.blk hc h.x (by omega), ht.blk hc h.y (by omega)⟩
theorem Box4.one {g : Nat} (h : Box4 H m0 m1 A0 A1 n0 n1 c0 c1 x y w) (ho : One g w w') (hg : H + 3 < g) : Box4 H m0 m1 A0 A1 n0 n1 c0 c1 x y w' :=
  ⟨ho.blk h.a (by omega), ho.blk h.b (by omega), ho.blk h.x (by omega), ho.blk h.y (by omega)⟩
end
set_option maxRecDepth 100000 in
set_option maxHeartbeats 16000000 in
theorem law_own (m0 m1 : Ms) (A0 A1 : Option Addr) (n0 n1 c0 c1 : Nat) (x y : Th) (w : World) (h0 : AR w A0 n0 m0.l) (h1 : AR w A1 n1 m1.l) (hx : wfT x) (hy : wfT y) :
    Calls Try.prog 5 #[mv m0 A0 n0 c0, mv m1 A1 n1 c1, tv x, tv y] w fun e w' => e = .returned (.bool true) ∧ Below w.heap.size w w' := by
  have HF := Lib.hid (fun W => first15_any W)
  have H0 := Lib.hid h0
  have H1 := Lib.hid h1
  have HX := Lib.hid hx
  have HY := Lib.hid hy
  clear h0 h1 hx hy
  unfold mv tv
  have hb1 := ((((Below.refl w.heap.size w).alloc (Nat.le_refl _) (.cells #[.int .i64 m0.k, .int .u32 m0.f, .int .u32 m0.t, .int .u32 m0.s, .int .u32 m0.g, .int .i64 m0.r, .int .i64 m0.c, .bool m0.o, .slice A0 n0 c0] 40)).alloc (by simp) (.cells #[.int .i64 m1.k, .int .u32 m1.f, .int .u32 m1.t, .int .u32 m1.s, .int .u32 m1.g, .int .i64 m1.r, .int .i64 m1.c, .bool m1.o, .slice A1 n1 c1] 40)).alloc (by simp; omega) (.cells #[.int .i64 x.1, .int .i64 x.2.1, .int .u32 x.2.2.1, .int .u32 x.2.2.2.1, .int .u32 x.2.2.2.2] 28)).alloc (by simp; omega) (.cells #[.int .i64 y.1, .int .i64 y.2.1, .int .u32 y.2.2.1, .int .u32 y.2.2.2.1, .int .u32 y.2.2.2.2] 28)
  have hbx : Box4 w.heap.size m0 m1 A0 A1 n0 n1 c0 c1 x y ((((w.alloc (.cells #[.int .i64 m0.k, .int .u32 m0.f, .int .u32 m0.t, .int .u32 m0.s, .int .u32 m0.g, .int .i64 m0.r, .int .i64 m0.c, .bool m0.o, .slice A0 n0 c0] 40)).alloc (.cells #[.int .i64 m1.k, .int .u32 m1.f, .int .u32 m1.t, .int .u32 m1.s, .int .u32 m1.g, .int .i64 m1.r, .int .i64 m1.c, .bool m1.o, .slice A1 n1 c1] 40)).alloc (.cells #[.int .i64 x.1, .int .i64 x.2.1, .int .u32 x.2.2.1, .int .u32 x.2.2.2.1, .int .u32 x.2.2.2.2] 28)).alloc (.cells #[.int .i64 y.1, .int .i64 y.2.1, .int .u32 y.2.2.1, .int .u32 y.2.2.2.1, .int .u32 y.2.2.2.2] 28)) := by
    refine ⟨(((Blk.new w 40 #[.int .i64 m0.k, .int .u32 m0.f, .int .u32 m0.t, .int .u32 m0.s, .int .u32 m0.g, .int .i64 m0.r, .int .i64 m0.c, .bool m0.o, .slice A0 n0 c0]).alloc _).alloc _).alloc _, ?_, ?_, ?_⟩
    · have := ((Blk.new (w.alloc (.cells #[.int .i64 m0.k, .int .u32 m0.f, .int .u32 m0.t, .int .u32 m0.s, .int .u32 m0.g, .int .i64 m0.r, .int .i64 m0.c, .bool m0.o, .slice A0 n0 c0] 40)) 40 #[.int .i64 m1.k, .int .u32 m1.f, .int .u32 m1.t, .int .u32 m1.s, .int .u32 m1.g, .int .i64 m1.r, .int .i64 m1.c, .bool m1.o, .slice A1 n1 c1]).alloc (.cells #[.int .i64 x.1, .int .i64 x.2.1, .int .u32 x.2.2.1, .int .u32 x.2.2.2.1, .int .u32 x.2.2.2.2] 28)).alloc (.cells #[.int .i64 y.1, .int .i64 y.2.1, .int .u32 y.2.2.1, .int .u32 y.2.2.2.1, .int .u32 y.2.2.2.2] 28)
      rw [sz_alloc] at this
      exact this
    · have := (Blk.new ((w.alloc (.cells #[.int .i64 m0.k, .int .u32 m0.f, .int .u32 m0.t, .int .u32 m0.s, .int .u32 m0.g, .int .i64 m0.r, .int .i64 m0.c, .bool m0.o, .slice A0 n0 c0] 40)).alloc (.cells #[.int .i64 m1.k, .int .u32 m1.f, .int .u32 m1.t, .int .u32 m1.s, .int .u32 m1.g, .int .i64 m1.r, .int .i64 m1.c, .bool m1.o, .slice A1 n1 c1] 40)) 28 #[.int .i64 x.1, .int .i64 x.2.1, .int .u32 x.2.2.1, .int .u32 x.2.2.2.1, .int .u32 x.2.2.2.2]).alloc (.cells #[.int .i64 y.1, .int .i64 y.2.1, .int .u32 y.2.2.1, .int .u32 y.2.2.2.1, .int .u32 y.2.2.2.2] 28)
      rw [sz_alloc, sz_alloc] at this
      exact this
    · have := Blk.new (((w.alloc (.cells #[.int .i64 m0.k, .int .u32 m0.f, .int .u32 m0.t, .int .u32 m0.s, .int .u32 m0.g, .int .i64 m0.r, .int .i64 m0.c, .bool m0.o, .slice A0 n0 c0] 40)).alloc (.cells #[.int .i64 m1.k, .int .u32 m1.f, .int .u32 m1.t, .int .u32 m1.s, .int .u32 m1.g, .int .i64 m1.r, .int .i64 m1.c, .bool m1.o, .slice A1 n1 c1] 40)).alloc (.cells #[.int .i64 x.1, .int .i64 x.2.1, .int .u32 x.2.2.1, .int .u32 x.2.2.2.1, .int .u32 x.2.2.2.2] 28)) 28 #[.int .i64 y.1, .int .i64 y.2.1, .int .u32 y.2.2.1, .int .u32 y.2.2.2.1, .int .u32 y.2.2.2.2]
      rw [sz_alloc, sz_alloc, sz_alloc] at this
      exact this
  go_enter Try.func5, Try.ntmps5
  go_upto_region 1 with fail
  generalize (((w.alloc (.cells #[.int .i64 m0.k, .int .u32 m0.f, .int .u32 m0.t, .int .u32 m0.s, .int .u32 m0.g, .int .i64 m0.r, .int .i64 m0.c, .bool m0.o, .slice A0 n0 c0] 40)).alloc (.cells #[.int .i64 m1.k, .int .u32 m1.f, .int .u32 m1.t, .int .u32 m1.s, .int .u32 m1.g, .int .i64 m1.r, .int .i64 m1.c, .bool m1.o, .slice A1 n1 c1] 40)).alloc (.cells #[.int .i64 x.1, .int .i64 x.2.1, .int .u32 x.2.2.1, .int .u32 x.2.2.2.1, .int .u32 x.2.2.2.2] 28)).alloc (.cells #[.int .i64 y.1, .int .i64 y.2.1, .int .u32 y.2.2.1, .int .u32 y.2.2.2.1, .int .u32 y.2.2.2.2] 28) = W1 at *
  have HB1 := Lib.hid hb1
  have HK1 := Lib.hid hbx
  clear hb1 hbx
  go_wp2_with fail
  refine (HF.out _).mono ?_
  rintro e w2 ⟨rfl, hb2⟩
  have HB2 := Lib.hid (HB1.out.trans (hb2.mono HB1.out.size))
  have HK2 := Lib.hid (HK1.out.next hb2)
  clear hb2 HB1 HK1 HF
  have q8 : w2.cell? ⟨w.heap.size, 8, none⟩ = some (.slice A0 n0 c0) := HK2.out.a.cell 8
  have p8 : w2.cell? ⟨w.heap.size + 1, 8, none⟩ = some (.slice A1 n1 c1) := HK2.out.b.cell 8
  rcases Nat.lt_or_ge 10 n0 with hn0 | hn0
  · have hd : decide (10 < n0) = true := by simpa using hn0
    have hd' : decide ((10 : Int) < (n0 : Int)) = true := by simp; omega
    go_wp2
    go_ret
    exact ⟨rfl, HB2.out⟩
  have hd0 : decide (10 < n0) = false := by simpa using hn0
  have hd0' : decide ((10 : Int) < (n0 : Int)) = false := by simp; omega
  rcases Nat.lt_or_ge 10 n1 with hn1 | hn1
  · have hd : decide (10 < n1) = true := by simpa using hn1
    have hd' : decide ((10 : Int) < (n1 : Int)) = true := by simp; omega
    go_wp2
    go_ret
    exact ⟨rfl, HB2.out⟩
  have hd1 : decide (10 < n1) = false := by simpa using hn1
  have hd1' : decide ((10 : Int) < (n1 : Int)) = false := by simp; omega
  have hNs : w.heap.size + 3 < w2.heap.size := HK2.out.y.lt
  have hl0 : w.heap.size < w2.heap.size := by omega
  have qa0 : w2.cell? ⟨w.heap.size, 0, none⟩ = some (.int .i64 m0.k) := HK2.out.a.cell 0
  have qa1 : w2.cell? ⟨w.heap.size, 1, none⟩ = some (.int .u32 m0.f) := HK2.out.a.cell 1
  have qa2 : w2.cell? ⟨w.heap.size, 2, none⟩ = some (.int .u32 m0.t) := HK2.out.a.cell 2
  have qa3 : w2.cell? ⟨w.heap.size, 3, none⟩ = some (.int .u32 m0.s) := HK2.out.a.cell 3
  have qa4 : w2.cell? ⟨w.heap.size, 4, none⟩ = some (.int .u32 m0.g) := HK2.out.a.cell 4
  have qa5 : w2.cell? ⟨w.heap.size, 5, none⟩ = some (.int .i64 m0.r) := HK2.out.a.cell 5
  have qa6 : w2.cell? ⟨w.heap.size, 6, none⟩ = some (.int .i64 m0.c) := HK2.out.a.cell 6
  have qa7 : w2.cell? ⟨w.heap.size, 7, none⟩ = some (.bool m0.o) := HK2.out.a.cell 7
  go_upto_region 8 with fail
  have hb4 : Below w2.heap.size w2 ((w2.alloc (.cells #[.map none] 33)).alloc (.cells #[.int .i64 m0.k, .int .u32 m0.f, .int .u32 m0.t, .int .u32 m0.s, .int .u32 m0.g, .int .i64 m0.r, .int .i64 m0.c, .bool m0.o, .slice A0 n0 c0] 40)) := ((Below.refl _ _).alloc (Nat.le_refl _) _).alloc (by simp) _
  have ht4 := (TB.new w2).next (w' := (w2.alloc (.cells #[.map none] 33)).alloc (.cells #[.int .i64 m0.k, .int .u32 m0.f, .int .u32 m0.t, .int .u32 m0.s, .int .u32 m0.g, .int .i64 m0.r, .int .i64 m0.c, .bool m0.o, .slice A0 n0 c0] 40)) ((Below.refl _ _).alloc (Nat.le_refl _) _)
  have hk4 := Blk.new (w2.alloc (.cells #[.map none] 33)) 40 #[.int .i64 m0.k, .int .u32 m0.f, .int .u32 m0.t, .int .u32 m0.s, .int .u32 m0.g, .int .i64 m0.r, .int .i64 m0.c, .bool m0.o, .slice A0 n0 c0]
  rw [sz_alloc] at hk4
  have HK4 := Lib.hid (HK2.out.next hb4)
  have HB4 := Lib.hid (HB2.out.trans (hb4.mono HB2.out.size))
  clear hb4 HB2 HK2 qa0 qa1 qa2 qa3 qa4 qa5 qa6 qa7 q8 p8 hl0
  generalize w2.heap.size = N at *
  generalize (w2.alloc (.cells #[.map none] 33)).alloc (.cells #[.int .i64 m0.k, .int .u32 m0.f, .int .u32 m0.t, .int .u32 m0.s, .int .u32 m0.g, .int .i64 m0.r, .int .i64 m0.c, .bool m0.o, .slice A0 n0 c0] 40) = w4 at *
  have hNl : N + 1 < w4.heap.size := hk4.lt
  have HT4 := Lib.hid ht4
  have HX4 := Lib.hid hk4
  have HNN : Hid (w.heap.size + 3 < N) := Lib.hid hNs
  clear ht4 hk4 hNs
  have g8 : w4.cell? ⟨w.heap.size, 8, none⟩ = some (.slice A0 n0 c0) := HK4.out.a.cell 8
  have hRA := Lib.hid (raddrs_any A0 n0 c0 m0.l w4 (H0.out.next HB4.out) (by omega))
  go_wp2_with fail
  refine hRA.out.mono ?_
  rintro e w5 ⟨v, rfl, hown, hb5⟩
  obtain ⟨A6, c6, rfl, hc6, har6, hnew6⟩ := own_forma hown (H0.out.isAs)
  have hk5 := HX4.out.next hb5
  have f8 := hk5.frozen 8
  have y8 : w5.cell? ⟨N + 1, 8, none⟩ = some (.slice A0 n0 c0) := hk5.cell 8
  have ho5 : One (N + 1) w5 (w5.setCell ⟨N + 1, 8, none⟩ (.slice A6 n0 c6)) := (One.refl _ _).set_ 8 _
  have HK6 := Lib.hid ((HK4.out.next hb5).one ho5 (by have := HNN.out; omega))
  have HX6 : Hid (Blk (w5.setCell ⟨N + 1, 8, none⟩ (.slice A6 n0 c6)) (N + 1) 40 #[.int .i64 m0.k, .int .u32 m0.f, .int .u32 m0.t, .int .u32 m0.s, .int .u32 m0.g, .int .i64 m0.r, .int .i64 m0.c, .bool m0.o, .slice A6 n0 c6]) := Lib.hid (hk5.set_to 8 _ rfl)
  have HT6 : Hid (TB (w5.setCell ⟨N + 1, 8, none⟩ (.slice A6 n0 c6)) N none []) := Lib.hid ⟨ho5.blk (HT4.out.next hb5).box (by omega), .inl ⟨rfl, rfl⟩⟩
  have HG6 : Hid (0 < n0 → ∃ g, A6 = some ⟨g, 0, none⟩ ∧ w4.heap.size ≤ g ∧ g < w5.heap.size) := Lib.hid hnew6
  have HA6 := Lib.hid (har6.far (w' := w5.setCell ⟨N + 1, 8, none⟩ (.slice A6 n0 c6)) (by simp) (fun hn => by
    obtain ⟨g, e1, e2, _⟩ := hnew6 hn
    exact ⟨g, 0, e1, ho5.block g (by omega)⟩))
  have HO6 : Hid ((w5.setCell ⟨N + 1, 8, none⟩ (.slice A6 n0 c6)).ownsRow w4.heap.size 24 1 (.slice A6 n0 c6) n0 (A32 m0.l)) := Lib.hid (own_keep hown (fun g hg => ho5.block g (by have := (hown.lt g hg).1; omega)))
  have hs5 : (w5.setCell ⟨N + 1, 8, none⟩ (.slice A6 n0 c6)).heap.size = w5.heap.size := by simp
  have HB6 := Lib.hid ((HB4.out.trans (hb5.mono HB4.out.size)).trans (ho5.below (B := w.heap.size) (by have := HNN.out; omega)))
  have hl5 : w4.heap.size ≤ w5.heap.size := hb5.size
  clear hown hb5 hc6 har6 hnew6 hk5 ho5 hRA HT4 HX4 g8 HK4 HB4
  go_upto_region 9 with fail
  generalize w5.setCell ⟨N + 1, 8, none⟩ (.slice A6 n0 c6) = w6 at *
  clear f8 y8
  have x0 : w6.cell? ⟨w.heap.size + 1 + 1, 0, none⟩ = some (.int .i64 x.1) := HK6.out.x.cell 0
  have x1 : w6.cell? ⟨w.heap.size + 1 + 1, 1, none⟩ = some (.int .i64 x.2.1) := HK6.out.x.cell 1
  have x2 : w6.cell? ⟨w.heap.size + 1 + 1, 2, none⟩ = some (.int .u32 x.2.2.1) := HK6.out.x.cell 2
  have x3 : w6.cell? ⟨w.heap.size + 1 + 1, 3, none⟩ = some (.int .u32 x.2.2.2.1) := HK6.out.x.cell 3
  have x4 : w6.cell? ⟨w.heap.size + 1 + 1, 4, none⟩ = some (.int .u32 x.2.2.2.2) := HK6.out.x.cell 4
  have z0 : w6.cell? ⟨N + 1, 0, none⟩ = some (.int .i64 m0.k) := HX6.out.cell 0
  have z1 : w6.cell? ⟨N + 1, 1, none⟩ = some (.int .u32 m0.f) := HX6.out.cell 1
  have z2 : w6.cell? ⟨N + 1, 2, none⟩ = some (.int .u32 m0.t) := HX6.out.cell 2
  have z3 : w6.cell? ⟨N + 1, 3, none⟩ = some (.int .u32 m0.s) := HX6.out.cell 3
  have z4 : w6.cell? ⟨N + 1, 4, none⟩ = some (.int .u32 m0.g) := HX6.out.cell 4
  have z5 : w6.cell? ⟨N + 1, 5, none⟩ = some (.int .i64 m0.r) := HX6.out.cell 5
  have z6 : w6.cell? ⟨N + 1, 6, none⟩ = some (.int .i64 m0.c) := HX6.out.cell 6
  have z7 : w6.cell? ⟨N + 1, 7, none⟩ = some (.bool m0.o) := HX6.out.cell 7
  have z8 : w6.cell? ⟨N + 1, 8, none⟩ = some (.slice A6 n0 c6) := HX6.out.cell 8
  have hC := Lib.hid (hear_first w6 N x m0 A6 n0 c6 HT6.out HX.out HA6.out (by omega))
  unfold tv mv at hC
  go_wp2_with fail
  refine hC.out.mono ?_
  rintro e w7 ⟨rfl, mb, htq, hc⟩
  have ht6 : TP w6 N none [] := ⟨[], HT6.out, rfl⟩
  have HNN6 := HNN.out
  have HK7 := Lib.hid (HK6.out.chg ht6 hc (by omega))
  have HX7 := Lib.hid (ht6.blk hc HX6.out (by omega))
  have HTQ := Lib.hid htq
  have HMB : Hid (∀ q, mb = some q → w.heap.size ≤ q) := Lib.hid (by
    obtain ⟨T, _, _, h3, _⟩ := htq
    intro q hq
    have h4 := h3 q hq
    have h5 := HB6.out.size
    omega)
  have HO7 : Hid (w7.ownsRow w4.heap.size 24 1 (.slice A6 n0 c6) n0 (A32 m0.l)) := Lib.hid (own_keep HO6.out (fun g hg => hc.block g (HO6.out.lt g hg).2 (by have := (HO6.out.lt g hg).1; omega) (by simp)))
  have HB7 := Lib.hid (HB6.out.trans (hc.below HB6.out.size (by omega) (by simp)))
  obtain ⟨g6, hg6⟩ : ∃ g6 : Nat, N + 1 ≤ g6 ∧ g6 < w6.heap.size ∧ (0 < n0 → A6 = some ⟨g6, 0, none⟩ ∧ g6 ≠ N + 1) := by
    rcases Nat.eq_zero_or_pos n0 with h | h
    · exact ⟨N + 1, Nat.le_refl _, by omega, fun h2 => by omega⟩
    · obtain ⟨g, e1, e2, e3⟩ := HG6.out h
      exact ⟨g, by omega, by omega, fun _ => ⟨e1, by omega⟩⟩
  have HG := Lib.hid hg6
  have hml : m0.l.length = n0 := H0.out.len
  have HI0 : Hid (One g6 w7 w7 ∧ Blk w7 (N + 1) 40 #[.int .i64 m0.k, .int .u32 m0.f, .int .u32 m0.t, .int .u32 m0.s, .int .u32 m0.g, .int .i64 m0.r, .int .i64 m0.c, .bool m0.o, .slice A6 n0 c6] ∧ ∃ ys : List Int, w7.ownsRow w4.heap.size 24 1 (.slice A6 n0 c6) n0 (A32 ys) ∧ ys.length = n0) := Lib.hid ⟨One.refl _ _, HX7.out, m0.l, HO7.out, hml⟩
  clear hC htq hc ht6 HK6 HX6 HT6 HG6 HA6 HO6 HB6 hg6 HO7 HX7 HNN6 hml x0 x1 x2 x3 x4 z0 z1 z2 z3 z4 z5 z6 z7 z8
  go_wp2_with fail
  go_loopw [12] (fun iv wr => ∃ k : Nat, k ≤ n0 ∧ iv = .int .i64 k ∧ Hid (One g6 w7 wr ∧ Blk wr (N + 1) 40 #[.int .i64 m0.k, .int .u32 m0.f, .int .u32 m0.t, .int .u32 m0.s, .int .u32 m0.g, .int .i64 m0.r, .int .i64 m0.c, .bool m0.o, .slice A6 n0 c6] ∧ ∃ ys : List Int, wr.ownsRow w4.heap.size 24 1 (.slice A6 n0 c6) n0 (A32 ys) ∧ ys.length = n0)) (fun iv _ => n0 - (intOf iv).toNat)
  case atStart => exact ⟨0, Nat.zero_le _, rfl, HI0⟩
  case round =>
    clear HI0
    obtain ⟨k, hk, rfl, HI⟩ := hrel
    obtain ⟨hone, hkx, ys, hoy, hly⟩ := HI.out
    have z8 : wr.cell? ⟨N + 1, 8, none⟩ = some (.slice A6 n0 c6) := hkx.cell 8
    rcases Nat.lt_or_ge k n0 with hlt | hge
    · have hi0 : (k : Int) < (n0 : Int) := by omega
      obtain ⟨hA6, hg1⟩ := HG.out.2.2 (by omega)
      subst hA6
      have y0 : wr.cell? ⟨g6, k, none⟩ = some (.int .u32 (ys.getD k 0)) := by rw [hoy.cellAt k (by omega)]; exact A32_at (by omega)
      have fy := own_frozen hoy k
      have HON := Lib.hid hone
      have HKX := Lib.hid hkx
      have HOY := Lib.hid hoy
      have HLY := Lib.hid hly
      clear hone hkx hoy hly HI
      generalize ys.getD k 0 = u at *
      go_wp2
      go_roundw
      case rel => exact ⟨k + 1, hlt, by go_num, Lib.hid ⟨HON.out.set_ k _, HKX.out.far (by simpa using hg1.symm) _, _, own_seta HOY.out k _, by rw [List.length_set]; exact HLY.out⟩⟩
      case measure => simp [intOf]; omega
    · obtain rfl : n0 = k := by omega
      have hd : decide ((n0 : Int) < (n0 : Int)) = false := by simp
      have hTW := HTQ.out.old (hone.old HG.out.2.1 (by have := HG.out.1; omega))
      have HT9 := Lib.hid hTW.tp
      have HK9 := Lib.hid (HK7.out.one hone (by have := HG.out.1; have := HNN.out; omega))
      have HB9 := Lib.hid (HB7.out.trans (hone.below (B := w.heap.size) (by have := HG.out.1; have := HNN.out; omega)))
      clear hone hkx hoy hly hTW HI HTQ HK7 HB7
      have hTK := Lib.hid (tick_p wr N mb _ HT9.out (by simp))
      go_wp2_with fail
      refine hTK.out.mono ?_
      rintro e w10 ⟨rfl, ht, hc⟩
      have HNN6 := HNN.out
      have HK10 := Lib.hid (HK9.out.chg HT9.out hc (by omega))
      have HT10 : Hid (TP w10 N mb [⟨x, 1, m0⟩]) := Lib.hid ht
      have HB10 := Lib.hid (HB9.out.trans (hc.below HB9.out.size (by omega) (fun q hq => HMB.out q hq)))
      clear ht hc hTK HT9 HK9 HB9 hd z8
      have x0 : w10.cell? ⟨w.heap.size + 1 + 1, 0, none⟩ = some (.int .i64 x.1) := HK10.out.x.cell 0
      have x1 : w10.cell? ⟨w.heap.size + 1 + 1, 1, none⟩ = some (.int .i64 x.2.1) := HK10.out.x.cell 1
      have x2 : w10.cell? ⟨w.heap.size + 1 + 1, 2, none⟩ = some (.int .u32 x.2.2.1) := HK10.out.x.cell 2
      have x3 : w10.cell? ⟨w.heap.size + 1 + 1, 3, none⟩ = some (.int .u32 x.2.2.2.1) := HK10.out.x.cell 3
      have x4 : w10.cell? ⟨w.heap.size + 1 + 1, 4, none⟩ = some (.int .u32 x.2.2.2.2) := HK10.out.x.cell 4
      have hC := get_p w10 N mb _ x HT10.out HX.out
      rw [show findP [⟨x, 1, m0⟩] x = some ⟨x, 1, m0⟩ by unfold findP; simp] at hC
      unfold tv at hC
      dsimp only [Option.isSome_some, Option.getD_some] at hC
      have HC := Lib.hid hC
      clear hC
      go_wp2_with fail
      refine HC.out.mono ?_
      rintro e w11 ⟨v, rfl, ⟨Ae, ne, ce, rfl, hare, hne, _⟩, hb11⟩
      dsimp only [ev, encE]
      have hbE : Below w11.heap.size w11 (w11.alloc (.cells #[.int .i64 x.1, .int .i64 x.2.1, .int .u32 x.2.2.1, .int .u32 x.2.2.2.1, .int .u32 x.2.2.2.2, .int .i64 1, .int .i64 m0.k, .int .u32 m0.f, .int .u32 m0.t, .int .u32 m0.s, .int .u32 m0.g, .int .i64 m0.r, .int .i64 m0.c, .bool m0.o, .slice Ae ne ce] 56)) := (Below.refl _ _).alloc (Nat.le_refl _) _
      have hkE := Blk.new w11 56 #[.int .i64 x.1, .int .i64 x.2.1, .int .u32 x.2.2.1, .int .u32 x.2.2.2.1, .int .u32 x.2.2.2.2, .int .i64 1, .int .i64 m0.k, .int .u32 m0.f, .int .u32 m0.t, .int .u32 m0.s, .int .u32 m0.g, .int .i64 m0.r, .int .i64 m0.c, .bool m0.o, .slice Ae ne ce]
      have HK12 := Lib.hid ((HK10.out.next hb11).next hbE)
      have HT12 := Lib.hid ((HT10.out.next hb11).next hbE)
      have HB12 := Lib.hid ((HB10.out.trans (hb11.mono HB10.out.size)).trans (hbE.mono (HB10.out.trans (hb11.mono HB10.out.size)).size))
      have HAE := Lib.hid (hare.next hbE)
      clear hare hb11 hbE HK10 HT10 HB10 HC x0 x1 x2 x3 x4
      go_upto_region 17 with fail
      generalize w11.heap.size = E at *
      generalize w11.alloc (.cells #[.int .i64 x.1, .int .i64 x.2.1, .int .u32 x.2.2.1, .int .u32 x.2.2.2.1, .int .u32 x.2.2.2.2, .int .i64 1, .int .i64 m0.k, .int .u32 m0.f, .int .u32 m0.t, .int .u32 m0.s, .int .u32 m0.g, .int .i64 m0.r, .int .i64 m0.c, .bool m0.o, .slice Ae ne ce] 56) = w12 at *
      have ea5 : w12.cell? ⟨E, 5, none⟩ = some (.int .i64 1) := hkE.cell 5
      have ea6 : w12.cell? ⟨E, 6, none⟩ = some (.int .i64 m0.k) := hkE.cell 6
      have ea7 : w12.cell? ⟨E, 7, none⟩ = some (.int .u32 m0.f) := hkE.cell 7
      have ea8 : w12.cell? ⟨E, 8, none⟩ = some (.int .u32 m0.t) := hkE.cell 8
      have ea9 : w12.cell? ⟨E, 9, none⟩ = some (.int .u32 m0.s) := hkE.cell 9
      have ea10 : w12.cell? ⟨E, 10, none⟩ = some (.int .u32 m0.g) := hkE.cell 10
      have ea11 : w12.cell? ⟨E, 11, none⟩ = some (.int .i64 m0.r) := hkE.cell 11
      have ea12 : w12.cell? ⟨E, 12, none⟩ = some (.int .i64 m0.c) := hkE.cell 12
      have ea13 : w12.cell? ⟨E, 13, none⟩ = some (.bool m0.o) := hkE.cell 13
      have ea14 : w12.cell? ⟨E, 14, none⟩ = some (.slice Ae ne ce) := hkE.cell 14
      have ma0 : w12.cell? ⟨w.heap.size, 0, none⟩ = some (.int .i64 m0.k) := HK12.out.a.cell 0
      have ma1 : w12.cell? ⟨w.heap.size, 1, none⟩ = some (.int .u32 m0.f) := HK12.out.a.cell 1
      have ma2 : w12.cell? ⟨w.heap.size, 2, none⟩ = some (.int .u32 m0.t) := HK12.out.a.cell 2
      have ma3 : w12.cell? ⟨w.heap.size, 3, none⟩ = some (.int .u32 m0.s) := HK12.out.a.cell 3
      have ma4 : w12.cell? ⟨w.heap.size, 4, none⟩ = some (.int .u32 m0.g) := HK12.out.a.cell 4
      have ma5 : w12.cell? ⟨w.heap.size, 5, none⟩ = some (.int .i64 m0.r) := HK12.out.a.cell 5
      have ma6 : w12.cell? ⟨w.heap.size, 6, none⟩ = some (.int .i64 m0.c) := HK12.out.a.cell 6
      have ma7 : w12.cell? ⟨w.heap.size, 7, none⟩ = some (.bool m0.o) := HK12.out.a.cell 7
      have ma8 : w12.cell? ⟨w.heap.size, 8, none⟩ = some (.slice A0 n0 c0) := HK12.out.a.cell 8
      have hSM := rsame_any m0 m0 Ae A0 ne ce n0 c0 w12 HAE.out (H0.out.next HB12.out) (by omega) (by omega)
      rw [sameB_self] at hSM
      unfold mv at hSM
      have HSM := Lib.hid hSM
      clear hSM hkE
      go_wp2_with fail
      refine HSM.out.mono ?_
      rintro e w13 ⟨rfl, hb13⟩
      have HK13 := Lib.hid (HK12.out.next hb13)
      have HT13 := Lib.hid (HT12.out.next hb13)
      have HB13 := Lib.hid (HB12.out.trans (hb13.mono HB12.out.size))
      clear hb13 HSM HAE HK12 HT12 HB12 ea5 ea6 ea7 ea8 ea9 ea10 ea11 ea12 ea13 ea14 ma0 ma1 ma2 ma3 ma4 ma5 ma6 ma7 ma8
      have y0 : w13.cell? ⟨w.heap.size + 1 + 1 + 1, 0, none⟩ = some (.int .i64 y.1) := HK13.out.y.cell 0
      have y1 : w13.cell? ⟨w.heap.size + 1 + 1 + 1, 1, none⟩ = some (.int .i64 y.2.1) := HK13.out.y.cell 1
      have y2 : w13.cell? ⟨w.heap.size + 1 + 1 + 1, 2, none⟩ = some (.int .u32 y.2.2.1) := HK13.out.y.cell 2
      have y3 : w13.cell? ⟨w.heap.size + 1 + 1 + 1, 3, none⟩ = some (.int .u32 y.2.2.2.1) := HK13.out.y.cell 3
      have y4 : w13.cell? ⟨w.heap.size + 1 + 1 + 1, 4, none⟩ = some (.int .u32 y.2.2.2.2) := HK13.out.y.cell 4
      have nb0 : w13.cell? ⟨w.heap.size + 1, 0, none⟩ = some (.int .i64 m1.k) := HK13.out.b.cell 0
      have nb1 : w13.cell? ⟨w.heap.size + 1, 1, none⟩ = some (.int .u32 m1.f) := HK13.out.b.cell 1
      have nb2 : w13.cell? ⟨w.heap.size + 1, 2, none⟩ = some (.int .u32 m1.t) := HK13.out.b.cell 2
      have nb3 : w13.cell? ⟨w.heap.size + 1, 3, none⟩ = some (.int .u32 m1.s) := HK13.out.b.cell 3
      have nb4 : w13.cell? ⟨w.heap.size + 1, 4, none⟩ = some (.int .u32 m1.g) := HK13.out.b.cell 4
      have nb5 : w13.cell? ⟨w.heap.size + 1, 5, none⟩ = some (.int .i64 m1.r) := HK13.out.b.cell 5
      have nb6 : w13.cell? ⟨w.heap.size + 1, 6, none⟩ = some (.int .i64 m1.c) := HK13.out.b.cell 6
      have nb7 : w13.cell? ⟨w.heap.size + 1, 7, none⟩ = some (.bool m1.o) := HK13.out.b.cell 7
      have nb8 : w13.cell? ⟨w.heap.size + 1, 8, none⟩ = some (.slice A1 n1 c1) := HK13.out.b.cell 8
      have hC := hear_p w13 N mb _ y m1 A1 n1 c1 HT13.out HY.out (by simp) (H1.out.next HB13.out) (by omega)
      unfold tv mv at hC
      have HC := Lib.hid hC
      clear hC
      go_wp2_with fail
      refine HC.out.mono ?_
      rintro e w14 ⟨rfl, mb2, ht, hc, hm2⟩
      have HK14 := Lib.hid (HK13.out.chg HT13.out hc (by omega))
      have HB14 := Lib.hid (HB13.out.trans (hc.below HB13.out.size (by omega) (fun q hq => HMB.out q hq)))
      have HT14 := Lib.hid ht
      clear ht hc hm2 HK13 HT13 HB13 HC y0 y1 y2 y3 y4 nb0 nb1 nb2 nb3 nb4 nb5 nb6 nb7 nb8
      have x0 : w14.cell? ⟨w.heap.size + 1 + 1, 0, none⟩ = some (.int .i64 x.1) := HK14.out.x.cell 0
      have x1 : w14.cell? ⟨w.heap.size + 1 + 1, 1, none⟩ = some (.int .i64 x.2.1) := HK14.out.x.cell 1
      have x2 : w14.cell? ⟨w.heap.size + 1 + 1, 2, none⟩ = some (.int .u32 x.2.2.1) := HK14.out.x.cell 2
      have x3 : w14.cell? ⟨w.heap.size + 1 + 1, 3, none⟩ = some (.int .u32 x.2.2.2.1) := HK14.out.x.cell 3
      have x4 : w14.cell? ⟨w.heap.size + 1 + 1, 4, none⟩ = some (.int .u32 x.2.2.2.2) := HK14.out.x.cell 4
      by_cases hxy : x = y
      · subst hxy
        have hM : putP [⟨x, 1, m0⟩] ⟨x, 0, m1⟩ = [⟨x, 0, m1⟩] := by unfold putP findP; simp
        rw [hM] at HT14
        have hC := get_p w14 N mb2 _ x HT14.out HX.out
        rw [show findP [⟨x, 0, m1⟩] x = some ⟨x, 0, m1⟩ by unfold findP; simp] at hC
        unfold tv at hC
        dsimp only [Option.isSome_some, Option.getD_some] at hC
        have HC := Lib.hid hC
        clear hC hM
        go_wp2_with fail
        refine HC.out.mono ?_
        rintro e w15 ⟨v, rfl, ⟨Af, nf, cf, rfl, harf, hnf, _⟩, hb15⟩
        dsimp only [ev, encE]
        have hbE : Below w15.heap.size w15 (w15.alloc (.cells #[.int .i64 x.1, .int .i64 x.2.1, .int .u32 x.2.2.1, .int .u32 x.2.2.2.1, .int .u32 x.2.2.2.2, .int .i64 0, .int .i64 m1.k, .int .u32 m1.f, .int .u32 m1.t, .int .u32 m1.s, .int .u32 m1.g, .int .i64 m1.r, .int .i64 m1.c, .bool m1.o, .slice Af nf cf] 56)) := (Below.refl _ _).alloc (Nat.le_refl _) _
        have hkE := Blk.new w15 56 #[.int .i64 x.1, .int .i64 x.2.1, .int .u32 x.2.2.1, .int .u32 x.2.2.2.1, .int .u32 x.2.2.2.2, .int .i64 0, .int .i64 m1.k, .int .u32 m1.f, .int .u32 m1.t, .int .u32 m1.s, .int .u32 m1.g, .int .i64 m1.r, .int .i64 m1.c, .bool m1.o, .slice Af nf cf]
        have HK16 := Lib.hid ((HK14.out.next hb15).next hbE)
        have HT16 := Lib.hid ((HT14.out.next hb15).next hbE)
        have HB16 := Lib.hid ((HB14.out.trans (hb15.mono HB14.out.size)).trans (hbE.mono (HB14.out.trans (hb15.mono HB14.out.size)).size))
        have HAF := Lib.hid (harf.next hbE)
        clear harf hb15 hbE HK14 HT14 HB14 HC x0 x1 x2 x3 x4
        go_upto_region 20 with fail
        generalize w15.heap.size = E2 at *
        generalize w15.alloc (.cells #[.int .i64 x.1, .int .i64 x.2.1, .int .u32 x.2.2.1, .int .u32 x.2.2.2.1, .int .u32 x.2.2.2.2, .int .i64 0, .int .i64 m1.k, .int .u32 m1.f, .int .u32 m1.t, .int .u32 m1.s, .int .u32 m1.g, .int .i64 m1.r, .int .i64 m1.c, .bool m1.o, .slice Af nf cf] 56) = w16 at *
        have x0 : w16.cell? ⟨w.heap.size + 1 + 1, 0, none⟩ = some (.int .i64 x.1) := HK16.out.x.cell 0
        have x1 : w16.cell? ⟨w.heap.size + 1 + 1, 1, none⟩ = some (.int .i64 x.2.1) := HK16.out.x.cell 1
        have x2 : w16.cell? ⟨w.heap.size + 1 + 1, 2, none⟩ = some (.int .u32 x.2.2.1) := HK16.out.x.cell 2
        have x3 : w16.cell? ⟨w.heap.size + 1 + 1, 3, none⟩ = some (.int .u32 x.2.2.2.1) := HK16.out.x.cell 3
        have x4 : w16.cell? ⟨w.heap.size + 1 + 1, 4, none⟩ = some (.int .u32 x.2.2.2.2) := HK16.out.x.cell 4
        have y0 : w16.cell? ⟨w.heap.size + 1 + 1 + 1, 0, none⟩ = some (.int .i64 x.1) := HK16.out.y.cell 0
        have y1 : w16.cell? ⟨w.heap.size + 1 + 1 + 1, 1, none⟩ = some (.int .i64 x.2.1) := HK16.out.y.cell 1
        have y2 : w16.cell? ⟨w.heap.size + 1 + 1 + 1, 2, none⟩ = some (.int .u32 x.2.2.1) := HK16.out.y.cell 2
        have y3 : w16.cell? ⟨w.heap.size + 1 + 1 + 1, 3, none⟩ = some (.int .u32 x.2.2.2.1) := HK16.out.y.cell 3
        have y4 : w16.cell? ⟨w.heap.size + 1 + 1 + 1, 4, none⟩ = some (.int .u32 x.2.2.2.2) := HK16.out.y.cell 4
        have s0 : (x.1 == x.1) = true := by simp
        have s1 : (x.2.1 == x.2.1) = true := by simp
        have s2 : (x.2.2.1 == x.2.2.1) = true := by simp
        have hKY := key_any x.2.2.2.1 x.2.2.2.2 x.2.2.2.1 x.2.2.2.2 w16
        rw [show decide (x.2.2.2.1 = x.2.2.2.1 ∧ x.2.2.2.2 = x.2.2.2.2) = true by simp] at hKY
        have HKY := Lib.hid hKY
        have HKE := Lib.hid hkE
        clear hKY hkE
        go_wp2_with fail
        refine HKY.out.mono ?_
        rintro e w17 ⟨rfl, hb17⟩
        have HK17 := Lib.hid (HK16.out.next hb17)
        have HT17 := Lib.hid (HT16.out.next hb17)
        have HB17 := Lib.hid (HB16.out.trans (hb17.mono HB16.out.size))
        have HAF17 := Lib.hid (HAF.out.next hb17)
        have hkE := HKE.out.next hb17
        clear hb17 HKY HKE HAF HK16 HT16 HB16 x0 x1 x2 x3 x4 y0 y1 y2 y3 y4 s0 s1 s2
        have eb5 : w17.cell? ⟨E2, 5, none⟩ = some (.int .i64 0) := hkE.cell 5
        have eb6 : w17.cell? ⟨E2, 6, none⟩ = some (.int .i64 m1.k) := hkE.cell 6
        have eb7 : w17.cell? ⟨E2, 7, none⟩ = some (.int .u32 m1.f) := hkE.cell 7
        have eb8 : w17.cell? ⟨E2, 8, none⟩ = some (.int .u32 m1.t) := hkE.cell 8
        have eb9 : w17.cell? ⟨E2, 9, none⟩ = some (.int .u32 m1.s) := hkE.cell 9
        have eb10 : w17.cell? ⟨E2, 10, none⟩ = some (.int .u32 m1.g) := hkE.cell 10
        have eb11 : w17.cell? ⟨E2, 11, none⟩ = some (.int .i64 m1.r) := hkE.cell 11
        have eb12 : w17.cell? ⟨E2, 12, none⟩ = some (.int .i64 m1.c) := hkE.cell 12
        have eb13 : w17.cell? ⟨E2, 13, none⟩ = some (.bool m1.o) := hkE.cell 13
        have eb14 : w17.cell? ⟨E2, 14, none⟩ = some (.slice Af nf cf) := hkE.cell 14
        have nb0 : w17.cell? ⟨w.heap.size + 1, 0, none⟩ = some (.int .i64 m1.k) := HK17.out.b.cell 0
        have nb1 : w17.cell? ⟨w.heap.size + 1, 1, none⟩ = some (.int .u32 m1.f) := HK17.out.b.cell 1
        have nb2 : w17.cell? ⟨w.heap.size + 1, 2, none⟩ = some (.int .u32 m1.t) := HK17.out.b.cell 2
        have nb3 : w17.cell? ⟨w.heap.size + 1, 3, none⟩ = some (.int .u32 m1.s) := HK17.out.b.cell 3
        have nb4 : w17.cell? ⟨w.heap.size + 1, 4, none⟩ = some (.int .u32 m1.g) := HK17.out.b.cell 4
        have nb5 : w17.cell? ⟨w.heap.size + 1, 5, none⟩ = some (.int .i64 m1.r) := HK17.out.b.cell 5
        have nb6 : w17.cell? ⟨w.heap.size + 1, 6, none⟩ = some (.int .i64 m1.c) := HK17.out.b.cell 6
        have nb7 : w17.cell? ⟨w.heap.size + 1, 7, none⟩ = some (.bool m1.o) := HK17.out.b.cell 7
        have nb8 : w17.cell? ⟨w.heap.size + 1, 8, none⟩ = some (.slice A1 n1 c1) := HK17.out.b.cell 8
        have hL := len_p w17 N mb2 _ HT17.out
        dsimp only [List.length_cons, List.length_nil] at hL
        have HL := Lib.hid hL
        have hSM := rsame_any m1 m1 Af A1 nf cf n1 c1 w17 HAF17.out (H1.out.next HB17.out) (by omega) (by omega)
        rw [sameB_self] at hSM
        unfold mv at hSM
        have HSM := Lib.hid hSM
        clear hSM hL hkE
        go_wp2_with fail
        refine HL.out.mono ?_
        rintro e w' ⟨rfl, rfl⟩
        go_wp2_with fail
        refine HSM.out.mono ?_
        rintro e w18 ⟨rfl, hb18⟩
        go_wp2
        go_ret
        exact ⟨rfl, HB17.out.trans (hb18.mono HB17.out.size)⟩
      · have hM : putP [⟨x, 1, m0⟩] ⟨y, 0, m1⟩ = [⟨x, 1, m0⟩, ⟨y, 0, m1⟩] := by unfold putP findP; simp [hxy]
        rw [hM] at HT14
        have hC := get_p w14 N mb2 _ x HT14.out HX.out
        rw [show findP [⟨x, 1, m0⟩, ⟨y, 0, m1⟩] x = some ⟨x, 1, m0⟩ by unfold findP; simp] at hC
        unfold tv at hC
        dsimp only [Option.isSome_some, Option.getD_some] at hC
        have HC := Lib.hid hC
        clear hC hM
        go_wp2_with fail
        refine HC.out.mono ?_
        rintro e w15 ⟨v, rfl, ⟨Af, nf, cf, rfl, harf, hnf, _⟩, hb15⟩
        dsimp only [ev, encE]
        have hbE : Below w15.heap.size w15 (w15.alloc (.cells #[.int .i64 x.1, .int .i64 x.2.1, .int .u32 x.2.2.1, .int .u32 x.2.2.2.1, .int .u32 x.2.2.2.2, .int .i64 1, .int .i64 m0.k, .int .u32 m0.f, .int .u32 m0.t, .int .u32 m0.s, .int .u32 m0.g, .int .i64 m0.r, .int .i64 m0.c, .bool m0.o, .slice Af nf cf] 56)) := (Below.refl _ _).alloc (Nat.le_refl _) _
        have hkE := Blk.new w15 56 #[.int .i64 x.1, .int .i64 x.2.1, .int .u32 x.2.2.1, .int .u32 x.2.2.2.1, .int .u32 x.2.2.2.2, .int .i64 1, .int .i64 m0.k, .int .u32 m0.f, .int .u32 m0.t, .int .u32 m0.s, .int .u32 m0.g, .int .i64 m0.r, .int .i64 m0.c, .bool m0.o, .slice Af nf cf]
        have HK16 := Lib.hid ((HK14.out.next hb15).next hbE)
        have HT16 := Lib.hid ((HT14.out.next hb15).next hbE)
        have HB16 := Lib.hid ((HB14.out.trans (hb15.mono HB14.out.size)).trans (hbE.mono (HB14.out.trans (hb15.mono HB14.out.size)).size))
        have HAF := Lib.hid (harf.next hbE)
        clear harf hb15 hbE HK14 HT14 HB14 HC x0 x1 x2 x3 x4
        go_upto_region 20 with fail
        generalize w15.heap.size = E2 at *
        generalize w15.alloc (.cells #[.int .i64 x.1, .int .i64 x.2.1, .int .u32 x.2.2.1, .int .u32 x.2.2.2.1, .int .u32 x.2.2.2.2, .int .i64 1, .int .i64 m0.k, .int .u32 m0.f, .int .u32 m0.t, .int .u32 m0.s, .int .u32 m0.g, .int .i64 m0.r, .int .i64 m0.c, .bool m0.o, .slice Af nf cf] 56) = w16 at *
        have x0 : w16.cell? ⟨w.heap.size + 1 + 1, 0, none⟩ = some (.int .i64 x.1) := HK16.out.x.cell 0
        have x1 : w16.cell? ⟨w.heap.size + 1 + 1, 1, none⟩ = some (.int .i64 x.2.1) := HK16.out.x.cell 1
        have x2 : w16.cell? ⟨w.heap.size + 1 + 1, 2, none⟩ = some (.int .u32 x.2.2.1) := HK16.out.x.cell 2
        have x3 : w16.cell? ⟨w.heap.size + 1 + 1, 3, none⟩ = some (.int .u32 x.2.2.2.1) := HK16.out.x.cell 3
        have x4 : w16.cell? ⟨w.heap.size + 1 + 1, 4, none⟩ = some (.int .u32 x.2.2.2.2) := HK16.out.x.cell 4
        have y0 : w16.cell? ⟨w.heap.size + 1 + 1 + 1, 0, none⟩ = some (.int .i64 y.1) := HK16.out.y.cell 0
        have y1 : w16.cell? ⟨w.heap.size + 1 + 1 + 1, 1, none⟩ = some (.int .i64 y.2.1) := HK16.out.y.cell 1
        have y2 : w16.cell? ⟨w.heap.size + 1 + 1 + 1, 2, none⟩ = some (.int .u32 y.2.2.1) := HK16.out.y.cell 2
        have y3 : w16.cell? ⟨w.heap.size + 1 + 1 + 1, 3, none⟩ = some (.int .u32 y.2.2.2.1) := HK16.out.y.cell 3
        have y4 : w16.cell? ⟨w.heap.size + 1 + 1 + 1, 4, none⟩ = some (.int .u32 y.2.2.2.2) := HK16.out.y.cell 4
        obtain ⟨B0, s0⟩ : ∃ B, (x.1 == y.1) = B := ⟨_, rfl⟩
        obtain ⟨B1, s1⟩ : ∃ B, (x.2.1 == y.2.1) = B := ⟨_, rfl⟩
        obtain ⟨B2, s2⟩ : ∃ B, (x.2.2.1 == y.2.2.1) = B := ⟨_, rfl⟩
        obtain ⟨B3, s3⟩ : ∃ B, decide (x.2.2.2.1 = y.2.2.2.1 ∧ x.2.2.2.2 = y.2.2.2.2) = B := ⟨_, rfl⟩
        have hone : Hid ((B0 && (B1 && (B2 && B3))) = false) := Lib.hid (by
          rw [← s0, ← s1, ← s2, ← s3, Bool.eq_false_iff]
          intro h
          simp only [Bool.and_eq_true, beq_iff_eq, decide_eq_true_eq] at h
          exact hxy (Prod.ext h.1 (Prod.ext h.2.1 (Prod.ext h.2.2.1 (Prod.ext h.2.2.2.1 h.2.2.2.2)))))
        have hKY := key_any x.2.2.2.1 x.2.2.2.2 y.2.2.2.1 y.2.2.2.2 w16
        rw [s3] at hKY
        have HKY := Lib.hid hKY
        have HKE := Lib.hid hkE
        have HXY := Lib.hid hxy
        clear hKY hkE s3 hxy
        go_cut [17] from 86 to 111 (fun s17 wc => s17 = .bool false ∧ Hid (Below w16.heap.size w16 wc))
        case first =>
          cases B0
          · go_wp2_with fail
            go_meet
            case rel => exact ⟨rfl, Lib.hid (Below.refl _ _)⟩
          · cases B1
            · go_wp2_with fail
              go_meet
              case rel => exact ⟨rfl, Lib.hid (Below.refl _ _)⟩
            · cases B2
              · go_wp2_with fail
                go_meet
                case rel => exact ⟨rfl, Lib.hid (Below.refl _ _)⟩
              · obtain rfl : B3 = false := by simpa using hone.out
                go_wp2_with fail
                refine HKY.out.mono ?_
                rintro e w17 ⟨rfl, hb17⟩
                have HB17 := Lib.hid hb17
                clear hb17
                go_wp2_with fail
                go_meet
                case rel => exact ⟨rfl, HB17⟩
        case rest s17v wc =>
          obtain ⟨rfl, HP⟩ := hcut
          clear s0 s1 s2 hone HKY x0 x1 x2 x3 x4 y0 y1 y2 y3 y4
          have HK17 := Lib.hid (HK16.out.next HP.out)
          have HT17 := Lib.hid (HT16.out.next HP.out)
          have HB17 := Lib.hid (HB16.out.trans (HP.out.mono HB16.out.size))
          have HAF17 := Lib.hid (HAF.out.next HP.out)
          have HKE17 := Lib.hid (HKE.out.next HP.out)
          clear HP HK16 HT16 HB16 HAF HKE
          obtain ⟨V1, v1⟩ : ∃ V, decide (ordT x y < 0) = V := ⟨_, rfl⟩
          obtain ⟨V2, v2⟩ : ∃ V, decide (ordT y x < 0) = V := ⟨_, rfl⟩
          have hv : (V1 != V2) = true := by rw [← v1, ← v2]; exact less_apart HXY.out
          go_wp2_with fail
          have hl2 : ((([⟨x, 1, m0⟩, ⟨y, 0, m1⟩] : List En).length : Nat) : Int) = 2 := rfl
          have GL : ∀ p : Snc wc, Calls Try.prog 9 #[.pointer (some ⟨N, 0, none⟩)] p.W fun e w' => e = .returned (.int .i64 2) ∧ ∃ Q : Snc wc, w' = Q.W := fun p => by
            have := len_p p.W N mb2 _ (HT17.out.next p.b)
            rw [hl2] at this
            exact Calls.since_same this
          have GS : ∀ p : Snc wc, Calls Try.prog 23 #[.agg #[.int .i64 m0.k, .int .u32 m0.f, .int .u32 m0.t, .int .u32 m0.s, .int .u32 m0.g, .int .i64 m0.r, .int .i64 m0.c, .bool m0.o, .slice Af nf cf], .agg #[.int .i64 m0.k, .int .u32 m0.f, .int .u32 m0.t, .int .u32 m0.s, .int .u32 m0.g, .int .i64 m0.r, .int .i64 m0.c, .bool m0.o, .slice A0 n0 c0]] p.W fun e w' => e = .returned (.bool true) ∧ ∃ Q : Snc wc, w' = Q.W := fun p => by
            have := rsame_any m0 m0 Af A0 nf cf n0 c0 p.W (HAF17.out.next p.b) (H0.out.next (HB17.out.trans (p.b.mono HB17.out.size))) (by omega) (by omega)
            rw [sameB_self] at this
            unfold mv at this
            exact Calls.since this
          have G1 : ∀ p : Snc wc, Calls Try.prog 15 #[.agg #[.int .i64 x.1, .int .i64 x.2.1, .int .u32 x.2.2.1, .int .u32 x.2.2.2.1, .int .u32 x.2.2.2.2], .agg #[.int .i64 y.1, .int .i64 y.2.1, .int .u32 y.2.2.1, .int .u32 y.2.2.2.1, .int .u32 y.2.2.2.2]] p.W fun e w' => e = .returned (.bool V1) ∧ ∃ Q : Snc wc, w' = Q.W := fun p => by
            have := less_any x y p.W
            rw [v1] at this
            unfold tv at this
            exact Calls.since this
          have G2 : ∀ p : Snc wc, Calls Try.prog 15 #[.agg #[.int .i64 y.1, .int .i64 y.2.1, .int .u32 y.2.2.1, .int .u32 y.2.2.2.1, .int .u32 y.2.2.2.2], .agg #[.int .i64 x.1, .int .i64 x.2.1, .int .u32 x.2.2.1, .int .u32 x.2.2.2.1, .int .u32 x.2.2.2.2]] p.W fun e w' => e = .returned (.bool V2) ∧ ∃ Q : Snc wc, w' = Q.W := fun p => by
            have := less_any y x p.W
            rw [v2] at this
            unfold tv at this
            exact Calls.since this
          have x0 : ∀ p : Snc wc, p.W.cell? ⟨w.heap.size + 1 + 1, 0, none⟩ = some (.int .i64 x.1) := fun p => ((HK17.out.next p.b).x).cell 0
          have x1 : ∀ p : Snc wc, p.W.cell? ⟨w.heap.size + 1 + 1, 1, none⟩ = some (.int .i64 x.2.1) := fun p => ((HK17.out.next p.b).x).cell 1
          have x2 : ∀ p : Snc wc, p.W.cell? ⟨w.heap.size + 1 + 1, 2, none⟩ = some (.int .u32 x.2.2.1) := fun p => ((HK17.out.next p.b).x).cell 2
          have x3 : ∀ p : Snc wc, p.W.cell? ⟨w.heap.size + 1 + 1, 3, none⟩ = some (.int .u32 x.2.2.2.1) := fun p => ((HK17.out.next p.b).x).cell 3
          have x4 : ∀ p : Snc wc, p.W.cell? ⟨w.heap.size + 1 + 1, 4, none⟩ = some (.int .u32 x.2.2.2.2) := fun p => ((HK17.out.next p.b).x).cell 4
          have y0 : ∀ p : Snc wc, p.W.cell? ⟨w.heap.size + 1 + 1 + 1, 0, none⟩ = some (.int .i64 y.1) := fun p => ((HK17.out.next p.b).y).cell 0
          have y1 : ∀ p : Snc wc, p.W.cell? ⟨w.heap.size + 1 + 1 + 1, 1, none⟩ = some (.int .i64 y.2.1) := fun p => ((HK17.out.next p.b).y).cell 1
          have y2 : ∀ p : Snc wc, p.W.cell? ⟨w.heap.size + 1 + 1 + 1, 2, none⟩ = some (.int .u32 y.2.2.1) := fun p => ((HK17.out.next p.b).y).cell 2
          have y3 : ∀ p : Snc wc, p.W.cell? ⟨w.heap.size + 1 + 1 + 1, 3, none⟩ = some (.int .u32 y.2.2.2.1) := fun p => ((HK17.out.next p.b).y).cell 3
          have y4 : ∀ p : Snc wc, p.W.cell? ⟨w.heap.size + 1 + 1 + 1, 4, none⟩ = some (.int .u32 y.2.2.2.2) := fun p => ((HK17.out.next p.b).y).cell 4
          have ma0 : ∀ p : Snc wc, p.W.cell? ⟨w.heap.size, 0, none⟩ = some (.int .i64 m0.k) := fun p => ((HK17.out.next p.b).a).cell 0
          have ma1 : ∀ p : Snc wc, p.W.cell? ⟨w.heap.size, 1, none⟩ = some (.int .u32 m0.f) := fun p => ((HK17.out.next p.b).a).cell 1
          have ma2 : ∀ p : Snc wc, p.W.cell? ⟨w.heap.size, 2, none⟩ = some (.int .u32 m0.t) := fun p => ((HK17.out.next p.b).a).cell 2
          have ma3 : ∀ p : Snc wc, p.W.cell? ⟨w.heap.size, 3, none⟩ = some (.int .u32 m0.s) := fun p => ((HK17.out.next p.b).a).cell 3
          have ma4 : ∀ p : Snc wc, p.W.cell? ⟨w.heap.size, 4, none⟩ = some (.int .u32 m0.g) := fun p => ((HK17.out.next p.b).a).cell 4
          have ma5 : ∀ p : Snc wc, p.W.cell? ⟨w.heap.size, 5, none⟩ = some (.int .i64 m0.r) := fun p => ((HK17.out.next p.b).a).cell 5
          have ma6 : ∀ p : Snc wc, p.W.cell? ⟨w.heap.size, 6, none⟩ = some (.int .i64 m0.c) := fun p => ((HK17.out.next p.b).a).cell 6
          have ma7 : ∀ p : Snc wc, p.W.cell? ⟨w.heap.size, 7, none⟩ = some (.bool m0.o) := fun p => ((HK17.out.next p.b).a).cell 7
          have ma8 : ∀ p : Snc wc, p.W.cell? ⟨w.heap.size, 8, none⟩ = some (.slice A0 n0 c0) := fun p => ((HK17.out.next p.b).a).cell 8
          have eb5 : ∀ p : Snc wc, p.W.cell? ⟨E2, 5, none⟩ = some (.int .i64 1) := fun p => (HKE17.out.next p.b).cell 5
          have eb6 : ∀ p : Snc wc, p.W.cell? ⟨E2, 6, none⟩ = some (.int .i64 m0.k) := fun p => (HKE17.out.next p.b).cell 6
          have eb7 : ∀ p : Snc wc, p.W.cell? ⟨E2, 7, none⟩ = some (.int .u32 m0.f) := fun p => (HKE17.out.next p.b).cell 7
          have eb8 : ∀ p : Snc wc, p.W.cell? ⟨E2, 8, none⟩ = some (.int .u32 m0.t) := fun p => (HKE17.out.next p.b).cell 8
          have eb9 : ∀ p : Snc wc, p.W.cell? ⟨E2, 9, none⟩ = some (.int .u32 m0.s) := fun p => (HKE17.out.next p.b).cell 9
          have eb10 : ∀ p : Snc wc, p.W.cell? ⟨E2, 10, none⟩ = some (.int .u32 m0.g) := fun p => (HKE17.out.next p.b).cell 10
          have eb11 : ∀ p : Snc wc, p.W.cell? ⟨E2, 11, none⟩ = some (.int .i64 m0.r) := fun p => (HKE17.out.next p.b).cell 11
          have eb12 : ∀ p : Snc wc, p.W.cell? ⟨E2, 12, none⟩ = some (.int .i64 m0.c) := fun p => (HKE17.out.next p.b).cell 12
          have eb13 : ∀ p : Snc wc, p.W.cell? ⟨E2, 13, none⟩ = some (.bool m0.o) := fun p => (HKE17.out.next p.b).cell 13
          have eb14 : ∀ p : Snc wc, p.W.cell? ⟨E2, 14, none⟩ = some (.slice Af nf cf) := fun p => (HKE17.out.next p.b).cell 14
          have HBW := Lib.hid HB17.out
          clear v1 v2 hl2 HXY HB17 HT17 HAF17 HK17 HKE17
          cases V1 <;> cases V2
          case false.false => cases hv
          case true.true => cases hv
          all_goals
            refine wp_region_since (by kernel_rfl) (by kernel_rfl) ?_
            repeat (go_big_quiet_step (first | (go_at_call 9; with_reducible exact GL _) | (go_at_call 23; with_reducible exact GS _) | (go_at_call 15; first | (with_reducible exact G1 _) | (with_reducible exact G2 _))))
            refine wpQuiet_nil ?_
            rintro w5 ⟨P5, rfl⟩
            have HP5 := Lib.hid (HBW.out.trans (P5.b.mono HBW.out.size))
            clear x0 x1 x2 x3 x4 y0 y1 y2 y3 y4 ma0 ma1 ma2 ma3 ma4 ma5 ma6 ma7 ma8 eb5 eb6 eb7 eb8 eb9 eb10 eb11 eb12 eb13 eb14 GL GS G1 G2 hv
            go_wp2_with fail
            go_ret
            exact ⟨rfl, HP5.out⟩
end Go.Proofs.Ytnnppoamdllebaa

