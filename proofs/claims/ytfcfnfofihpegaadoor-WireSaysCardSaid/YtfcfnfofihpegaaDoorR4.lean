/- Contract of the document's own ReadMsg, over the seat's program: kinds 4. -/
import Derived.Test.YtfcfnfofihpegaaDoorR3
import Derived.Deep.RegionLaw
import Derived.Test.YtfcfnfofihpegaaDoorAppB
namespace Go.Proofs.YtfcfnfofihpegaaDoor
open Go.RowKit Sm
def SL (w : World) (M : Nat) (cv : Value → Array Value) (xs : List Int) (wr : World) (j : Nat) : Prop :=
  ∃ A c, Blk wr M 28 (cv (.slice A j c)) ∧ wr.ownsRow (M + 1) 23 1 (.slice A j c) j (A32 (ras xs 14 j)) ∧ Blk wr w.heap.size 28 #[.int .i64 0, .int .u32 0, .int .u32 0, .int .u32 0, .int .u32 0, .int .i64 0, .int .i64 0, .bool false, .slice none 0 0] ∧ Below w.heap.size w wr
theorem ob_ne {w : World} {base N n : Nat} {e : TypeId} {v : Value} {ys : List Value} (h : w.ownsRow base e 1 v n ys) (hN : N < base) : v.ownBlock ≠ some N := by
  rcases own_ne h hN with h | h
  · rw [h]; simp
  · exact h
set_option maxRecDepth 100000 in
set_option maxHeartbeats 8000000 in
theorem rrd_short4 (A : Option Addr) (n c : Nat) (xs : List Int) (w : World) (h : BR w A n xs) (hn : n ≤ 1048576) (_hcap : n ≤ c) (ho : oc (tot xs) = 65535) (h1 : xs.getD 1 0 = 0) (hk : rkind xs = 4) (h4 : 4 ≤ n) (hs : n < 14) :
    Calls Tryd.prog 19 #[.slice A n c] w fun e w' => e = .returned (.tuple #[mv mz none 0 0, .int .i64 (101)]) ∧ Below w.heap.size w w' := by
  have hi : ¬ (n : Int) < 4 := by omega
  have hB0 : Below w.heap.size w (w.alloc (.cells #[.int .i64 0, .int .u32 0, .int .u32 0, .int .u32 0, .int .u32 0, .int .i64 0, .int .i64 0, .bool false, .slice none 0 0] 28)) := (Below.refl _ _).alloc (Nat.le_refl _) _
  have hR0 := Blk.new w 28 #[.int .i64 0, .int .u32 0, .int .u32 0, .int .u32 0, .int .u32 0, .int .i64 0, .int .i64 0, .bool false, .slice none 0 0]
  have HS := rsum_any A n c xs _ (h.next hB0) hn
  have hd : (sum xs != 0) = false := by rw [sum_zero]; simp [ho]
  obtain ⟨b, o, rfl, hlt, hcell⟩ := h.2.2 (by omega)
  have h0v : xs.getD 0 0 = 36 := by unfold rkind at hk; omega
  have y0 := keepc (hcell 0 (by omega)) hB0
  rw [Nat.add_zero, h0v] at y0
  have y1 := keepc (hcell 1 (by omega)) hB0
  rw [h1] at y1
  have hi0 : (0 : Int) < (n : Int) := by omega
  have hi1 : (1 : Int) < (n : Int) := by omega
  have hs1 : (n : Int) < 14 := by omega
  have HB0 := Lib.hid hB0
  have HR0 := Lib.hid hR0
  unfold mv mz
  generalize sum xs = S at *
  clear h hn _hcap ho hB0 hR0 hcell h1 hk h0v h4
  go_enter Tryd.func19, Tryd.ntmps19
  go_wp2_with fail
  refine HS.mono ?_
  rintro e w1 ⟨rfl, hb⟩
  have hr := HR0.out.next hb
  have HB1 := Lib.hid (below_next HB0.out hb)
  have hRl := hr.lt
  have y0 := keepc y0 hb
  have y1 := keepc y1 hb
  have q1 : w.heap.size ≠ w1.heap.size := by omega
  have q1' := q1.symm
  have q2 : b ≠ w1.heap.size := by omega
  have q2' := q2.symm
  have q3 : b < w1.heap.size := by omega
  have t0 : w1.cell? ⟨w.heap.size, 0, none⟩ = _ := hr.cell 0
  have t1 : w1.cell? ⟨w.heap.size, 1, none⟩ = _ := hr.cell 1
  have t2 : w1.cell? ⟨w.heap.size, 2, none⟩ = _ := hr.cell 2
  have t3 : w1.cell? ⟨w.heap.size, 3, none⟩ = _ := hr.cell 3
  have t4 : w1.cell? ⟨w.heap.size, 4, none⟩ = _ := hr.cell 4
  have t5 : w1.cell? ⟨w.heap.size, 5, none⟩ = _ := hr.cell 5
  have t6 : w1.cell? ⟨w.heap.size, 6, none⟩ = _ := hr.cell 6
  have t7 : w1.cell? ⟨w.heap.size, 7, none⟩ = _ := hr.cell 7
  have t8 : w1.cell? ⟨w.heap.size, 8, none⟩ = _ := hr.cell 8
  have g0 : w1.frozen? ⟨w.heap.size, 0, none⟩ = false := hr.frozen 0
  have g1 : w1.frozen? ⟨w.heap.size, 1, none⟩ = false := hr.frozen 1
  have g2 : w1.frozen? ⟨w.heap.size, 2, none⟩ = false := hr.frozen 2
  have g3 : w1.frozen? ⟨w.heap.size, 3, none⟩ = false := hr.frozen 3
  have g4 : w1.frozen? ⟨w.heap.size, 4, none⟩ = false := hr.frozen 4
  have g5 : w1.frozen? ⟨w.heap.size, 5, none⟩ = false := hr.frozen 5
  have g6 : w1.frozen? ⟨w.heap.size, 6, none⟩ = false := hr.frozen 6
  have g7 : w1.frozen? ⟨w.heap.size, 7, none⟩ = false := hr.frozen 7
  have g8 : w1.frozen? ⟨w.heap.size, 8, none⟩ = false := hr.frozen 8
  clear hb hr
  go_wp2_with (go_at_call 44; refine (size_any 4 14 _ (by simp)).mono ?_; rintro e wa ⟨rfl, rfl⟩)
  refine bodyPost_ret (v := .tuple #[.agg #[.int .i64 0, .int .u32 0, .int .u32 0, .int .u32 0, .int .u32 0, .int .i64 0, .int .i64 0, .bool false, .slice none 0 0], .int .i64 101]) (by simp [results, Tryd.results19, go_sem, t0, t1, t2, t3, t4, t5, t6, t7, t8, hRl]) rfl ⟨rfl, ?_⟩
  have hbf := nine (P := fun W => Below w.heap.size w W) (fun W hW i u => hW.setCell (Nat.le_refl _) u) HB1.out
  exact (hbf _ _ _ _ _ _ _ _ _).alloc (hbf _ _ _ _ _ _ _ _ _).size _
set_option maxRecDepth 100000 in
set_option maxHeartbeats 8000000 in
theorem rrd_few4 (A : Option Addr) (n c : Nat) (xs : List Int) (w : World) (h : BR w A n xs) (hn : n ≤ 1048576) (_hcap : n ≤ c) (ho : oc (tot xs) = 65535) (h1 : xs.getD 1 0 = 0) (hk : rkind xs = 4) (h4 : 14 ≤ n) (hs : (n : Int) < 14 + 4 * xs.getD 13 0) :
    Calls Tryd.prog 19 #[.slice A n c] w fun e w' => e = .returned (.tuple #[mv mz none 0 0, .int .i64 (101)]) ∧ Below w.heap.size w w' := by
  have hi : ¬ (n : Int) < 4 := by omega
  have hB0 : Below w.heap.size w (w.alloc (.cells #[.int .i64 0, .int .u32 0, .int .u32 0, .int .u32 0, .int .u32 0, .int .i64 0, .int .i64 0, .bool false, .slice none 0 0] 28)) := (Below.refl _ _).alloc (Nat.le_refl _) _
  have hR0 := Blk.new w 28 #[.int .i64 0, .int .u32 0, .int .u32 0, .int .u32 0, .int .u32 0, .int .i64 0, .int .i64 0, .bool false, .slice none 0 0]
  have HS := rsum_any A n c xs _ (h.next hB0) hn
  have hd : (sum xs != 0) = false := by rw [sum_zero]; simp [ho]
  obtain ⟨b, o, rfl, hlt, hcell⟩ := h.2.2 (by omega)
  have h0v : xs.getD 0 0 = 36 := by unfold rkind at hk; omega
  have y0 := keepc (hcell 0 (by omega)) hB0
  rw [Nat.add_zero, h0v] at y0
  have y1 := keepc (hcell 1 (by omega)) hB0
  rw [h1] at y1
  have y13 := keepc (hcell 13 (by omega)) hB0
  have hi13 : (13 : Int) < (n : Int) := by omega
  have B13 := h.isB.at_ 13
  have hi0 : (0 : Int) < (n : Int) := by omega
  have hi1 : (1 : Int) < (n : Int) := by omega
  have hq0 : 0 ≤ xs.getD 13 0 := B13.1
  have hs0 : ¬ (n : Int) < 14 := by omega
  have hs1 : (n : Int) < 14 + 4 * xs.getD 13 0 := hs
  have HB0 := Lib.hid hB0
  have HR0 := Lib.hid hR0
  unfold mv mz
  generalize sum xs = S at *
  generalize xs.getD 13 0 = v13 at *
  clear h hn _hcap ho hB0 hR0 hcell h1 hk h0v h4 hs
  go_enter Tryd.func19, Tryd.ntmps19
  go_wp2_with fail
  refine HS.mono ?_
  rintro e w1 ⟨rfl, hb⟩
  have hr := HR0.out.next hb
  have HB1 := Lib.hid (below_next HB0.out hb)
  have hRl := hr.lt
  have y0 := keepc y0 hb
  have y1 := keepc y1 hb
  have y13 := keepc y13 hb
  have q1 : w.heap.size ≠ w1.heap.size := by omega
  have q1' := q1.symm
  have q2 : b ≠ w1.heap.size := by omega
  have q2' := q2.symm
  have q3 : b < w1.heap.size := by omega
  have t0 : w1.cell? ⟨w.heap.size, 0, none⟩ = _ := hr.cell 0
  have t1 : w1.cell? ⟨w.heap.size, 1, none⟩ = _ := hr.cell 1
  have t2 : w1.cell? ⟨w.heap.size, 2, none⟩ = _ := hr.cell 2
  have t3 : w1.cell? ⟨w.heap.size, 3, none⟩ = _ := hr.cell 3
  have t4 : w1.cell? ⟨w.heap.size, 4, none⟩ = _ := hr.cell 4
  have t5 : w1.cell? ⟨w.heap.size, 5, none⟩ = _ := hr.cell 5
  have t6 : w1.cell? ⟨w.heap.size, 6, none⟩ = _ := hr.cell 6
  have t7 : w1.cell? ⟨w.heap.size, 7, none⟩ = _ := hr.cell 7
  have t8 : w1.cell? ⟨w.heap.size, 8, none⟩ = _ := hr.cell 8
  have g0 : w1.frozen? ⟨w.heap.size, 0, none⟩ = false := hr.frozen 0
  have g1 : w1.frozen? ⟨w.heap.size, 1, none⟩ = false := hr.frozen 1
  have g2 : w1.frozen? ⟨w.heap.size, 2, none⟩ = false := hr.frozen 2
  have g3 : w1.frozen? ⟨w.heap.size, 3, none⟩ = false := hr.frozen 3
  have g4 : w1.frozen? ⟨w.heap.size, 4, none⟩ = false := hr.frozen 4
  have g5 : w1.frozen? ⟨w.heap.size, 5, none⟩ = false := hr.frozen 5
  have g6 : w1.frozen? ⟨w.heap.size, 6, none⟩ = false := hr.frozen 6
  have g7 : w1.frozen? ⟨w.heap.size, 7, none⟩ = false := hr.frozen 7
  have g8 : w1.frozen? ⟨w.heap.size, 8, none⟩ = false := hr.frozen 8
  clear hb hr
  go_wp2_with (go_at_call 44; refine (size_any 4 14 _ (by simp)).mono ?_; rintro e wa ⟨rfl, rfl⟩)
  refine bodyPost_ret (v := .tuple #[.agg #[.int .i64 0, .int .u32 0, .int .u32 0, .int .u32 0, .int .u32 0, .int .i64 0, .int .i64 0, .bool false, .slice none 0 0], .int .i64 101]) (by simp [results, Tryd.results19, go_sem, t0, t1, t2, t3, t4, t5, t6, t7, t8, hRl]) rfl ⟨rfl, ?_⟩
  have hbf := nine (P := fun W => Below w.heap.size w W) (fun W hW i u => hW.setCell (Nat.le_refl _) u) HB1.out
  exact (hbf _ _ _ _ _ _ _ _ _).alloc (hbf _ _ _ _ _ _ _ _ _).size _
set_option maxRecDepth 100000 in
set_option maxHeartbeats 8000000 in
theorem rrd_long4 (A : Option Addr) (n c : Nat) (xs : List Int) (w : World) (h : BR w A n xs) (hn : n ≤ 1048576) (_hcap : n ≤ c) (ho : oc (tot xs) = 65535) (h1 : xs.getD 1 0 = 0) (hk : rkind xs = 4) (h4 : 14 ≤ n) (hs : 14 + 4 * xs.getD 13 0 < (n : Int)) :
    Calls Tryd.prog 19 #[.slice A n c] w fun e w' => e = .returned (.tuple #[mv mz none 0 0, .int .i64 (102)]) ∧ Below w.heap.size w w' := by
  have hi : ¬ (n : Int) < 4 := by omega
  have hB0 : Below w.heap.size w (w.alloc (.cells #[.int .i64 0, .int .u32 0, .int .u32 0, .int .u32 0, .int .u32 0, .int .i64 0, .int .i64 0, .bool false, .slice none 0 0] 28)) := (Below.refl _ _).alloc (Nat.le_refl _) _
  have hR0 := Blk.new w 28 #[.int .i64 0, .int .u32 0, .int .u32 0, .int .u32 0, .int .u32 0, .int .i64 0, .int .i64 0, .bool false, .slice none 0 0]
  have HS := rsum_any A n c xs _ (h.next hB0) hn
  have hd : (sum xs != 0) = false := by rw [sum_zero]; simp [ho]
  obtain ⟨b, o, rfl, hlt, hcell⟩ := h.2.2 (by omega)
  have h0v : xs.getD 0 0 = 36 := by unfold rkind at hk; omega
  have y0 := keepc (hcell 0 (by omega)) hB0
  rw [Nat.add_zero, h0v] at y0
  have y1 := keepc (hcell 1 (by omega)) hB0
  rw [h1] at y1
  have y13 := keepc (hcell 13 (by omega)) hB0
  have hi13 : (13 : Int) < (n : Int) := by omega
  have B13 := h.isB.at_ 13
  have hi0 : (0 : Int) < (n : Int) := by omega
  have hi1 : (1 : Int) < (n : Int) := by omega
  have hq0 : 0 ≤ xs.getD 13 0 := B13.1
  have hs0 : ¬ (n : Int) < 14 := by omega
  have hs1 : 14 + 4 * xs.getD 13 0 < (n : Int) := hs
  have hs2 : ¬ (n : Int) < 14 + 4 * xs.getD 13 0 := by omega
  have HB0 := Lib.hid hB0
  have HR0 := Lib.hid hR0
  unfold mv mz
  generalize sum xs = S at *
  generalize xs.getD 13 0 = v13 at *
  clear h hn _hcap ho hB0 hR0 hcell h1 hk h0v h4 hs
  go_enter Tryd.func19, Tryd.ntmps19
  go_wp2_with fail
  refine HS.mono ?_
  rintro e w1 ⟨rfl, hb⟩
  have hr := HR0.out.next hb
  have HB1 := Lib.hid (below_next HB0.out hb)
  have hRl := hr.lt
  have y0 := keepc y0 hb
  have y1 := keepc y1 hb
  have y13 := keepc y13 hb
  have q1 : w.heap.size ≠ w1.heap.size := by omega
  have q1' := q1.symm
  have q2 : b ≠ w1.heap.size := by omega
  have q2' := q2.symm
  have q3 : b < w1.heap.size := by omega
  have t0 : w1.cell? ⟨w.heap.size, 0, none⟩ = _ := hr.cell 0
  have t1 : w1.cell? ⟨w.heap.size, 1, none⟩ = _ := hr.cell 1
  have t2 : w1.cell? ⟨w.heap.size, 2, none⟩ = _ := hr.cell 2
  have t3 : w1.cell? ⟨w.heap.size, 3, none⟩ = _ := hr.cell 3
  have t4 : w1.cell? ⟨w.heap.size, 4, none⟩ = _ := hr.cell 4
  have t5 : w1.cell? ⟨w.heap.size, 5, none⟩ = _ := hr.cell 5
  have t6 : w1.cell? ⟨w.heap.size, 6, none⟩ = _ := hr.cell 6
  have t7 : w1.cell? ⟨w.heap.size, 7, none⟩ = _ := hr.cell 7
  have t8 : w1.cell? ⟨w.heap.size, 8, none⟩ = _ := hr.cell 8
  have g0 : w1.frozen? ⟨w.heap.size, 0, none⟩ = false := hr.frozen 0
  have g1 : w1.frozen? ⟨w.heap.size, 1, none⟩ = false := hr.frozen 1
  have g2 : w1.frozen? ⟨w.heap.size, 2, none⟩ = false := hr.frozen 2
  have g3 : w1.frozen? ⟨w.heap.size, 3, none⟩ = false := hr.frozen 3
  have g4 : w1.frozen? ⟨w.heap.size, 4, none⟩ = false := hr.frozen 4
  have g5 : w1.frozen? ⟨w.heap.size, 5, none⟩ = false := hr.frozen 5
  have g6 : w1.frozen? ⟨w.heap.size, 6, none⟩ = false := hr.frozen 6
  have g7 : w1.frozen? ⟨w.heap.size, 7, none⟩ = false := hr.frozen 7
  have g8 : w1.frozen? ⟨w.heap.size, 8, none⟩ = false := hr.frozen 8
  clear hb hr
  go_wp2_with (go_at_call 44; refine (size_any 4 14 _ (by simp)).mono ?_; rintro e wa ⟨rfl, rfl⟩)
  refine bodyPost_ret (v := .tuple #[.agg #[.int .i64 0, .int .u32 0, .int .u32 0, .int .u32 0, .int .u32 0, .int .i64 0, .int .i64 0, .bool false, .slice none 0 0], .int .i64 102]) (by simp [results, Tryd.results19, go_sem, t0, t1, t2, t3, t4, t5, t6, t7, t8, hRl]) rfl ⟨rfl, ?_⟩
  have hbf := nine (P := fun W => Below w.heap.size w W) (fun W hW i u => hW.setCell (Nat.le_refl _) u) HB1.out
  exact (hbf _ _ _ _ _ _ _ _ _).alloc (hbf _ _ _ _ _ _ _ _ _).size _
set_option maxRecDepth 100000 in
set_option maxHeartbeats 8000000 in
theorem rrd_odd4 (A : Option Addr) (n c : Nat) (xs : List Int) (w : World) (h : BR w A n xs) (hn : n ≤ 1048576) (_hcap : n ≤ c) (ho : oc (tot xs) = 65535) (h1 : xs.getD 1 0 = 0) (hk : rkind xs = 4) (h4 : 14 ≤ n) (hs : (n : Int) = 14 + 4 * xs.getD 13 0) (h12 : 1 < xs.getD 12 0) :
    Calls Tryd.prog 19 #[.slice A n c] w fun e w' => e = .returned (.tuple #[mv mz none 0 0, .int .i64 (102)]) ∧ Below w.heap.size w w' := by
  have hi : ¬ (n : Int) < 4 := by omega
  have hB0 : Below w.heap.size w (w.alloc (.cells #[.int .i64 0, .int .u32 0, .int .u32 0, .int .u32 0, .int .u32 0, .int .i64 0, .int .i64 0, .bool false, .slice none 0 0] 28)) := (Below.refl _ _).alloc (Nat.le_refl _) _
  have hR0 := Blk.new w 28 #[.int .i64 0, .int .u32 0, .int .u32 0, .int .u32 0, .int .u32 0, .int .i64 0, .int .i64 0, .bool false, .slice none 0 0]
  have HS := rsum_any A n c xs _ (h.next hB0) hn
  have hd : (sum xs != 0) = false := by rw [sum_zero]; simp [ho]
  obtain ⟨b, o, rfl, hlt, hcell⟩ := h.2.2 (by omega)
  have h0v : xs.getD 0 0 = 36 := by unfold rkind at hk; omega
  have y0 := keepc (hcell 0 (by omega)) hB0
  rw [Nat.add_zero, h0v] at y0
  have y1 := keepc (hcell 1 (by omega)) hB0
  rw [h1] at y1
  have y12 := keepc (hcell 12 (by omega)) hB0
  have hi12 : (12 : Int) < (n : Int) := by omega
  have B12 := h.isB.at_ 12
  have y13 := keepc (hcell 13 (by omega)) hB0
  have hi13 : (13 : Int) < (n : Int) := by omega
  have B13 := h.isB.at_ 13
  have hi0 : (0 : Int) < (n : Int) := by omega
  have hi1 : (1 : Int) < (n : Int) := by omega
  have hq0 : 0 ≤ xs.getD 13 0 := B13.1
  have hs0 : ¬ (n : Int) < 14 := by omega
  have hs2 : ¬ (n : Int) < 14 + 4 * xs.getD 13 0 := by omega
  have hs3 : ¬ 14 + 4 * xs.getD 13 0 < (n : Int) := by omega
  have hd12 : decide (1 < xs.getD 12 0) = true := by simpa using h12
  have HB0 := Lib.hid hB0
  have HR0 := Lib.hid hR0
  unfold mv mz
  generalize sum xs = S at *
  generalize xs.getD 12 0 = v12 at *
  generalize xs.getD 13 0 = v13 at *
  clear h hn _hcap ho hB0 hR0 hcell h1 hk h0v h4 hs h12
  go_enter Tryd.func19, Tryd.ntmps19
  go_wp2_with fail
  refine HS.mono ?_
  rintro e w1 ⟨rfl, hb⟩
  have hr := HR0.out.next hb
  have HB1 := Lib.hid (below_next HB0.out hb)
  have hRl := hr.lt
  have y0 := keepc y0 hb
  have y1 := keepc y1 hb
  have y12 := keepc y12 hb
  have y13 := keepc y13 hb
  have q1 : w.heap.size ≠ w1.heap.size := by omega
  have q1' := q1.symm
  have q2 : b ≠ w1.heap.size := by omega
  have q2' := q2.symm
  have q3 : b < w1.heap.size := by omega
  have t0 : w1.cell? ⟨w.heap.size, 0, none⟩ = _ := hr.cell 0
  have t1 : w1.cell? ⟨w.heap.size, 1, none⟩ = _ := hr.cell 1
  have t2 : w1.cell? ⟨w.heap.size, 2, none⟩ = _ := hr.cell 2
  have t3 : w1.cell? ⟨w.heap.size, 3, none⟩ = _ := hr.cell 3
  have t4 : w1.cell? ⟨w.heap.size, 4, none⟩ = _ := hr.cell 4
  have t5 : w1.cell? ⟨w.heap.size, 5, none⟩ = _ := hr.cell 5
  have t6 : w1.cell? ⟨w.heap.size, 6, none⟩ = _ := hr.cell 6
  have t7 : w1.cell? ⟨w.heap.size, 7, none⟩ = _ := hr.cell 7
  have t8 : w1.cell? ⟨w.heap.size, 8, none⟩ = _ := hr.cell 8
  have g0 : w1.frozen? ⟨w.heap.size, 0, none⟩ = false := hr.frozen 0
  have g1 : w1.frozen? ⟨w.heap.size, 1, none⟩ = false := hr.frozen 1
  have g2 : w1.frozen? ⟨w.heap.size, 2, none⟩ = false := hr.frozen 2
  have g3 : w1.frozen? ⟨w.heap.size, 3, none⟩ = false := hr.frozen 3
  have g4 : w1.frozen? ⟨w.heap.size, 4, none⟩ = false := hr.frozen 4
  have g5 : w1.frozen? ⟨w.heap.size, 5, none⟩ = false := hr.frozen 5
  have g6 : w1.frozen? ⟨w.heap.size, 6, none⟩ = false := hr.frozen 6
  have g7 : w1.frozen? ⟨w.heap.size, 7, none⟩ = false := hr.frozen 7
  have g8 : w1.frozen? ⟨w.heap.size, 8, none⟩ = false := hr.frozen 8
  clear hb hr
  go_wp2_with (go_at_call 44; refine (size_any 4 14 _ (by simp)).mono ?_; rintro e wa ⟨rfl, rfl⟩)
  refine bodyPost_ret (v := .tuple #[.agg #[.int .i64 0, .int .u32 0, .int .u32 0, .int .u32 0, .int .u32 0, .int .i64 0, .int .i64 0, .bool false, .slice none 0 0], .int .i64 102]) (by simp [results, Tryd.results19, go_sem, t0, t1, t2, t3, t4, t5, t6, t7, t8, hRl]) rfl ⟨rfl, ?_⟩
  have hbf := nine (P := fun W => Below w.heap.size w W) (fun W hW i u => hW.setCell (Nat.le_refl _) u) HB1.out
  exact (hbf _ _ _ _ _ _ _ _ _).alloc (hbf _ _ _ _ _ _ _ _ _).size _
set_option maxRecDepth 100000 in
set_option maxHeartbeats 8000000 in
theorem rrd_ok4 (A : Option Addr) (n c : Nat) (xs : List Int) (w : World) (h : BR w A n xs) (hn : n ≤ 1048576) (_hcap : n ≤ c) (_h4 : 4 ≤ n) (ho : oc (tot xs) = 65535) (h1 : xs.getD 1 0 = 0) (hk : rkind xs = 4) (hsz : n = 14 + 4 * (xs.getD 13 0).toNat) (h12 : xs.getD 12 0 ≤ 1) (hrc : mrc xs = mcode (mrd xs)) :
    Calls Tryd.prog 19 #[.slice A n c] w (rreadOf xs w) := by
  have hi : ¬ (n : Int) < 4 := by omega
  have hB0 : Below w.heap.size w (w.alloc (.cells #[.int .i64 0, .int .u32 0, .int .u32 0, .int .u32 0, .int .u32 0, .int .i64 0, .int .i64 0, .bool false, .slice none 0 0] 28)) := (Below.refl _ _).alloc (Nat.le_refl _) _
  have hR0 := Blk.new w 28 #[.int .i64 0, .int .u32 0, .int .u32 0, .int .u32 0, .int .u32 0, .int .i64 0, .int .i64 0, .bool false, .slice none 0 0]
  have HS := rsum_any A n c xs _ (h.next hB0) hn
  have hd : (sum xs != 0) = false := by rw [sum_zero]; simp [ho]
  obtain ⟨b, o, rfl, hlt, hcell⟩ := h.2.2 (by omega)
  have h0v : xs.getD 0 0 = 36 := by unfold rkind at hk; omega
  have y0 := keepc (hcell 0 (by omega)) hB0
  rw [Nat.add_zero, h0v] at y0
  have y1 := keepc (hcell 1 (by omega)) hB0
  rw [h1] at y1
  have y12 := keepc (hcell 12 (by omega)) hB0
  have hi12 : (12 : Int) < (n : Int) := by omega
  have B12 := h.isB.at_ 12
  have y13 := keepc (hcell 13 (by omega)) hB0
  have hi13 : (13 : Int) < (n : Int) := by omega
  have B13 := h.isB.at_ 13
  have hi0 : (0 : Int) < (n : Int) := by omega
  have hi1 : (1 : Int) < (n : Int) := by omega
  have hmw := mrd_wf h.isB
  have hmr : mrd xs = ⟨4, ra xs 4, 0, 0, ra xs 8, 0, 0, decide (xs.getD 12 0 = 1), ras xs 14 (xs.getD 13 0).toNat⟩ := by unfold mrd; rw [hk]; rfl
  obtain ⟨Q, hQ⟩ : ∃ Q : Nat, xs.getD 13 0 = Q := ⟨(xs.getD 13 0).toNat, by omega⟩
  rw [hQ, Int.toNat_natCast] at hsz hmr
  rw [hQ] at y13 B13
  have hIB := h.isB
  have hsv : ∀ A' c' W, AR W A' Q (ras xs 14 Q) → Calls Tryd.prog 10 #[mv (mrd xs) A' Q c'] W fun e w' => e = .returned (.int .i64 (mcode (mrd xs))) ∧ Below W.heap.size W w' := fun A' c' W ha => rvalid_any (mrd xs) A' Q c' W hmw (by rw [hmr]; exact ras_len xs Q 14)
  have d12 : (xs.getD 12 0 == 1) = decide (xs.getD 12 0 = 1) := by rw [Bool.eq_iff_iff]; simp
  have e12 : decide (1 < xs.getD 12 0) = false := decide_eq_false (by omega)
  have hm : ∃ m : Ms, mrd xs = m ∧ m = ⟨4, ra xs 4, 0, 0, ra xs 8, 0, 0, decide (xs.getD 12 0 = 1), ras xs 14 Q⟩ := ⟨_, rfl, hmr⟩
  obtain ⟨m, hm1, hm2⟩ := hm
  rw [hm1] at hsv hrc
  have HM1 := Lib.hid hm1
  have HM2 := Lib.hid hm2
  have HRC := Lib.hid hrc
  generalize hcd : mcode m = cd at *
  have HCD := Lib.hid hcd
  rw [hm2] at hsv
  have HBR := Lib.hid (fun W (hW : Below w.heap.size w W) => h.next hW)
  have HSV := Lib.hid hsv
  have HAT := Lib.hid (fun j K W (hW : Below w.heap.size w W) (hK : K = ((14 + 4 * j : Nat) : Int)) (hj : 14 + 4 * j + 4 ≤ n) => at_at (some ⟨b, o, none⟩) n c xs W K (14 + 4 * j) hK (h.next hW) hj hn)
  have z12 := hcell 12 (by omega)
  generalize hv12 : xs.getD 12 0 = v12 at *
  generalize hY : decide (v12 = 1) = Y at *
  have HIB := Lib.hid hIB
  have HQ := Lib.hid hQ
  clear hIB hQ hv12 hY h12
  have HN := Lib.hid hn
  have HB0 := Lib.hid hB0
  have HR0 := Lib.hid hR0
  generalize sum xs = S at *
  have hs1 : (n : Int) = 14 + 4 * (Q : Int) := by omega
  clear h _hcap ho hB0 hR0 hcell h1 hk h0v _h4 hmw hmr hm1 hm2 hcd hrc hsv
  subst hsz
  clear hs1
  unfold mv at HSV
  go_enter Tryd.func19, Tryd.ntmps19
  go_wp2_with fail
  refine HS.mono ?_
  rintro e w1 ⟨rfl, hb⟩
  have hr := HR0.out.next hb
  have HB1 := Lib.hid (below_next HB0.out hb)
  have hRl := hr.lt
  have y0 := keepc y0 hb
  have y1 := keepc y1 hb
  have y12 := keepc y12 hb
  have y13 := keepc y13 hb
  have q1 : w.heap.size ≠ w1.heap.size := by omega
  have q1' := q1.symm
  have q2 : b ≠ w1.heap.size := by omega
  have q2' := q2.symm
  have q3 : b < w1.heap.size := by omega
  go_wp2_with (go_at_call 44; refine (size_any 4 14 _ (by simp)).mono ?_; rintro e wa ⟨rfl, rfl⟩)
  have hm2 := Blk.new w1 28 #[.int .i64 4, .int .u32 0, .int .u32 0, .int .u32 0, .int .u32 0, .int .i64 0, .int .i64 0, .bool false, .slice none 0 0]
  have hr2 := hr.alloc (.cells #[.int .i64 4, .int .u32 0, .int .u32 0, .int .u32 0, .int .u32 0, .int .i64 0, .int .i64 0, .bool false, .slice none 0 0] 28)
  have hb2 := HB1.out.alloc HB1.out.size (.cells #[.int .i64 4, .int .u32 0, .int .u32 0, .int .u32 0, .int .u32 0, .int .i64 0, .int .i64 0, .bool false, .slice none 0 0] 28)
  have hMw := HB1.out.size
  generalize hM0 : w1.heap.size = M at *
  generalize w1.alloc (.cells #[.int .i64 4, .int .u32 0, .int .u32 0, .int .u32 0, .int .u32 0, .int .i64 0, .int .i64 0, .bool false, .slice none 0 0] 28) = W2 at *
  have HM := Lib.hid hm2
  have HR := Lib.hid hr2
  have HB := Lib.hid hb2
  clear hm2 hr2 hb2 hb hr y0 y1 q1 q1' q2 q2' q3 HB1 HS y12 y13 hM0
  refine (at_at _ (14 + 4 * Q) c xs _ 4 4 rfl (HBR.out _ HB.out) (by omega) HN.out).mono ?_
  rintro e w3 ⟨rfl, hb⟩
  have hm := HM.out.next hb
  have hr := HR.out.next hb
  have hbb := below_next HB.out hb
  clear hb HM HR HB
  have f1 : w3.frozen? ⟨M, 1, none⟩ = false := hm.frozen 1
  have x1 : w3.cell? ⟨M, 1, none⟩ = some (.int .u32 0) := hm.cell 1
  have x0 : w3.cell? ⟨M, 0, none⟩ = some (.int .i64 4) := hm.cell 0
  have HM := Lib.hid ((hm).set_to (cs' := #[.int .i64 4, .int .u32 (ra xs 4), .int .u32 0, .int .u32 0, .int .u32 0, .int .i64 0, .int .i64 0, .bool false, .slice none 0 0]) 1 (.int .u32 (ra xs 4)) rfl)
  have HR := Lib.hid ((hr).far (p := ⟨M, 1, none⟩) (Nat.ne_of_lt hRl) (.int .u32 (ra xs 4)))
  have HB := Lib.hid ((hbb).setCell (show w.heap.size ≤ (⟨M, 1, none⟩ : Addr).block from hMw) (.int .u32 (ra xs 4)))
  clear hm hr hbb
  go_wp2_with fail
  clear f1 x1 x0
  generalize (w3.setCell ⟨M, 1, none⟩ (.int .u32 (ra xs 4))) = V3 at *
  refine (at_at _ (14 + 4 * Q) c xs _ 8 8 rfl (HBR.out _ HB.out) (by omega) HN.out).mono ?_
  rintro e w4 ⟨rfl, hb⟩
  have hm := HM.out.next hb
  have hr := HR.out.next hb
  have hbb := below_next HB.out hb
  clear hb HM HR HB
  have f4 : w4.frozen? ⟨M, 4, none⟩ = false := hm.frozen 4
  have x4 : w4.cell? ⟨M, 4, none⟩ = some (.int .u32 0) := hm.cell 4
  have f7 : w4.frozen? ⟨M, 7, none⟩ = false := hm.frozen 7
  have x7 : w4.cell? ⟨M, 7, none⟩ = some (.bool false) := hm.cell 7
  have y12 := keepc z12 hbb
  have hbM : b ≠ M := by omega
  have hbM' := hbM.symm
  have ix12 : (12 : Int) < ((14 + 4 * Q : Nat) : Int) := by omega
  have HM := Lib.hid ((((hm).set_to (cs' := #[.int .i64 4, .int .u32 (ra xs 4), .int .u32 0, .int .u32 0, .int .u32 (ra xs 8), .int .i64 0, .int .i64 0, .bool false, .slice none 0 0]) 4 (.int .u32 (ra xs 8)) rfl)).set_to (cs' := #[.int .i64 4, .int .u32 (ra xs 4), .int .u32 0, .int .u32 0, .int .u32 (ra xs 8), .int .i64 0, .int .i64 0, .bool Y, .slice none 0 0]) 7 (.bool Y) rfl)
  have HR := Lib.hid ((((hr).far (p := ⟨M, 4, none⟩) (Nat.ne_of_lt hRl) (.int .u32 (ra xs 8)))).far (p := ⟨M, 7, none⟩) (Nat.ne_of_lt hRl) (.bool Y))
  have HB := Lib.hid ((((hbb).setCell (show w.heap.size ≤ (⟨M, 4, none⟩ : Addr).block from hMw) (.int .u32 (ra xs 8)))).setCell (show w.heap.size ≤ (⟨M, 7, none⟩ : Addr).block from hMw) (.bool Y))
  clear hm hr hbb
  skip
  go_wp2_with fail
  clear f4 x4 f7 x7 y12
  have HSL : Hid (SL w M (fun v => #[.int .i64 4, .int .u32 (ra xs 4), .int .u32 0, .int .u32 0, .int .u32 (ra xs 8), .int .i64 0, .int .i64 0, .bool Y, v]) xs _ 0) := Lib.hid ⟨none, 0, HM.out, World.ownsRow_nil _ _ _ _, HR.out, HB.out⟩
  clear HM HR HB z12 ix12
  obtain ⟨i0, hi', hz0, hz1, hz2⟩ := info_parts info_u32
  go_loopw [6] (fun i wr => ∃ j : Nat, j ≤ Q ∧ i = .int .i64 ((14 + 4 * j : Nat) : Int) ∧ SL w M (fun v => #[.int .i64 4, .int .u32 (ra xs 4), .int .u32 0, .int .u32 0, .int .u32 (ra xs 8), .int .i64 0, .int .i64 0, .bool Y, v]) xs wr j) (fun i _ => 14 + 4 * Q - (intOf i).toNat)
  case atStart => exact ⟨0, Nat.zero_le _, rfl, HSL.out⟩
  case round =>
    obtain ⟨j, hj, rfl, A5, c5, hM, hO, hR, hbw⟩ := hrel
    clear HSL
    rcases Nat.lt_or_ge j Q with hlt | hge
    · have hi0 : ((14 + 4 * j : Nat) : Int) < 14 + 4 * (Q : Int) := by omega
      have x8 := hM.cell 8
      replace x8 : wr.cell? ⟨M, 8, none⟩ = some (.slice A5 j c5) := x8
      have HSN := Lib.hid (ras_snoc xs j 14)
      have HMl := Lib.hid hM.lt
      have HM := Lib.hid hM
      have HO := Lib.hid hO
      have HR := Lib.hid hR
      have HBW := Lib.hid hbw
      clear hM hO hR hbw
      go_wp2_with fail
      go_region_law (first
        | (refine step_app _ (by rfl) _ _ _ (by rfl) (M + 1) 23 i0 (.int .u32 0) 1 4 Tryd.underlying26 hi' hz0 hz1 hz2 rfl (by decide) _ j _ (by rfl) ((own_next (own_drew HO.out) hba).alloc _) ⟨wa.heap.size, 0, none⟩ 1 1 [.int .u32 (ra xs (14 + 4 * j))] (by rfl) (by rfl) (cell_one_new _ _ _) (by intro x hx; simp at hx; subst hx; rfl) (by unfold maxLen; omega) (by omega) (by have := HMl.out; have := hba.size; simp at this ⊢; omega) ?_
           intro v6 w6 hown6 hgrow6
           obtain ⟨A6, c6, rfl⟩ := own_slicea hown6
           have hob := ob_ne ((own_next (own_drew HO.out) hba).alloc (.cells #[.int .u32 (ra xs (14 + 4 * j))] 23)) (Nat.lt_succ_self M)
           have hM6 := (((HM.out.drew).next hba).alloc (.cells #[.int .u32 (ra xs (14 + 4 * j))] 23)).only hgrow6 hob
           have x86 : w6.cell? ⟨M, 8, none⟩ = some (.slice A5 j c5) := hM6.cell 8
           have f86 : w6.frozen? ⟨M, 8, none⟩ = false := hM6.frozen 8)
        | (rw [if_pos (by rfl)]; go_simp; go_at_call 45; refine (HAT.out j _ _ HBW.out.drew (by omega) (by omega)).mono ?_; rintro e wa ⟨rfl, hba⟩; have HMz : M < wa.heap.size := Nat.lt_of_lt_of_le HMl.out (by have := hba.size; simpa using this); have x8a := keepc (w := wr.drew) x8 hba; have x8b : (wa.alloc (.cells #[.int .u32 (ra xs (14 + 4 * j))] 23)).cell? ⟨M, 8, none⟩ = some (.slice A5 j c5) := by (rw [World.cell?_alloc_lt _ _ _ HMz]; exact x8a)))
      all_goals
        have hoa := (own_next (own_drew HO.out) hba).alloc (.cells #[.int .u32 (ra xs (14 + 4 * j))] 23)
        have hgr := own_grown hoa hgrow6 (by have := HMl.out; have := hba.size; simp at this ⊢; omega)
        have hba' := below_next HBW.out.drew hba
        have hB6 := (hba'.alloc hba'.size (.cells #[.int .u32 (ra xs (14 + 4 * j))] 23)).trans (hgr.mono (by omega))
        have hR6 := (((HR.out.drew).next hba).alloc (.cells #[.int .u32 (ra xs (14 + 4 * j))] 23)).only hgrow6 (ob_ne hoa (by omega))
        have hO6 : w6.ownsRow (M + 1) 23 1 (.slice A6 (j + 1) c6) (j + 1) (A32 (ras xs 14 (j + 1))) := by rw [HSN.out, A32_app]; exact hown6
        have HM6 := Lib.hid hM6
        have HR6 := Lib.hid hR6
        have HO6 := Lib.hid hO6
        have HB6 := Lib.hid hB6
        clear hoa hgr hba' hB6 hR6 hO6 hM6 hown6 hgrow6 hob HM HO HR HBW hba x8 x86 f86
        go_wp2
        go_roundw
        case rel => first | exact ⟨j + 1, by omega, ival (by omega), A6, c6, HM6.out.set_to 8 _ rfl, ownsRow_setCell_other HO6.out (a := ⟨M, 8, none⟩) (ob_ne HO6.out (Nat.lt_succ_self M)) _, HR6.out.far (p := ⟨M, 8, none⟩) (Nat.ne_of_lt (by simp; omega)) _, HB6.out.setCell (show w.heap.size ≤ (⟨M, 8, none⟩ : Addr).block from hMw) _⟩ | ((repeat apply Exists.intro); exact ⟨⟨j + 1, by omega, ival (by omega), A6, c6, HM6.out.set_to 8 _ rfl, ownsRow_setCell_other HO6.out (a := ⟨M, 8, none⟩) (ob_ne HO6.out (Nat.lt_succ_self M)) _, HR6.out.far (p := ⟨M, 8, none⟩) (Nat.ne_of_lt (by simp; omega)) _, HB6.out.setCell (show w.heap.size ≤ (⟨M, 8, none⟩ : Addr).block from hMw) _⟩, rfl⟩)
        case measure => simp [intOf]; omega
    · obtain rfl : j = Q := by omega
      have x0 : wr.cell? ⟨M, 0, none⟩ = some (.int .i64 4) := hM.cell 0
      have x1 : wr.cell? ⟨M, 1, none⟩ = some (.int .u32 (ra xs 4)) := hM.cell 1
      have x2 : wr.cell? ⟨M, 2, none⟩ = some (.int .u32 0) := hM.cell 2
      have x3 : wr.cell? ⟨M, 3, none⟩ = some (.int .u32 0) := hM.cell 3
      have x4 : wr.cell? ⟨M, 4, none⟩ = some (.int .u32 (ra xs 8)) := hM.cell 4
      have x5 : wr.cell? ⟨M, 5, none⟩ = some (.int .i64 0) := hM.cell 5
      have x6 : wr.cell? ⟨M, 6, none⟩ = some (.int .i64 0) := hM.cell 6
      have x7 : wr.cell? ⟨M, 7, none⟩ = some (.bool Y) := hM.cell 7
      have x8 : wr.cell? ⟨M, 8, none⟩ = some (.slice A5 j c5) := hM.cell 8
      have ha := (own_ar hO (ras_b HIB.out _ _)).1
      have HAB : Hid (∀ b o, A5 = some ⟨b, o, none⟩ → M + 1 ≤ b) := Lib.hid (fun b o e => by subst e; exact (hO.lt b rfl).1)
      have HA := Lib.hid ha
      have HM := Lib.hid hM
      have HR := Lib.hid hR
      have HB := Lib.hid hbw
      clear hM hO hR hbw ha
      go_wp2_with fail
      refine (HSV.out _ _ _ HA.out).mono ?_
      rintro e w9 ⟨rfl, hb⟩
      clear x0 x1 x2 x3 x4 x5 x6 x7 x8
      have HA9 := Lib.hid (HA.out.next hb)
      have hm := HM.out.next hb
      have hr := HR.out.next hb
      have HB9 := Lib.hid (below_next HB.out hb)
      clear hb
      have t0 : w9.cell? ⟨w.heap.size, 0, none⟩ = _ := hr.cell 0
      have t1 : w9.cell? ⟨w.heap.size, 1, none⟩ = _ := hr.cell 1
      have t2 : w9.cell? ⟨w.heap.size, 2, none⟩ = _ := hr.cell 2
      have t3 : w9.cell? ⟨w.heap.size, 3, none⟩ = _ := hr.cell 3
      have t4 : w9.cell? ⟨w.heap.size, 4, none⟩ = _ := hr.cell 4
      have t5 : w9.cell? ⟨w.heap.size, 5, none⟩ = _ := hr.cell 5
      have t6 : w9.cell? ⟨w.heap.size, 6, none⟩ = _ := hr.cell 6
      have t7 : w9.cell? ⟨w.heap.size, 7, none⟩ = _ := hr.cell 7
      have t8 : w9.cell? ⟨w.heap.size, 8, none⟩ = _ := hr.cell 8
      have g0 : w9.frozen? ⟨w.heap.size, 0, none⟩ = false := hr.frozen 0
      have g1 : w9.frozen? ⟨w.heap.size, 1, none⟩ = false := hr.frozen 1
      have g2 : w9.frozen? ⟨w.heap.size, 2, none⟩ = false := hr.frozen 2
      have g3 : w9.frozen? ⟨w.heap.size, 3, none⟩ = false := hr.frozen 3
      have g4 : w9.frozen? ⟨w.heap.size, 4, none⟩ = false := hr.frozen 4
      have g5 : w9.frozen? ⟨w.heap.size, 5, none⟩ = false := hr.frozen 5
      have g6 : w9.frozen? ⟨w.heap.size, 6, none⟩ = false := hr.frozen 6
      have g7 : w9.frozen? ⟨w.heap.size, 7, none⟩ = false := hr.frozen 7
      have g8 : w9.frozen? ⟨w.heap.size, 8, none⟩ = false := hr.frozen 8
      have x0 : w9.cell? ⟨M, 0, none⟩ = some (.int .i64 4) := hm.cell 0
      have x1 : w9.cell? ⟨M, 1, none⟩ = some (.int .u32 (ra xs 4)) := hm.cell 1
      have x2 : w9.cell? ⟨M, 2, none⟩ = some (.int .u32 0) := hm.cell 2
      have x3 : w9.cell? ⟨M, 3, none⟩ = some (.int .u32 0) := hm.cell 3
      have x4 : w9.cell? ⟨M, 4, none⟩ = some (.int .u32 (ra xs 8)) := hm.cell 4
      have x5 : w9.cell? ⟨M, 5, none⟩ = some (.int .i64 0) := hm.cell 5
      have x6 : w9.cell? ⟨M, 6, none⟩ = some (.int .i64 0) := hm.cell 6
      have x7 : w9.cell? ⟨M, 7, none⟩ = some (.bool Y) := hm.cell 7
      have x8 : w9.cell? ⟨M, 8, none⟩ = some (.slice A5 j c5) := hm.cell 8
      clear hm hr
      have hbf := nine (P := fun W => Below w.heap.size w W) (fun W hW i u => hW.setCell (Nat.le_refl _) u) HB9.out
      have HBF := Lib.hid hbf
      clear hbf
      by_cases hz : cd = 0
      · have hz1 : (cd != 0) = false := by simpa using hz
        have HZ := Lib.hid hz
        clear hz
        go_wp2
        refine bodyPost_ret (v := .tuple #[.agg #[.int .i64 4, .int .u32 (ra xs 4), .int .u32 0, .int .u32 0, .int .u32 (ra xs 8), .int .i64 0, .int .i64 0, .bool Y, .slice A5 j c5], .int .i64 cd]) (by simp [results, Tryd.results19, go_sem, t0, t1, t2, t3, t4, t5, t6, t7, t8]) rfl ?_
        have hms : mres xs = m := by unfold mres; rw [HRC.out, if_pos HZ.out, HM1.out]
        have haf := nine (P := fun W => AR W A5 j (ras xs 14 j)) (fun W hW i u => hW.only (only_store W w.heap.size i u) (fun b o e h => by have := Option.some.inj h; have := HAB.out _ _ e; omega)) HA9.out
        exact ⟨A5, j, c5, by rw [hms, HRC.out, HM2.out]; rfl, by rw [hms, HM2.out]; exact haf _ _ _ _ _ _ _ _ _, HBF.out _ _ _ _ _ _ _ _ _⟩
      · have hz1 : (cd != 0) = true := by simpa using hz
        have HZ := Lib.hid hz
        clear hz
        go_wp2
        refine bodyPost_ret (v := .tuple #[.agg #[.int .i64 0, .int .u32 0, .int .u32 0, .int .u32 0, .int .u32 0, .int .i64 0, .int .i64 0, .bool false, .slice none 0 0], .int .i64 cd]) (by simp [results, Tryd.results19, go_sem, t0, t1, t2, t3, t4, t5, t6, t7, t8]) rfl ?_
        have hms : mres xs = mz := by unfold mres; rw [HRC.out, if_neg HZ.out]
        exact ⟨none, 0, 0, by rw [hms, HRC.out]; rfl, by rw [hms]; exact AR.none_ _ _, HBF.out _ _ _ _ _ _ _ _ _⟩
end Go.Proofs.YtfcfnfofihpegaaDoor
