/- Contract of the document's own ReadMsg, over the seat's program: its early ends. -/
import Derived.Test.YtfcfnfofihpegaaDoorW12
import Derived.Test.YtfcfnfofihpegaaDoorW6
namespace Go.Proofs.YtfcfnfofihpegaaDoor
open Go.RowKit Sm
theorem size_any (k : Int) (s : Int) (w : World) (hs : (k = 1 ∧ s = 10) ∨ (k = 2 ∧ s = 20) ∨ (k = 3 ∧ s = 18) ∨ (k = 4 ∧ s = 14) ∨ (k = 5 ∧ s = 12)) :
    Calls Tryd.prog 44 #[.int .i64 k] w fun e w' => e = .returned (.int .i64 s) ∧ w = w' := by
  rcases hs with ⟨rfl, rfl⟩ | ⟨rfl, rfl⟩ | ⟨rfl, rfl⟩ | ⟨rfl, rfl⟩ | ⟨rfl, rfl⟩
  all_goals
    go_enter Tryd.func44, Tryd.ntmps44
    go_wp2
    go_ret
    exact ⟨rfl, rfl⟩
set_option maxRecDepth 100000 in
set_option maxHeartbeats 8000000 in
theorem rrd_len (A : Option Addr) (n c : Nat) (xs : List Int) (w : World) (_h : BR w A n xs) (_hn : n ≤ 1048576) (_hcap : n ≤ c) (h4 : n < 4) :
    Calls Tryd.prog 19 #[.slice A n c] w fun e w' => e = .returned (.tuple #[mv mz none 0 0, .int .i64 (101)]) ∧ Below w.heap.size w w' := by
  have hi : (n : Int) < 4 := by omega
  unfold mv mz
  clear _h _hn _hcap h4
  go_enter Tryd.func19, Tryd.ntmps19
  go_wp2
  exact bodyPost_ret (v := .tuple #[.agg #[.int .i64 0, .int .u32 0, .int .u32 0, .int .u32 0, .int .u32 0, .int .i64 0, .int .i64 0, .bool false, .slice none 0 0], .int .i64 101]) (by simp [results, Tryd.results19, go_sem]) rfl ⟨rfl, (Below.refl _ _).alloc (Nat.le_refl _) _⟩
set_option maxRecDepth 100000 in
set_option maxHeartbeats 8000000 in
theorem rrd_sum (A : Option Addr) (n c : Nat) (xs : List Int) (w : World) (h : BR w A n xs) (hn : n ≤ 1048576) (_hcap : n ≤ c) (h4 : 4 ≤ n) (ho : oc (tot xs) ≠ 65535) :
    Calls Tryd.prog 19 #[.slice A n c] w fun e w' => e = .returned (.tuple #[mv mz none 0 0, .int .i64 (105)]) ∧ Below w.heap.size w w' := by
  have hi : ¬ (n : Int) < 4 := by omega
  have hB0 : Below w.heap.size w (w.alloc (.cells #[.int .i64 0, .int .u32 0, .int .u32 0, .int .u32 0, .int .u32 0, .int .i64 0, .int .i64 0, .bool false, .slice none 0 0] 28)) := (Below.refl _ _).alloc (Nat.le_refl _) _
  have hR0 := Blk.new w 28 #[.int .i64 0, .int .u32 0, .int .u32 0, .int .u32 0, .int .u32 0, .int .i64 0, .int .i64 0, .bool false, .slice none 0 0]
  have HS := rsum_any A n c xs _ (h.next hB0) hn
  have hd : (sum xs != 0) = true := by rw [sum_zero]; simp [ho]
  have HB0 := Lib.hid hB0
  have HR0 := Lib.hid hR0
  unfold mv mz
  generalize sum xs = S at *
  clear h hn _hcap h4 ho hB0 hR0
  go_enter Tryd.func19, Tryd.ntmps19
  go_wp2_with fail
  refine HS.mono ?_
  rintro e w1 ⟨rfl, hb⟩
  have hr := HR0.out.next hb
  have HB1 := Lib.hid (below_next HB0.out hb)
  have hRl := hr.lt
  have t0 : w1.cell? ⟨w.heap.size, 0, none⟩ = _ := hr.cell 0
  have t1 : w1.cell? ⟨w.heap.size, 1, none⟩ = _ := hr.cell 1
  have t2 : w1.cell? ⟨w.heap.size, 2, none⟩ = _ := hr.cell 2
  have t3 : w1.cell? ⟨w.heap.size, 3, none⟩ = _ := hr.cell 3
  have t4 : w1.cell? ⟨w.heap.size, 4, none⟩ = _ := hr.cell 4
  have t5 : w1.cell? ⟨w.heap.size, 5, none⟩ = _ := hr.cell 5
  have t6 : w1.cell? ⟨w.heap.size, 6, none⟩ = _ := hr.cell 6
  have t7 : w1.cell? ⟨w.heap.size, 7, none⟩ = _ := hr.cell 7
  have t8 : w1.cell? ⟨w.heap.size, 8, none⟩ = _ := hr.cell 8
  have g0 : w1.frozen? ⟨w.heap.size, 0, none⟩ = false := hr.frozen 0
  have g1 : w1.frozen? ⟨w.heap.size, 1, none⟩ = false := hr.frozen 1
  have g2 : w1.frozen? ⟨w.heap.size, 2, none⟩ = false := hr.frozen 2
  have g3 : w1.frozen? ⟨w.heap.size, 3, none⟩ = false := hr.frozen 3
  have g4 : w1.frozen? ⟨w.heap.size, 4, none⟩ = false := hr.frozen 4
  have g5 : w1.frozen? ⟨w.heap.size, 5, none⟩ = false := hr.frozen 5
  have g6 : w1.frozen? ⟨w.heap.size, 6, none⟩ = false := hr.frozen 6
  have g7 : w1.frozen? ⟨w.heap.size, 7, none⟩ = false := hr.frozen 7
  have g8 : w1.frozen? ⟨w.heap.size, 8, none⟩ = false := hr.frozen 8
  clear hb hr
  go_wp2
  have hbf := nine (P := fun W => Below w.heap.size w W) (fun W hW i u => hW.setCell (Nat.le_refl _) u) HB1.out
  refine bodyPost_ret (v := .tuple #[.agg #[.int .i64 0, .int .u32 0, .int .u32 0, .int .u32 0, .int .u32 0, .int .i64 0, .int .i64 0, .bool false, .slice none 0 0], .int .i64 (105)]) (by simp [results, Tryd.results19, go_sem, t0, t1, t2, t3, t4, t5, t6, t7, t8]) rfl ?_
  exact ⟨rfl, hbf _ _ _ _ _ _ _ _ _⟩
set_option maxRecDepth 100000 in
set_option maxHeartbeats 8000000 in
theorem rrd_two (A : Option Addr) (n c : Nat) (xs : List Int) (w : World) (h : BR w A n xs) (hn : n ≤ 1048576) (_hcap : n ≤ c) (h4 : 4 ≤ n) (ho : oc (tot xs) = 65535) (h1 : xs.getD 1 0 ≠ 0) :
    Calls Tryd.prog 19 #[.slice A n c] w fun e w' => e = .returned (.tuple #[mv mz none 0 0, .int .i64 (102)]) ∧ Below w.heap.size w w' := by
  have hi : ¬ (n : Int) < 4 := by omega
  have hB0 : Below w.heap.size w (w.alloc (.cells #[.int .i64 0, .int .u32 0, .int .u32 0, .int .u32 0, .int .u32 0, .int .i64 0, .int .i64 0, .bool false, .slice none 0 0] 28)) := (Below.refl _ _).alloc (Nat.le_refl _) _
  have hR0 := Blk.new w 28 #[.int .i64 0, .int .u32 0, .int .u32 0, .int .u32 0, .int .u32 0, .int .i64 0, .int .i64 0, .bool false, .slice none 0 0]
  have HS := rsum_any A n c xs _ (h.next hB0) hn
  have hd : (sum xs != 0) = false := by rw [sum_zero]; simp [ho]
  have hd1 : (xs.getD 1 0 != 0) = true := by simpa using h1
  obtain ⟨b, o, rfl, hlt, hcell⟩ := h.2.2 (by omega)
  have y1 := keepc (hcell 1 (by omega)) hB0
  have hi1 : (1 : Int) < (n : Int) := by omega
  have HB0 := Lib.hid hB0
  have HR0 := Lib.hid hR0
  unfold mv mz
  generalize sum xs = S at *
  generalize xs.getD 1 0 = u at *
  clear h hn _hcap h4 ho hB0 hR0 hcell h1
  go_enter Tryd.func19, Tryd.ntmps19
  go_wp2_with fail
  refine HS.mono ?_
  rintro e w1 ⟨rfl, hb⟩
  have hr := HR0.out.next hb
  have HB1 := Lib.hid (below_next HB0.out hb)
  have hRl := hr.lt
  have y1 := keepc y1 hb
  have t0 : w1.cell? ⟨w.heap.size, 0, none⟩ = _ := hr.cell 0
  have t1 : w1.cell? ⟨w.heap.size, 1, none⟩ = _ := hr.cell 1
  have t2 : w1.cell? ⟨w.heap.size, 2, none⟩ = _ := hr.cell 2
  have t3 : w1.cell? ⟨w.heap.size, 3, none⟩ = _ := hr.cell 3
  have t4 : w1.cell? ⟨w.heap.size, 4, none⟩ = _ := hr.cell 4
  have t5 : w1.cell? ⟨w.heap.size, 5, none⟩ = _ := hr.cell 5
  have t6 : w1.cell? ⟨w.heap.size, 6, none⟩ = _ := hr.cell 6
  have t7 : w1.cell? ⟨w.heap.size, 7, none⟩ = _ := hr.cell 7
  have t8 : w1.cell? ⟨w.heap.size, 8, none⟩ = _ := hr.cell 8
  have g0 : w1.frozen? ⟨w.heap.size, 0, none⟩ = false := hr.frozen 0
  have g1 : w1.frozen? ⟨w.heap.size, 1, none⟩ = false := hr.frozen 1
  have g2 : w1.frozen? ⟨w.heap.size, 2, none⟩ = false := hr.frozen 2
  have g3 : w1.frozen? ⟨w.heap.size, 3, none⟩ = false := hr.frozen 3
  have g4 : w1.frozen? ⟨w.heap.size, 4, none⟩ = false := hr.frozen 4
  have g5 : w1.frozen? ⟨w.heap.size, 5, none⟩ = false := hr.frozen 5
  have g6 : w1.frozen? ⟨w.heap.size, 6, none⟩ = false := hr.frozen 6
  have g7 : w1.frozen? ⟨w.heap.size, 7, none⟩ = false := hr.frozen 7
  have g8 : w1.frozen? ⟨w.heap.size, 8, none⟩ = false := hr.frozen 8
  clear hb hr
  go_wp2
  have hbf := nine (P := fun W => Below w.heap.size w W) (fun W hW i u => hW.setCell (Nat.le_refl _) u) HB1.out
  refine bodyPost_ret (v := .tuple #[.agg #[.int .i64 0, .int .u32 0, .int .u32 0, .int .u32 0, .int .u32 0, .int .i64 0, .int .i64 0, .bool false, .slice none 0 0], .int .i64 (102)]) (by simp [results, Tryd.results19, go_sem, t0, t1, t2, t3, t4, t5, t6, t7, t8]) rfl ?_
  exact ⟨rfl, hbf _ _ _ _ _ _ _ _ _⟩
set_option maxRecDepth 100000 in
set_option maxHeartbeats 8000000 in
theorem rrd_kind (A : Option Addr) (n c : Nat) (xs : List Int) (w : World) (h : BR w A n xs) (hn : n ≤ 1048576) (_hcap : n ≤ c) (h4 : 4 ≤ n) (ho : oc (tot xs) = 65535) (h1 : xs.getD 1 0 = 0) (hk : kOk (rkind xs) = false) :
    Calls Tryd.prog 19 #[.slice A n c] w fun e w' => e = .returned (.tuple #[mv mz none 0 0, .int .i64 (113)]) ∧ Below w.heap.size w w' := by
  have hi : ¬ (n : Int) < 4 := by omega
  have hB0 : Below w.heap.size w (w.alloc (.cells #[.int .i64 0, .int .u32 0, .int .u32 0, .int .u32 0, .int .u32 0, .int .i64 0, .int .i64 0, .bool false, .slice none 0 0] 28)) := (Below.refl _ _).alloc (Nat.le_refl _) _
  have hR0 := Blk.new w 28 #[.int .i64 0, .int .u32 0, .int .u32 0, .int .u32 0, .int .u32 0, .int .i64 0, .int .i64 0, .bool false, .slice none 0 0]
  have HS := rsum_any A n c xs _ (h.next hB0) hn
  have hd : (sum xs != 0) = false := by rw [sum_zero]; simp [ho]
  obtain ⟨b, o, rfl, hlt, hcell⟩ := h.2.2 (by omega)
  have y0 := keepc (hcell 0 (by omega)) hB0
  rw [Nat.add_zero] at y0
  have y1 := keepc (hcell 1 (by omega)) hB0
  rw [h1] at y1
  have hi0 : (0 : Int) < (n : Int) := by omega
  have hi1 : (1 : Int) < (n : Int) := by omega
  have B0 := h.isB.at_ 0
  have hkn : ¬ (1 ≤ xs.getD 0 0 - 32 ∧ xs.getD 0 0 - 32 ≤ 5) := of_decide_eq_false hk
  clear hk
  have HB0 := Lib.hid hB0
  have HR0 := Lib.hid hR0
  unfold mv mz
  generalize sum xs = S at *
  generalize xs.getD 0 0 = u at *
  have hkk : decide (u - 32 < 1) = true ∨ decide (u - 32 < 1) = false ∧ decide (5 < u - 32) = true := by simp only [decide_eq_true_eq, decide_eq_false_iff_not]; omega
  clear h hn _hcap h4 ho hB0 hR0 hcell h1 hkn
  go_enter Tryd.func19, Tryd.ntmps19
  go_wp2_with fail
  refine HS.mono ?_
  rintro e w1 ⟨rfl, hb⟩
  have hr := HR0.out.next hb
  have HB1 := Lib.hid (below_next HB0.out hb)
  have hRl := hr.lt
  have y0 := keepc y0 hb
  have y1 := keepc y1 hb
  have q1 : w.heap.size ≠ w1.heap.size := by omega
  have q1' := q1.symm
  have t0 : w1.cell? ⟨w.heap.size, 0, none⟩ = _ := hr.cell 0
  have t1 : w1.cell? ⟨w.heap.size, 1, none⟩ = _ := hr.cell 1
  have t2 : w1.cell? ⟨w.heap.size, 2, none⟩ = _ := hr.cell 2
  have t3 : w1.cell? ⟨w.heap.size, 3, none⟩ = _ := hr.cell 3
  have t4 : w1.cell? ⟨w.heap.size, 4, none⟩ = _ := hr.cell 4
  have t5 : w1.cell? ⟨w.heap.size, 5, none⟩ = _ := hr.cell 5
  have t6 : w1.cell? ⟨w.heap.size, 6, none⟩ = _ := hr.cell 6
  have t7 : w1.cell? ⟨w.heap.size, 7, none⟩ = _ := hr.cell 7
  have t8 : w1.cell? ⟨w.heap.size, 8, none⟩ = _ := hr.cell 8
  have g0 : w1.frozen? ⟨w.heap.size, 0, none⟩ = false := hr.frozen 0
  have g1 : w1.frozen? ⟨w.heap.size, 1, none⟩ = false := hr.frozen 1
  have g2 : w1.frozen? ⟨w.heap.size, 2, none⟩ = false := hr.frozen 2
  have g3 : w1.frozen? ⟨w.heap.size, 3, none⟩ = false := hr.frozen 3
  have g4 : w1.frozen? ⟨w.heap.size, 4, none⟩ = false := hr.frozen 4
  have g5 : w1.frozen? ⟨w.heap.size, 5, none⟩ = false := hr.frozen 5
  have g6 : w1.frozen? ⟨w.heap.size, 6, none⟩ = false := hr.frozen 6
  have g7 : w1.frozen? ⟨w.heap.size, 7, none⟩ = false := hr.frozen 7
  have g8 : w1.frozen? ⟨w.heap.size, 8, none⟩ = false := hr.frozen 8
  clear hb hr
  have HB2 := Lib.hid (fun o => HB1.out.alloc HB1.out.size o)
  rcases hkk with k1 | ⟨k1, k2⟩
  all_goals
    go_wp2
    refine bodyPost_ret (v := .tuple #[.agg #[.int .i64 0, .int .u32 0, .int .u32 0, .int .u32 0, .int .u32 0, .int .i64 0, .int .i64 0, .bool false, .slice none 0 0], .int .i64 113]) (by simp [results, Tryd.results19, go_sem, t0, t1, t2, t3, t4, t5, t6, t7, t8, hRl]) rfl ⟨rfl, ?_⟩
    have hbf := nine (P := fun W => Below w.heap.size w W) (fun W hW i u => hW.setCell (Nat.le_refl _) u) HB1.out
    exact (hbf _ _ _ _ _ _ _ _ _).alloc (hbf _ _ _ _ _ _ _ _ _).size _
end Go.Proofs.YtfcfnfofihpegaaDoor
