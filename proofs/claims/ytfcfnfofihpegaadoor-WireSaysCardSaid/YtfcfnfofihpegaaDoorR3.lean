/- Contract of the document's own ReadMsg, over the seat's program: kinds 1 2 3 5. -/
import Derived.Test.YtfcfnfofihpegaaDoorR2
namespace Go.Proofs.YtfcfnfofihpegaaDoor
open Go.RowKit Sm
def rreadOf (xs : List Int) (w : World) (e : Ending) (w' : World) : Prop := ∃ A n c, e = .returned (.tuple #[mv (mres xs) A n c, .int .i64 (mrc xs)]) ∧ AR w' A n (mres xs).l ∧ Below w.heap.size w w'
set_option maxRecDepth 100000 in
set_option maxHeartbeats 8000000 in
theorem rrd_short1 (A : Option Addr) (n c : Nat) (xs : List Int) (w : World) (h : BR w A n xs) (hn : n ≤ 1048576) (_hcap : n ≤ c) (ho : oc (tot xs) = 65535) (h1 : xs.getD 1 0 = 0) (hk : rkind xs = 1) (h4 : 4 ≤ n) (hs : n < 10) :
    Calls Tryd.prog 19 #[.slice A n c] w fun e w' => e = .returned (.tuple #[mv mz none 0 0, .int .i64 (101)]) ∧ Below w.heap.size w w' := by
  have hi : ¬ (n : Int) < 4 := by omega
  have hB0 : Below w.heap.size w (w.alloc (.cells #[.int .i64 0, .int .u32 0, .int .u32 0, .int .u32 0, .int .u32 0, .int .i64 0, .int .i64 0, .bool false, .slice none 0 0] 28)) := (Below.refl _ _).alloc (Nat.le_refl _) _
  have hR0 := Blk.new w 28 #[.int .i64 0, .int .u32 0, .int .u32 0, .int .u32 0, .int .u32 0, .int .i64 0, .int .i64 0, .bool false, .slice none 0 0]
  have HS := rsum_any A n c xs _ (h.next hB0) hn
  have hd : (sum xs != 0) = false := by rw [sum_zero]; simp [ho]
  obtain ⟨b, o, rfl, hlt, hcell⟩ := h.2.2 (by omega)
  have h0v : xs.getD 0 0 = 33 := by unfold rkind at hk; omega
  have y0 := keepc (hcell 0 (by omega)) hB0
  rw [Nat.add_zero, h0v] at y0
  have y1 := keepc (hcell 1 (by omega)) hB0
  rw [h1] at y1
  have hi0 : (0 : Int) < (n : Int) := by omega
  have hi1 : (1 : Int) < (n : Int) := by omega
  have hs1 : (n : Int) < 10 := by omega
  have HB0 := Lib.hid hB0
  have HR0 := Lib.hid hR0
  unfold mv mz
  generalize sum xs = S at *
  clear h hn _hcap ho hB0 hR0 hcell h1 hk h0v h4
  go_enter Tryd.func19, Tryd.ntmps19
  go_wp2_with fail
  refine HS.mono ?_
  rintro e w1 ⟨rfl, hb⟩
  have hr := HR0.out.next hb
  have HB1 := Lib.hid (below_next HB0.out hb)
  have hRl := hr.lt
  have y0 := keepc y0 hb
  have y1 := keepc y1 hb
  have q1 : w.heap.size ≠ w1.heap.size := by omega
  have q1' := q1.symm
  have q2 : b ≠ w1.heap.size := by omega
  have q2' := q2.symm
  have q3 : b < w1.heap.size := by omega
  have t0 : w1.cell? ⟨w.heap.size, 0, none⟩ = _ := hr.cell 0
  have t1 : w1.cell? ⟨w.heap.size, 1, none⟩ = _ := hr.cell 1
  have t2 : w1.cell? ⟨w.heap.size, 2, none⟩ = _ := hr.cell 2
  have t3 : w1.cell? ⟨w.heap.size, 3, none⟩ = _ := hr.cell 3
  have t4 : w1.cell? ⟨w.heap.size, 4, none⟩ = _ := hr.cell 4
  have t5 : w1.cell? ⟨w.heap.size, 5, none⟩ = _ := hr.cell 5
  have t6 : w1.cell? ⟨w.heap.size, 6, none⟩ = _ := hr.cell 6
  have t7 : w1.cell? ⟨w.heap.size, 7, none⟩ = _ := hr.cell 7
  have t8 : w1.cell? ⟨w.heap.size, 8, none⟩ = _ := hr.cell 8
  have g0 : w1.frozen? ⟨w.heap.size, 0, none⟩ = false := hr.frozen 0
  have g1 : w1.frozen? ⟨w.heap.size, 1, none⟩ = false := hr.frozen 1
  have g2 : w1.frozen? ⟨w.heap.size, 2, none⟩ = false := hr.frozen 2
  have g3 : w1.frozen? ⟨w.heap.size, 3, none⟩ = false := hr.frozen 3
  have g4 : w1.frozen? ⟨w.heap.size, 4, none⟩ = false := hr.frozen 4
  have g5 : w1.frozen? ⟨w.heap.size, 5, none⟩ = false := hr.frozen 5
  have g6 : w1.frozen? ⟨w.heap.size, 6, none⟩ = false := hr.frozen 6
  have g7 : w1.frozen? ⟨w.heap.size, 7, none⟩ = false := hr.frozen 7
  have g8 : w1.frozen? ⟨w.heap.size, 8, none⟩ = false := hr.frozen 8
  clear hb hr
  go_wp2_with (go_at_call 44; refine (size_any 1 10 _ (by simp)).mono ?_; rintro e wa ⟨rfl, rfl⟩)
  refine bodyPost_ret (v := .tuple #[.agg #[.int .i64 0, .int .u32 0, .int .u32 0, .int .u32 0, .int .u32 0, .int .i64 0, .int .i64 0, .bool false, .slice none 0 0], .int .i64 101]) (by simp [results, Tryd.results19, go_sem, t0, t1, t2, t3, t4, t5, t6, t7, t8, hRl]) rfl ⟨rfl, ?_⟩
  have hbf := nine (P := fun W => Below w.heap.size w W) (fun W hW i u => hW.setCell (Nat.le_refl _) u) HB1.out
  exact (hbf _ _ _ _ _ _ _ _ _).alloc (hbf _ _ _ _ _ _ _ _ _).size _
set_option maxRecDepth 100000 in
set_option maxHeartbeats 8000000 in
theorem rrd_long1 (A : Option Addr) (n c : Nat) (xs : List Int) (w : World) (h : BR w A n xs) (hn : n ≤ 1048576) (_hcap : n ≤ c) (ho : oc (tot xs) = 65535) (h1 : xs.getD 1 0 = 0) (hk : rkind xs = 1) (h4 : 4 ≤ n) (hs : 10 < n) :
    Calls Tryd.prog 19 #[.slice A n c] w fun e w' => e = .returned (.tuple #[mv mz none 0 0, .int .i64 (102)]) ∧ Below w.heap.size w w' := by
  have hi : ¬ (n : Int) < 4 := by omega
  have hB0 : Below w.heap.size w (w.alloc (.cells #[.int .i64 0, .int .u32 0, .int .u32 0, .int .u32 0, .int .u32 0, .int .i64 0, .int .i64 0, .bool false, .slice none 0 0] 28)) := (Below.refl _ _).alloc (Nat.le_refl _) _
  have hR0 := Blk.new w 28 #[.int .i64 0, .int .u32 0, .int .u32 0, .int .u32 0, .int .u32 0, .int .i64 0, .int .i64 0, .bool false, .slice none 0 0]
  have HS := rsum_any A n c xs _ (h.next hB0) hn
  have hd : (sum xs != 0) = false := by rw [sum_zero]; simp [ho]
  obtain ⟨b, o, rfl, hlt, hcell⟩ := h.2.2 (by omega)
  have h0v : xs.getD 0 0 = 33 := by unfold rkind at hk; omega
  have y0 := keepc (hcell 0 (by omega)) hB0
  rw [Nat.add_zero, h0v] at y0
  have y1 := keepc (hcell 1 (by omega)) hB0
  rw [h1] at y1
  have hi0 : (0 : Int) < (n : Int) := by omega
  have hi1 : (1 : Int) < (n : Int) := by omega
  have hs1 : (10 : Int) < (n : Int) := by omega
  have hs2 : ¬ (n : Int) < 10 := by omega
  have HB0 := Lib.hid hB0
  have HR0 := Lib.hid hR0
  unfold mv mz
  generalize sum xs = S at *
  clear h hn _hcap ho hB0 hR0 hcell h1 hk h0v h4
  go_enter Tryd.func19, Tryd.ntmps19
  go_wp2_with fail
  refine HS.mono ?_
  rintro e w1 ⟨rfl, hb⟩
  have hr := HR0.out.next hb
  have HB1 := Lib.hid (below_next HB0.out hb)
  have hRl := hr.lt
  have y0 := keepc y0 hb
  have y1 := keepc y1 hb
  have q1 : w.heap.size ≠ w1.heap.size := by omega
  have q1' := q1.symm
  have q2 : b ≠ w1.heap.size := by omega
  have q2' := q2.symm
  have q3 : b < w1.heap.size := by omega
  have t0 : w1.cell? ⟨w.heap.size, 0, none⟩ = _ := hr.cell 0
  have t1 : w1.cell? ⟨w.heap.size, 1, none⟩ = _ := hr.cell 1
  have t2 : w1.cell? ⟨w.heap.size, 2, none⟩ = _ := hr.cell 2
  have t3 : w1.cell? ⟨w.heap.size, 3, none⟩ = _ := hr.cell 3
  have t4 : w1.cell? ⟨w.heap.size, 4, none⟩ = _ := hr.cell 4
  have t5 : w1.cell? ⟨w.heap.size, 5, none⟩ = _ := hr.cell 5
  have t6 : w1.cell? ⟨w.heap.size, 6, none⟩ = _ := hr.cell 6
  have t7 : w1.cell? ⟨w.heap.size, 7, none⟩ = _ := hr.cell 7
  have t8 : w1.cell? ⟨w.heap.size, 8, none⟩ = _ := hr.cell 8
  have g0 : w1.frozen? ⟨w.heap.size, 0, none⟩ = false := hr.frozen 0
  have g1 : w1.frozen? ⟨w.heap.size, 1, none⟩ = false := hr.frozen 1
  have g2 : w1.frozen? ⟨w.heap.size, 2, none⟩ = false := hr.frozen 2
  have g3 : w1.frozen? ⟨w.heap.size, 3, none⟩ = false := hr.frozen 3
  have g4 : w1.frozen? ⟨w.heap.size, 4, none⟩ = false := hr.frozen 4
  have g5 : w1.frozen? ⟨w.heap.size, 5, none⟩ = false := hr.frozen 5
  have g6 : w1.frozen? ⟨w.heap.size, 6, none⟩ = false := hr.frozen 6
  have g7 : w1.frozen? ⟨w.heap.size, 7, none⟩ = false := hr.frozen 7
  have g8 : w1.frozen? ⟨w.heap.size, 8, none⟩ = false := hr.frozen 8
  clear hb hr
  go_wp2_with (go_at_call 44; refine (size_any 1 10 _ (by simp)).mono ?_; rintro e wa ⟨rfl, rfl⟩)
  refine bodyPost_ret (v := .tuple #[.agg #[.int .i64 0, .int .u32 0, .int .u32 0, .int .u32 0, .int .u32 0, .int .i64 0, .int .i64 0, .bool false, .slice none 0 0], .int .i64 102]) (by simp [results, Tryd.results19, go_sem, t0, t1, t2, t3, t4, t5, t6, t7, t8, hRl]) rfl ⟨rfl, ?_⟩
  have hbf := nine (P := fun W => Below w.heap.size w W) (fun W hW i u => hW.setCell (Nat.le_refl _) u) HB1.out
  exact (hbf _ _ _ _ _ _ _ _ _).alloc (hbf _ _ _ _ _ _ _ _ _).size _
set_option maxRecDepth 100000 in
set_option maxHeartbeats 8000000 in
theorem rrd_ok1 (A : Option Addr) (n c : Nat) (xs : List Int) (w : World) (h : BR w A n xs) (hn : n ≤ 1048576) (_hcap : n ≤ c) (_h4 : 4 ≤ n) (ho : oc (tot xs) = 65535) (h1 : xs.getD 1 0 = 0) (hk : rkind xs = 1) (hsz : n = 10) (hrc : mrc xs = mcode (mrd xs)) :
    Calls Tryd.prog 19 #[.slice A n c] w (rreadOf xs w) := by
  have hi : ¬ (n : Int) < 4 := by omega
  have hB0 : Below w.heap.size w (w.alloc (.cells #[.int .i64 0, .int .u32 0, .int .u32 0, .int .u32 0, .int .u32 0, .int .i64 0, .int .i64 0, .bool false, .slice none 0 0] 28)) := (Below.refl _ _).alloc (Nat.le_refl _) _
  have hR0 := Blk.new w 28 #[.int .i64 0, .int .u32 0, .int .u32 0, .int .u32 0, .int .u32 0, .int .i64 0, .int .i64 0, .bool false, .slice none 0 0]
  have HS := rsum_any A n c xs _ (h.next hB0) hn
  have hd : (sum xs != 0) = false := by rw [sum_zero]; simp [ho]
  obtain ⟨b, o, rfl, hlt, hcell⟩ := h.2.2 (by omega)
  have h0v : xs.getD 0 0 = 33 := by unfold rkind at hk; omega
  have y0 := keepc (hcell 0 (by omega)) hB0
  rw [Nat.add_zero, h0v] at y0
  have y1 := keepc (hcell 1 (by omega)) hB0
  rw [h1] at y1
  have y8 := keepc (hcell 8 (by omega)) hB0
  have hi8 : (8 : Int) < (n : Int) := by omega
  have B8 := h.isB.at_ 8
  have y9 := keepc (hcell 9 (by omega)) hB0
  have hi9 : (9 : Int) < (n : Int) := by omega
  have B9 := h.isB.at_ 9
  have hi0 : (0 : Int) < (n : Int) := by omega
  have hi1 : (1 : Int) < (n : Int) := by omega
  have hmw := mrd_wf h.isB
  have hmr : mrd xs = ⟨1, ra xs 4, 0, 0, 0, rn xs 8, 0, false, []⟩ := by unfold mrd; rw [hk]; rfl
  have hsv : ∀ W, Calls Tryd.prog 10 #[mv (mrd xs) none 0 0] W fun e w' => e = .returned (.int .i64 (mcode (mrd xs))) ∧ Below W.heap.size W w' := fun W => rvalid_any (mrd xs) none 0 0 W hmw (by rw [hmr]; rfl)
  have hm : ∃ m : Ms, mrd xs = m ∧ m = ⟨1, ra xs 4, 0, 0, 0, rn xs 8, 0, false, []⟩ := ⟨_, rfl, hmr⟩
  obtain ⟨m, hm1, hm2⟩ := hm
  rw [hm1] at hsv hrc
  have HM1 := Lib.hid hm1
  have HM2 := Lib.hid hm2
  have HRC := Lib.hid hrc
  generalize hcd : mcode m = cd at *
  have HCD := Lib.hid hcd
  rw [hm2] at hsv
  have HBR := Lib.hid (fun W (hW : Below w.heap.size w W) => h.next hW)
  have hor := or_i64 _ _ B8.1 B8.2 B9.1 B9.2
  have HRN := Lib.hid (show rn xs 8 = xs.getD 8 0 * 256 + xs.getD 9 0 from rfl)
  have z8 := hcell 8 (by omega)
  have z9 := hcell 9 (by omega)
  generalize xs.getD 8 0 = v8 at *
  generalize xs.getD 9 0 = v9 at *
  rw [HRN.out] at hsv
  have HSV := Lib.hid hsv
  have HN := Lib.hid hn
  have HB0 := Lib.hid hB0
  have HR0 := Lib.hid hR0
  generalize sum xs = S at *
  have hs1 : (n : Int) = 10 := by omega
  clear h _hcap ho hB0 hR0 hcell h1 hk h0v _h4 hmw hmr hm1 hm2 hcd hrc hsv
  subst hsz
  clear hs1
  unfold mv at HSV
  go_enter Tryd.func19, Tryd.ntmps19
  go_wp2_with fail
  refine HS.mono ?_
  rintro e w1 ⟨rfl, hb⟩
  have hr := HR0.out.next hb
  have HB1 := Lib.hid (below_next HB0.out hb)
  have hRl := hr.lt
  have y0 := keepc y0 hb
  have y1 := keepc y1 hb
  have q1 : w.heap.size ≠ w1.heap.size := by omega
  have q1' := q1.symm
  have q2 : b ≠ w1.heap.size := by omega
  have q2' := q2.symm
  have q3 : b < w1.heap.size := by omega
  go_wp2_with (go_at_call 44; refine (size_any 1 10 _ (by simp)).mono ?_; rintro e wa ⟨rfl, rfl⟩)
  have hm2 := Blk.new w1 28 #[.int .i64 1, .int .u32 0, .int .u32 0, .int .u32 0, .int .u32 0, .int .i64 0, .int .i64 0, .bool false, .slice none 0 0]
  have hr2 := hr.alloc (.cells #[.int .i64 1, .int .u32 0, .int .u32 0, .int .u32 0, .int .u32 0, .int .i64 0, .int .i64 0, .bool false, .slice none 0 0] 28)
  have hb2 := HB1.out.alloc HB1.out.size (.cells #[.int .i64 1, .int .u32 0, .int .u32 0, .int .u32 0, .int .u32 0, .int .i64 0, .int .i64 0, .bool false, .slice none 0 0] 28)
  have hMw := HB1.out.size
  generalize hM0 : w1.heap.size = M at *
  generalize w1.alloc (.cells #[.int .i64 1, .int .u32 0, .int .u32 0, .int .u32 0, .int .u32 0, .int .i64 0, .int .i64 0, .bool false, .slice none 0 0] 28) = W2 at *
  have HM := Lib.hid hm2
  have HR := Lib.hid hr2
  have HB := Lib.hid hb2
  clear hm2 hr2 hb2 hb hr y0 y1 q1 q1' q2 q2' q3 HB1 HS y8 y9 hM0
  refine (at_at _ 10 c xs _ 4 4 rfl (HBR.out _ HB.out) (by omega) HN.out).mono ?_
  rintro e w3 ⟨rfl, hb⟩
  have hm := HM.out.next hb
  have hr := HR.out.next hb
  have hbb := below_next HB.out hb
  clear hb HM HR HB
  have f1 : w3.frozen? ⟨M, 1, none⟩ = false := hm.frozen 1
  have x1 : w3.cell? ⟨M, 1, none⟩ = some (.int .u32 0) := hm.cell 1
  have x0 : w3.cell? ⟨M, 0, none⟩ = some (.int .i64 1) := hm.cell 0
  have HM := Lib.hid ((hm).set_to (cs' := #[.int .i64 1, .int .u32 (ra xs 4), .int .u32 0, .int .u32 0, .int .u32 0, .int .i64 0, .int .i64 0, .bool false, .slice none 0 0]) 1 (.int .u32 (ra xs 4)) rfl)
  have HR := Lib.hid ((hr).far (p := ⟨M, 1, none⟩) (Nat.ne_of_lt hRl) (.int .u32 (ra xs 4)))
  have HB := Lib.hid ((hbb).setCell (show w.heap.size ≤ (⟨M, 1, none⟩ : Addr).block from hMw) (.int .u32 (ra xs 4)))
  clear hm hr hbb
  skip
  go_wp2_with fail
  clear f1 x1 x0
  generalize (w3.setCell ⟨M, 1, none⟩ (.int .u32 (ra xs 4))) = V3 at *
  have z8 := keepc z8 HB.out
  have z9 := keepc z9 HB.out
  have ix8 : (8 : Int) < ((10 : Nat) : Int) := by omega
  have ix9 : (9 : Int) < ((10 : Nat) : Int) := by omega
  have x0 : V3.cell? ⟨M, 0, none⟩ = some (.int .i64 1) := HM.out.cell 0
  have x1 : V3.cell? ⟨M, 1, none⟩ = some (.int .u32 (ra xs 4)) := HM.out.cell 1
  have x2 : V3.cell? ⟨M, 2, none⟩ = some (.int .u32 0) := HM.out.cell 2
  have x3 : V3.cell? ⟨M, 3, none⟩ = some (.int .u32 0) := HM.out.cell 3
  have x4 : V3.cell? ⟨M, 4, none⟩ = some (.int .u32 0) := HM.out.cell 4
  have x6 : V3.cell? ⟨M, 6, none⟩ = some (.int .i64 0) := HM.out.cell 6
  have x7 : V3.cell? ⟨M, 7, none⟩ = some (.bool false) := HM.out.cell 7
  have x8 : V3.cell? ⟨M, 8, none⟩ = some (.slice none 0 0) := HM.out.cell 8
  have f5 : V3.frozen? ⟨M, 5, none⟩ = false := HM.out.frozen 5
  have x5 : V3.cell? ⟨M, 5, none⟩ = some (.int .i64 0) := HM.out.cell 5
  skip
  go_region
  have HM := Lib.hid ((HM.out.set_to (cs' := #[.int .i64 1, .int .u32 (ra xs 4), .int .u32 0, .int .u32 0, .int .u32 0, .int .i64 (v8 * 256 + v9), .int .i64 0, .bool false, .slice none 0 0]) 5 (.int .i64 (v8 * 256 + v9)) rfl).drew)
  have HR := Lib.hid ((HR.out.far (p := ⟨M, 5, none⟩) (Nat.ne_of_lt hRl) (.int .i64 (v8 * 256 + v9))).drew)
  have HB := Lib.hid ((HB.out.setCell (show w.heap.size ≤ (⟨M, 5, none⟩ : Addr).block from hMw) (.int .i64 (v8 * 256 + v9))).drew)
  go_wp2_with fail
  refine (HSV.out _).mono ?_
  rintro e w9 ⟨rfl, hb⟩
  have hm := HM.out.next hb
  have hr := HR.out.next hb
  have HB9 := Lib.hid (below_next HB.out hb)
  clear hb
  have t0 : w9.cell? ⟨w.heap.size, 0, none⟩ = _ := hr.cell 0
  have t1 : w9.cell? ⟨w.heap.size, 1, none⟩ = _ := hr.cell 1
  have t2 : w9.cell? ⟨w.heap.size, 2, none⟩ = _ := hr.cell 2
  have t3 : w9.cell? ⟨w.heap.size, 3, none⟩ = _ := hr.cell 3
  have t4 : w9.cell? ⟨w.heap.size, 4, none⟩ = _ := hr.cell 4
  have t5 : w9.cell? ⟨w.heap.size, 5, none⟩ = _ := hr.cell 5
  have t6 : w9.cell? ⟨w.heap.size, 6, none⟩ = _ := hr.cell 6
  have t7 : w9.cell? ⟨w.heap.size, 7, none⟩ = _ := hr.cell 7
  have t8 : w9.cell? ⟨w.heap.size, 8, none⟩ = _ := hr.cell 8
  have g0 : w9.frozen? ⟨w.heap.size, 0, none⟩ = false := hr.frozen 0
  have g1 : w9.frozen? ⟨w.heap.size, 1, none⟩ = false := hr.frozen 1
  have g2 : w9.frozen? ⟨w.heap.size, 2, none⟩ = false := hr.frozen 2
  have g3 : w9.frozen? ⟨w.heap.size, 3, none⟩ = false := hr.frozen 3
  have g4 : w9.frozen? ⟨w.heap.size, 4, none⟩ = false := hr.frozen 4
  have g5 : w9.frozen? ⟨w.heap.size, 5, none⟩ = false := hr.frozen 5
  have g6 : w9.frozen? ⟨w.heap.size, 6, none⟩ = false := hr.frozen 6
  have g7 : w9.frozen? ⟨w.heap.size, 7, none⟩ = false := hr.frozen 7
  have g8 : w9.frozen? ⟨w.heap.size, 8, none⟩ = false := hr.frozen 8
  have x0 : w9.cell? ⟨M, 0, none⟩ = some (.int .i64 1) := hm.cell 0
  have x1 : w9.cell? ⟨M, 1, none⟩ = some (.int .u32 (ra xs 4)) := hm.cell 1
  have x2 : w9.cell? ⟨M, 2, none⟩ = some (.int .u32 0) := hm.cell 2
  have x3 : w9.cell? ⟨M, 3, none⟩ = some (.int .u32 0) := hm.cell 3
  have x4 : w9.cell? ⟨M, 4, none⟩ = some (.int .u32 0) := hm.cell 4
  have x5 : w9.cell? ⟨M, 5, none⟩ = some (.int .i64 (v8 * 256 + v9)) := hm.cell 5
  have x6 : w9.cell? ⟨M, 6, none⟩ = some (.int .i64 0) := hm.cell 6
  have x7 : w9.cell? ⟨M, 7, none⟩ = some (.bool false) := hm.cell 7
  have x8 : w9.cell? ⟨M, 8, none⟩ = some (.slice none 0 0) := hm.cell 8
  clear hm hr
  have hbf := nine (P := fun W => Below w.heap.size w W) (fun W hW i u => hW.setCell (Nat.le_refl _) u) HB9.out
  have HBF := Lib.hid hbf
  clear hbf
  by_cases hz : cd = 0
  · have hz1 : (cd != 0) = false := by simpa using hz
    have HZ := Lib.hid hz
    clear hz
    go_wp2
    refine bodyPost_ret (v := .tuple #[.agg #[.int .i64 1, .int .u32 (ra xs 4), .int .u32 0, .int .u32 0, .int .u32 0, .int .i64 (v8 * 256 + v9), .int .i64 0, .bool false, .slice none 0 0], .int .i64 cd]) (by simp [results, Tryd.results19, go_sem, t0, t1, t2, t3, t4, t5, t6, t7, t8]) rfl ?_
    have hms : mres xs = m := by unfold mres; rw [HRC.out, if_pos HZ.out, HM1.out]
    exact ⟨none, 0, 0, by rw [hms, HRC.out, HM2.out, HRN.out]; rfl, by rw [hms, HM2.out]; exact AR.none_ _ _, HBF.out _ _ _ _ _ _ _ _ _⟩
  · have hz1 : (cd != 0) = true := by simpa using hz
    have HZ := Lib.hid hz
    clear hz
    go_wp2
    refine bodyPost_ret (v := .tuple #[.agg #[.int .i64 0, .int .u32 0, .int .u32 0, .int .u32 0, .int .u32 0, .int .i64 0, .int .i64 0, .bool false, .slice none 0 0], .int .i64 cd]) (by simp [results, Tryd.results19, go_sem, t0, t1, t2, t3, t4, t5, t6, t7, t8]) rfl ?_
    have hms : mres xs = mz := by unfold mres; rw [HRC.out, if_neg HZ.out]
    exact ⟨none, 0, 0, by rw [hms, HRC.out]; rfl, by rw [hms]; exact AR.none_ _ _, HBF.out _ _ _ _ _ _ _ _ _⟩
set_option maxRecDepth 100000 in
set_option maxHeartbeats 8000000 in
theorem rrd_short2 (A : Option Addr) (n c : Nat) (xs : List Int) (w : World) (h : BR w A n xs) (hn : n ≤ 1048576) (_hcap : n ≤ c) (ho : oc (tot xs) = 65535) (h1 : xs.getD 1 0 = 0) (hk : rkind xs = 2) (h4 : 4 ≤ n) (hs : n < 20) :
    Calls Tryd.prog 19 #[.slice A n c] w fun e w' => e = .returned (.tuple #[mv mz none 0 0, .int .i64 (101)]) ∧ Below w.heap.size w w' := by
  have hi : ¬ (n : Int) < 4 := by omega
  have hB0 : Below w.heap.size w (w.alloc (.cells #[.int .i64 0, .int .u32 0, .int .u32 0, .int .u32 0, .int .u32 0, .int .i64 0, .int .i64 0, .bool false, .slice none 0 0] 28)) := (Below.refl _ _).alloc (Nat.le_refl _) _
  have hR0 := Blk.new w 28 #[.int .i64 0, .int .u32 0, .int .u32 0, .int .u32 0, .int .u32 0, .int .i64 0, .int .i64 0, .bool false, .slice none 0 0]
  have HS := rsum_any A n c xs _ (h.next hB0) hn
  have hd : (sum xs != 0) = false := by rw [sum_zero]; simp [ho]
  obtain ⟨b, o, rfl, hlt, hcell⟩ := h.2.2 (by omega)
  have h0v : xs.getD 0 0 = 34 := by unfold rkind at hk; omega
  have y0 := keepc (hcell 0 (by omega)) hB0
  rw [Nat.add_zero, h0v] at y0
  have y1 := keepc (hcell 1 (by omega)) hB0
  rw [h1] at y1
  have hi0 : (0 : Int) < (n : Int) := by omega
  have hi1 : (1 : Int) < (n : Int) := by omega
  have hs1 : (n : Int) < 20 := by omega
  have HB0 := Lib.hid hB0
  have HR0 := Lib.hid hR0
  unfold mv mz
  generalize sum xs = S at *
  clear h hn _hcap ho hB0 hR0 hcell h1 hk h0v h4
  go_enter Tryd.func19, Tryd.ntmps19
  go_wp2_with fail
  refine HS.mono ?_
  rintro e w1 ⟨rfl, hb⟩
  have hr := HR0.out.next hb
  have HB1 := Lib.hid (below_next HB0.out hb)
  have hRl := hr.lt
  have y0 := keepc y0 hb
  have y1 := keepc y1 hb
  have q1 : w.heap.size ≠ w1.heap.size := by omega
  have q1' := q1.symm
  have q2 : b ≠ w1.heap.size := by omega
  have q2' := q2.symm
  have q3 : b < w1.heap.size := by omega
  have t0 : w1.cell? ⟨w.heap.size, 0, none⟩ = _ := hr.cell 0
  have t1 : w1.cell? ⟨w.heap.size, 1, none⟩ = _ := hr.cell 1
  have t2 : w1.cell? ⟨w.heap.size, 2, none⟩ = _ := hr.cell 2
  have t3 : w1.cell? ⟨w.heap.size, 3, none⟩ = _ := hr.cell 3
  have t4 : w1.cell? ⟨w.heap.size, 4, none⟩ = _ := hr.cell 4
  have t5 : w1.cell? ⟨w.heap.size, 5, none⟩ = _ := hr.cell 5
  have t6 : w1.cell? ⟨w.heap.size, 6, none⟩ = _ := hr.cell 6
  have t7 : w1.cell? ⟨w.heap.size, 7, none⟩ = _ := hr.cell 7
  have t8 : w1.cell? ⟨w.heap.size, 8, none⟩ = _ := hr.cell 8
  have g0 : w1.frozen? ⟨w.heap.size, 0, none⟩ = false := hr.frozen 0
  have g1 : w1.frozen? ⟨w.heap.size, 1, none⟩ = false := hr.frozen 1
  have g2 : w1.frozen? ⟨w.heap.size, 2, none⟩ = false := hr.frozen 2
  have g3 : w1.frozen? ⟨w.heap.size, 3, none⟩ = false := hr.frozen 3
  have g4 : w1.frozen? ⟨w.heap.size, 4, none⟩ = false := hr.frozen 4
  have g5 : w1.frozen? ⟨w.heap.size, 5, none⟩ = false := hr.frozen 5
  have g6 : w1.frozen? ⟨w.heap.size, 6, none⟩ = false := hr.frozen 6
  have g7 : w1.frozen? ⟨w.heap.size, 7, none⟩ = false := hr.frozen 7
  have g8 : w1.frozen? ⟨w.heap.size, 8, none⟩ = false := hr.frozen 8
  clear hb hr
  go_wp2_with (go_at_call 44; refine (size_any 2 20 _ (by simp)).mono ?_; rintro e wa ⟨rfl, rfl⟩)
  refine bodyPost_ret (v := .tuple #[.agg #[.int .i64 0, .int .u32 0, .int .u32 0, .int .u32 0, .int .u32 0, .int .i64 0, .int .i64 0, .bool false, .slice none 0 0], .int .i64 101]) (by simp [results, Tryd.results19, go_sem, t0, t1, t2, t3, t4, t5, t6, t7, t8, hRl]) rfl ⟨rfl, ?_⟩
  have hbf := nine (P := fun W => Below w.heap.size w W) (fun W hW i u => hW.setCell (Nat.le_refl _) u) HB1.out
  exact (hbf _ _ _ _ _ _ _ _ _).alloc (hbf _ _ _ _ _ _ _ _ _).size _
set_option maxRecDepth 100000 in
set_option maxHeartbeats 8000000 in
theorem rrd_long2 (A : Option Addr) (n c : Nat) (xs : List Int) (w : World) (h : BR w A n xs) (hn : n ≤ 1048576) (_hcap : n ≤ c) (ho : oc (tot xs) = 65535) (h1 : xs.getD 1 0 = 0) (hk : rkind xs = 2) (h4 : 4 ≤ n) (hs : 20 < n) :
    Calls Tryd.prog 19 #[.slice A n c] w fun e w' => e = .returned (.tuple #[mv mz none 0 0, .int .i64 (102)]) ∧ Below w.heap.size w w' := by
  have hi : ¬ (n : Int) < 4 := by omega
  have hB0 : Below w.heap.size w (w.alloc (.cells #[.int .i64 0, .int .u32 0, .int .u32 0, .int .u32 0, .int .u32 0, .int .i64 0, .int .i64 0, .bool false, .slice none 0 0] 28)) := (Below.refl _ _).alloc (Nat.le_refl _) _
  have hR0 := Blk.new w 28 #[.int .i64 0, .int .u32 0, .int .u32 0, .int .u32 0, .int .u32 0, .int .i64 0, .int .i64 0, .bool false, .slice none 0 0]
  have HS := rsum_any A n c xs _ (h.next hB0) hn
  have hd : (sum xs != 0) = false := by rw [sum_zero]; simp [ho]
  obtain ⟨b, o, rfl, hlt, hcell⟩ := h.2.2 (by omega)
  have h0v : xs.getD 0 0 = 34 := by unfold rkind at hk; omega
  have y0 := keepc (hcell 0 (by omega)) hB0
  rw [Nat.add_zero, h0v] at y0
  have y1 := keepc (hcell 1 (by omega)) hB0
  rw [h1] at y1
  have hi0 : (0 : Int) < (n : Int) := by omega
  have hi1 : (1 : Int) < (n : Int) := by omega
  have hs1 : (20 : Int) < (n : Int) := by omega
  have hs2 : ¬ (n : Int) < 20 := by omega
  have HB0 := Lib.hid hB0
  have HR0 := Lib.hid hR0
  unfold mv mz
  generalize sum xs = S at *
  clear h hn _hcap ho hB0 hR0 hcell h1 hk h0v h4
  go_enter Tryd.func19, Tryd.ntmps19
  go_wp2_with fail
  refine HS.mono ?_
  rintro e w1 ⟨rfl, hb⟩
  have hr := HR0.out.next hb
  have HB1 := Lib.hid (below_next HB0.out hb)
  have hRl := hr.lt
  have y0 := keepc y0 hb
  have y1 := keepc y1 hb
  have q1 : w.heap.size ≠ w1.heap.size := by omega
  have q1' := q1.symm
  have q2 : b ≠ w1.heap.size := by omega
  have q2' := q2.symm
  have q3 : b < w1.heap.size := by omega
  have t0 : w1.cell? ⟨w.heap.size, 0, none⟩ = _ := hr.cell 0
  have t1 : w1.cell? ⟨w.heap.size, 1, none⟩ = _ := hr.cell 1
  have t2 : w1.cell? ⟨w.heap.size, 2, none⟩ = _ := hr.cell 2
  have t3 : w1.cell? ⟨w.heap.size, 3, none⟩ = _ := hr.cell 3
  have t4 : w1.cell? ⟨w.heap.size, 4, none⟩ = _ := hr.cell 4
  have t5 : w1.cell? ⟨w.heap.size, 5, none⟩ = _ := hr.cell 5
  have t6 : w1.cell? ⟨w.heap.size, 6, none⟩ = _ := hr.cell 6
  have t7 : w1.cell? ⟨w.heap.size, 7, none⟩ = _ := hr.cell 7
  have t8 : w1.cell? ⟨w.heap.size, 8, none⟩ = _ := hr.cell 8
  have g0 : w1.frozen? ⟨w.heap.size, 0, none⟩ = false := hr.frozen 0
  have g1 : w1.frozen? ⟨w.heap.size, 1, none⟩ = false := hr.frozen 1
  have g2 : w1.frozen? ⟨w.heap.size, 2, none⟩ = false := hr.frozen 2
  have g3 : w1.frozen? ⟨w.heap.size, 3, none⟩ = false := hr.frozen 3
  have g4 : w1.frozen? ⟨w.heap.size, 4, none⟩ = false := hr.frozen 4
  have g5 : w1.frozen? ⟨w.heap.size, 5, none⟩ = false := hr.frozen 5
  have g6 : w1.frozen? ⟨w.heap.size, 6, none⟩ = false := hr.frozen 6
  have g7 : w1.frozen? ⟨w.heap.size, 7, none⟩ = false := hr.frozen 7
  have g8 : w1.frozen? ⟨w.heap.size, 8, none⟩ = false := hr.frozen 8
  clear hb hr
  go_wp2_with (go_at_call 44; refine (size_any 2 20 _ (by simp)).mono ?_; rintro e wa ⟨rfl, rfl⟩)
  refine bodyPost_ret (v := .tuple #[.agg #[.int .i64 0, .int .u32 0, .int .u32 0, .int .u32 0, .int .u32 0, .int .i64 0, .int .i64 0, .bool false, .slice none 0 0], .int .i64 102]) (by simp [results, Tryd.results19, go_sem, t0, t1, t2, t3, t4, t5, t6, t7, t8, hRl]) rfl ⟨rfl, ?_⟩
  have hbf := nine (P := fun W => Below w.heap.size w W) (fun W hW i u => hW.setCell (Nat.le_refl _) u) HB1.out
  exact (hbf _ _ _ _ _ _ _ _ _).alloc (hbf _ _ _ _ _ _ _ _ _).size _
set_option maxRecDepth 100000 in
set_option maxHeartbeats 8000000 in
theorem rrd_ok2 (A : Option Addr) (n c : Nat) (xs : List Int) (w : World) (h : BR w A n xs) (hn : n ≤ 1048576) (_hcap : n ≤ c) (_h4 : 4 ≤ n) (ho : oc (tot xs) = 65535) (h1 : xs.getD 1 0 = 0) (hk : rkind xs = 2) (hsz : n = 20) (hrc : mrc xs = mcode (mrd xs)) :
    Calls Tryd.prog 19 #[.slice A n c] w (rreadOf xs w) := by
  have hi : ¬ (n : Int) < 4 := by omega
  have hB0 : Below w.heap.size w (w.alloc (.cells #[.int .i64 0, .int .u32 0, .int .u32 0, .int .u32 0, .int .u32 0, .int .i64 0, .int .i64 0, .bool false, .slice none 0 0] 28)) := (Below.refl _ _).alloc (Nat.le_refl _) _
  have hR0 := Blk.new w 28 #[.int .i64 0, .int .u32 0, .int .u32 0, .int .u32 0, .int .u32 0, .int .i64 0, .int .i64 0, .bool false, .slice none 0 0]
  have HS := rsum_any A n c xs _ (h.next hB0) hn
  have hd : (sum xs != 0) = false := by rw [sum_zero]; simp [ho]
  obtain ⟨b, o, rfl, hlt, hcell⟩ := h.2.2 (by omega)
  have h0v : xs.getD 0 0 = 34 := by unfold rkind at hk; omega
  have y0 := keepc (hcell 0 (by omega)) hB0
  rw [Nat.add_zero, h0v] at y0
  have y1 := keepc (hcell 1 (by omega)) hB0
  rw [h1] at y1
  have hi0 : (0 : Int) < (n : Int) := by omega
  have hi1 : (1 : Int) < (n : Int) := by omega
  have hmw := mrd_wf h.isB
  have hmr : mrd xs = ⟨2, ra xs 4, ra xs 8, ra xs 12, ra xs 16, 0, 0, false, []⟩ := by unfold mrd; rw [hk]; rfl
  have hsv : ∀ W, Calls Tryd.prog 10 #[mv (mrd xs) none 0 0] W fun e w' => e = .returned (.int .i64 (mcode (mrd xs))) ∧ Below W.heap.size W w' := fun W => rvalid_any (mrd xs) none 0 0 W hmw (by rw [hmr]; rfl)
  have hm : ∃ m : Ms, mrd xs = m ∧ m = ⟨2, ra xs 4, ra xs 8, ra xs 12, ra xs 16, 0, 0, false, []⟩ := ⟨_, rfl, hmr⟩
  obtain ⟨m, hm1, hm2⟩ := hm
  rw [hm1] at hsv hrc
  have HM1 := Lib.hid hm1
  have HM2 := Lib.hid hm2
  have HRC := Lib.hid hrc
  generalize hcd : mcode m = cd at *
  have HCD := Lib.hid hcd
  rw [hm2] at hsv
  have HBR := Lib.hid (fun W (hW : Below w.heap.size w W) => h.next hW)
  have HSV := Lib.hid hsv
  have HN := Lib.hid hn
  have HB0 := Lib.hid hB0
  have HR0 := Lib.hid hR0
  generalize sum xs = S at *
  have hs1 : (n : Int) = 20 := by omega
  clear h _hcap ho hB0 hR0 hcell h1 hk h0v _h4 hmw hmr hm1 hm2 hcd hrc hsv
  subst hsz
  clear hs1
  unfold mv at HSV
  go_enter Tryd.func19, Tryd.ntmps19
  go_wp2_with fail
  refine HS.mono ?_
  rintro e w1 ⟨rfl, hb⟩
  have hr := HR0.out.next hb
  have HB1 := Lib.hid (below_next HB0.out hb)
  have hRl := hr.lt
  have y0 := keepc y0 hb
  have y1 := keepc y1 hb
  have q1 : w.heap.size ≠ w1.heap.size := by omega
  have q1' := q1.symm
  have q2 : b ≠ w1.heap.size := by omega
  have q2' := q2.symm
  have q3 : b < w1.heap.size := by omega
  go_wp2_with (go_at_call 44; refine (size_any 2 20 _ (by simp)).mono ?_; rintro e wa ⟨rfl, rfl⟩)
  have hm2 := Blk.new w1 28 #[.int .i64 2, .int .u32 0, .int .u32 0, .int .u32 0, .int .u32 0, .int .i64 0, .int .i64 0, .bool false, .slice none 0 0]
  have hr2 := hr.alloc (.cells #[.int .i64 2, .int .u32 0, .int .u32 0, .int .u32 0, .int .u32 0, .int .i64 0, .int .i64 0, .bool false, .slice none 0 0] 28)
  have hb2 := HB1.out.alloc HB1.out.size (.cells #[.int .i64 2, .int .u32 0, .int .u32 0, .int .u32 0, .int .u32 0, .int .i64 0, .int .i64 0, .bool false, .slice none 0 0] 28)
  have hMw := HB1.out.size
  generalize hM0 : w1.heap.size = M at *
  generalize w1.alloc (.cells #[.int .i64 2, .int .u32 0, .int .u32 0, .int .u32 0, .int .u32 0, .int .i64 0, .int .i64 0, .bool false, .slice none 0 0] 28) = W2 at *
  have HM := Lib.hid hm2
  have HR := Lib.hid hr2
  have HB := Lib.hid hb2
  clear hm2 hr2 hb2 hb hr y0 y1 q1 q1' q2 q2' q3 HB1 HS hM0
  refine (at_at _ 20 c xs _ 4 4 rfl (HBR.out _ HB.out) (by omega) HN.out).mono ?_
  rintro e w3 ⟨rfl, hb⟩
  have hm := HM.out.next hb
  have hr := HR.out.next hb
  have hbb := below_next HB.out hb
  clear hb HM HR HB
  have f1 : w3.frozen? ⟨M, 1, none⟩ = false := hm.frozen 1
  have x1 : w3.cell? ⟨M, 1, none⟩ = some (.int .u32 0) := hm.cell 1
  have x0 : w3.cell? ⟨M, 0, none⟩ = some (.int .i64 2) := hm.cell 0
  have HM := Lib.hid ((hm).set_to (cs' := #[.int .i64 2, .int .u32 (ra xs 4), .int .u32 0, .int .u32 0, .int .u32 0, .int .i64 0, .int .i64 0, .bool false, .slice none 0 0]) 1 (.int .u32 (ra xs 4)) rfl)
  have HR := Lib.hid ((hr).far (p := ⟨M, 1, none⟩) (Nat.ne_of_lt hRl) (.int .u32 (ra xs 4)))
  have HB := Lib.hid ((hbb).setCell (show w.heap.size ≤ (⟨M, 1, none⟩ : Addr).block from hMw) (.int .u32 (ra xs 4)))
  clear hm hr hbb
  go_wp2_with fail
  clear f1 x1 x0
  generalize (w3.setCell ⟨M, 1, none⟩ (.int .u32 (ra xs 4))) = V3 at *
  refine (at_at _ 20 c xs _ 8 8 rfl (HBR.out _ HB.out) (by omega) HN.out).mono ?_
  rintro e w4 ⟨rfl, hb⟩
  have hm := HM.out.next hb
  have hr := HR.out.next hb
  have hbb := below_next HB.out hb
  clear hb HM HR HB
  have f2 : w4.frozen? ⟨M, 2, none⟩ = false := hm.frozen 2
  have x2 : w4.cell? ⟨M, 2, none⟩ = some (.int .u32 0) := hm.cell 2
  have HM := Lib.hid ((hm).set_to (cs' := #[.int .i64 2, .int .u32 (ra xs 4), .int .u32 (ra xs 8), .int .u32 0, .int .u32 0, .int .i64 0, .int .i64 0, .bool false, .slice none 0 0]) 2 (.int .u32 (ra xs 8)) rfl)
  have HR := Lib.hid ((hr).far (p := ⟨M, 2, none⟩) (Nat.ne_of_lt hRl) (.int .u32 (ra xs 8)))
  have HB := Lib.hid ((hbb).setCell (show w.heap.size ≤ (⟨M, 2, none⟩ : Addr).block from hMw) (.int .u32 (ra xs 8)))
  clear hm hr hbb
  go_wp2_with fail
  clear f2 x2
  generalize (w4.setCell ⟨M, 2, none⟩ (.int .u32 (ra xs 8))) = V4 at *
  refine (at_at _ 20 c xs _ 12 12 rfl (HBR.out _ HB.out) (by omega) HN.out).mono ?_
  rintro e w5 ⟨rfl, hb⟩
  have hm := HM.out.next hb
  have hr := HR.out.next hb
  have hbb := below_next HB.out hb
  clear hb HM HR HB
  have HM := Lib.hid hm
  have HR := Lib.hid hr
  have HB := Lib.hid hbb
  clear hm hr hbb
  go_wp2_with fail
  refine (at_at _ 20 c xs _ 16 16 rfl (HBR.out _ HB.out) (by omega) HN.out).mono ?_
  rintro e w6 ⟨rfl, hb⟩
  have hm := HM.out.next hb
  have hr := HR.out.next hb
  have hbb := below_next HB.out hb
  clear hb HM HR HB
  have f3 : w6.frozen? ⟨M, 3, none⟩ = false := hm.frozen 3
  have x3 : w6.cell? ⟨M, 3, none⟩ = some (.int .u32 0) := hm.cell 3
  have f4 : w6.frozen? ⟨M, 4, none⟩ = false := hm.frozen 4
  have x4 : w6.cell? ⟨M, 4, none⟩ = some (.int .u32 0) := hm.cell 4
  have x0 : w6.cell? ⟨M, 0, none⟩ = some (.int .i64 2) := hm.cell 0
  have x1 : w6.cell? ⟨M, 1, none⟩ = some (.int .u32 (ra xs 4)) := hm.cell 1
  have x2 : w6.cell? ⟨M, 2, none⟩ = some (.int .u32 (ra xs 8)) := hm.cell 2
  have x5 : w6.cell? ⟨M, 5, none⟩ = some (.int .i64 0) := hm.cell 5
  have x6 : w6.cell? ⟨M, 6, none⟩ = some (.int .i64 0) := hm.cell 6
  have x7 : w6.cell? ⟨M, 7, none⟩ = some (.bool false) := hm.cell 7
  have x8 : w6.cell? ⟨M, 8, none⟩ = some (.slice none 0 0) := hm.cell 8
  have HM := Lib.hid ((((hm).set_to (cs' := #[.int .i64 2, .int .u32 (ra xs 4), .int .u32 (ra xs 8), .int .u32 (ra xs 12), .int .u32 0, .int .i64 0, .int .i64 0, .bool false, .slice none 0 0]) 3 (.int .u32 (ra xs 12)) rfl)).set_to (cs' := #[.int .i64 2, .int .u32 (ra xs 4), .int .u32 (ra xs 8), .int .u32 (ra xs 12), .int .u32 (ra xs 16), .int .i64 0, .int .i64 0, .bool false, .slice none 0 0]) 4 (.int .u32 (ra xs 16)) rfl)
  have HR := Lib.hid ((((hr).far (p := ⟨M, 3, none⟩) (Nat.ne_of_lt hRl) (.int .u32 (ra xs 12)))).far (p := ⟨M, 4, none⟩) (Nat.ne_of_lt hRl) (.int .u32 (ra xs 16)))
  have HB := Lib.hid ((((hbb).setCell (show w.heap.size ≤ (⟨M, 3, none⟩ : Addr).block from hMw) (.int .u32 (ra xs 12)))).setCell (show w.heap.size ≤ (⟨M, 4, none⟩ : Addr).block from hMw) (.int .u32 (ra xs 16)))
  clear hm hr hbb
  go_wp2_with fail
  refine (HSV.out _).mono ?_
  rintro e w9 ⟨rfl, hb⟩
  have hm := HM.out.next hb
  have hr := HR.out.next hb
  have HB9 := Lib.hid (below_next HB.out hb)
  clear hb
  have t0 : w9.cell? ⟨w.heap.size, 0, none⟩ = _ := hr.cell 0
  have t1 : w9.cell? ⟨w.heap.size, 1, none⟩ = _ := hr.cell 1
  have t2 : w9.cell? ⟨w.heap.size, 2, none⟩ = _ := hr.cell 2
  have t3 : w9.cell? ⟨w.heap.size, 3, none⟩ = _ := hr.cell 3
  have t4 : w9.cell? ⟨w.heap.size, 4, none⟩ = _ := hr.cell 4
  have t5 : w9.cell? ⟨w.heap.size, 5, none⟩ = _ := hr.cell 5
  have t6 : w9.cell? ⟨w.heap.size, 6, none⟩ = _ := hr.cell 6
  have t7 : w9.cell? ⟨w.heap.size, 7, none⟩ = _ := hr.cell 7
  have t8 : w9.cell? ⟨w.heap.size, 8, none⟩ = _ := hr.cell 8
  have g0 : w9.frozen? ⟨w.heap.size, 0, none⟩ = false := hr.frozen 0
  have g1 : w9.frozen? ⟨w.heap.size, 1, none⟩ = false := hr.frozen 1
  have g2 : w9.frozen? ⟨w.heap.size, 2, none⟩ = false := hr.frozen 2
  have g3 : w9.frozen? ⟨w.heap.size, 3, none⟩ = false := hr.frozen 3
  have g4 : w9.frozen? ⟨w.heap.size, 4, none⟩ = false := hr.frozen 4
  have g5 : w9.frozen? ⟨w.heap.size, 5, none⟩ = false := hr.frozen 5
  have g6 : w9.frozen? ⟨w.heap.size, 6, none⟩ = false := hr.frozen 6
  have g7 : w9.frozen? ⟨w.heap.size, 7, none⟩ = false := hr.frozen 7
  have g8 : w9.frozen? ⟨w.heap.size, 8, none⟩ = false := hr.frozen 8
  have x0 : w9.cell? ⟨M, 0, none⟩ = some (.int .i64 2) := hm.cell 0
  have x1 : w9.cell? ⟨M, 1, none⟩ = some (.int .u32 (ra xs 4)) := hm.cell 1
  have x2 : w9.cell? ⟨M, 2, none⟩ = some (.int .u32 (ra xs 8)) := hm.cell 2
  have x3 : w9.cell? ⟨M, 3, none⟩ = some (.int .u32 (ra xs 12)) := hm.cell 3
  have x4 : w9.cell? ⟨M, 4, none⟩ = some (.int .u32 (ra xs 16)) := hm.cell 4
  have x5 : w9.cell? ⟨M, 5, none⟩ = some (.int .i64 0) := hm.cell 5
  have x6 : w9.cell? ⟨M, 6, none⟩ = some (.int .i64 0) := hm.cell 6
  have x7 : w9.cell? ⟨M, 7, none⟩ = some (.bool false) := hm.cell 7
  have x8 : w9.cell? ⟨M, 8, none⟩ = some (.slice none 0 0) := hm.cell 8
  clear hm hr
  have hbf := nine (P := fun W => Below w.heap.size w W) (fun W hW i u => hW.setCell (Nat.le_refl _) u) HB9.out
  have HBF := Lib.hid hbf
  clear hbf
  by_cases hz : cd = 0
  · have hz1 : (cd != 0) = false := by simpa using hz
    have HZ := Lib.hid hz
    clear hz
    go_wp2
    refine bodyPost_ret (v := .tuple #[.agg #[.int .i64 2, .int .u32 (ra xs 4), .int .u32 (ra xs 8), .int .u32 (ra xs 12), .int .u32 (ra xs 16), .int .i64 0, .int .i64 0, .bool false, .slice none 0 0], .int .i64 cd]) (by simp [results, Tryd.results19, go_sem, t0, t1, t2, t3, t4, t5, t6, t7, t8]) rfl ?_
    have hms : mres xs = m := by unfold mres; rw [HRC.out, if_pos HZ.out, HM1.out]
    exact ⟨none, 0, 0, by rw [hms, HRC.out, HM2.out]; rfl, by rw [hms, HM2.out]; exact AR.none_ _ _, HBF.out _ _ _ _ _ _ _ _ _⟩
  · have hz1 : (cd != 0) = true := by simpa using hz
    have HZ := Lib.hid hz
    clear hz
    go_wp2
    refine bodyPost_ret (v := .tuple #[.agg #[.int .i64 0, .int .u32 0, .int .u32 0, .int .u32 0, .int .u32 0, .int .i64 0, .int .i64 0, .bool false, .slice none 0 0], .int .i64 cd]) (by simp [results, Tryd.results19, go_sem, t0, t1, t2, t3, t4, t5, t6, t7, t8]) rfl ?_
    have hms : mres xs = mz := by unfold mres; rw [HRC.out, if_neg HZ.out]
    exact ⟨none, 0, 0, by rw [hms, HRC.out]; rfl, by rw [hms]; exact AR.none_ _ _, HBF.out _ _ _ _ _ _ _ _ _⟩
set_option maxRecDepth 100000 in
set_option maxHeartbeats 8000000 in
theorem rrd_short3 (A : Option Addr) (n c : Nat) (xs : List Int) (w : World) (h : BR w A n xs) (hn : n ≤ 1048576) (_hcap : n ≤ c) (ho : oc (tot xs) = 65535) (h1 : xs.getD 1 0 = 0) (hk : rkind xs = 3) (h4 : 4 ≤ n) (hs : n < 18) :
    Calls Tryd.prog 19 #[.slice A n c] w fun e w' => e = .returned (.tuple #[mv mz none 0 0, .int .i64 (101)]) ∧ Below w.heap.size w w' := by
  have hi : ¬ (n : Int) < 4 := by omega
  have hB0 : Below w.heap.size w (w.alloc (.cells #[.int .i64 0, .int .u32 0, .int .u32 0, .int .u32 0, .int .u32 0, .int .i64 0, .int .i64 0, .bool false, .slice none 0 0] 28)) := (Below.refl _ _).alloc (Nat.le_refl _) _
  have hR0 := Blk.new w 28 #[.int .i64 0, .int .u32 0, .int .u32 0, .int .u32 0, .int .u32 0, .int .i64 0, .int .i64 0, .bool false, .slice none 0 0]
  have HS := rsum_any A n c xs _ (h.next hB0) hn
  have hd : (sum xs != 0) = false := by rw [sum_zero]; simp [ho]
  obtain ⟨b, o, rfl, hlt, hcell⟩ := h.2.2 (by omega)
  have h0v : xs.getD 0 0 = 35 := by unfold rkind at hk; omega
  have y0 := keepc (hcell 0 (by omega)) hB0
  rw [Nat.add_zero, h0v] at y0
  have y1 := keepc (hcell 1 (by omega)) hB0
  rw [h1] at y1
  have hi0 : (0 : Int) < (n : Int) := by omega
  have hi1 : (1 : Int) < (n : Int) := by omega
  have hs1 : (n : Int) < 18 := by omega
  have HB0 := Lib.hid hB0
  have HR0 := Lib.hid hR0
  unfold mv mz
  generalize sum xs = S at *
  clear h hn _hcap ho hB0 hR0 hcell h1 hk h0v h4
  go_enter Tryd.func19, Tryd.ntmps19
  go_wp2_with fail
  refine HS.mono ?_
  rintro e w1 ⟨rfl, hb⟩
  have hr := HR0.out.next hb
  have HB1 := Lib.hid (below_next HB0.out hb)
  have hRl := hr.lt
  have y0 := keepc y0 hb
  have y1 := keepc y1 hb
  have q1 : w.heap.size ≠ w1.heap.size := by omega
  have q1' := q1.symm
  have q2 : b ≠ w1.heap.size := by omega
  have q2' := q2.symm
  have q3 : b < w1.heap.size := by omega
  have t0 : w1.cell? ⟨w.heap.size, 0, none⟩ = _ := hr.cell 0
  have t1 : w1.cell? ⟨w.heap.size, 1, none⟩ = _ := hr.cell 1
  have t2 : w1.cell? ⟨w.heap.size, 2, none⟩ = _ := hr.cell 2
  have t3 : w1.cell? ⟨w.heap.size, 3, none⟩ = _ := hr.cell 3
  have t4 : w1.cell? ⟨w.heap.size, 4, none⟩ = _ := hr.cell 4
  have t5 : w1.cell? ⟨w.heap.size, 5, none⟩ = _ := hr.cell 5
  have t6 : w1.cell? ⟨w.heap.size, 6, none⟩ = _ := hr.cell 6
  have t7 : w1.cell? ⟨w.heap.size, 7, none⟩ = _ := hr.cell 7
  have t8 : w1.cell? ⟨w.heap.size, 8, none⟩ = _ := hr.cell 8
  have g0 : w1.frozen? ⟨w.heap.size, 0, none⟩ = false := hr.frozen 0
  have g1 : w1.frozen? ⟨w.heap.size, 1, none⟩ = false := hr.frozen 1
  have g2 : w1.frozen? ⟨w.heap.size, 2, none⟩ = false := hr.frozen 2
  have g3 : w1.frozen? ⟨w.heap.size, 3, none⟩ = false := hr.frozen 3
  have g4 : w1.frozen? ⟨w.heap.size, 4, none⟩ = false := hr.frozen 4
  have g5 : w1.frozen? ⟨w.heap.size, 5, none⟩ = false := hr.frozen 5
  have g6 : w1.frozen? ⟨w.heap.size, 6, none⟩ = false := hr.frozen 6
  have g7 : w1.frozen? ⟨w.heap.size, 7, none⟩ = false := hr.frozen 7
  have g8 : w1.frozen? ⟨w.heap.size, 8, none⟩ = false := hr.frozen 8
  clear hb hr
  go_wp2_with (go_at_call 44; refine (size_any 3 18 _ (by simp)).mono ?_; rintro e wa ⟨rfl, rfl⟩)
  refine bodyPost_ret (v := .tuple #[.agg #[.int .i64 0, .int .u32 0, .int .u32 0, .int .u32 0, .int .u32 0, .int .i64 0, .int .i64 0, .bool false, .slice none 0 0], .int .i64 101]) (by simp [results, Tryd.results19, go_sem, t0, t1, t2, t3, t4, t5, t6, t7, t8, hRl]) rfl ⟨rfl, ?_⟩
  have hbf := nine (P := fun W => Below w.heap.size w W) (fun W hW i u => hW.setCell (Nat.le_refl _) u) HB1.out
  exact (hbf _ _ _ _ _ _ _ _ _).alloc (hbf _ _ _ _ _ _ _ _ _).size _
set_option maxRecDepth 100000 in
set_option maxHeartbeats 8000000 in
theorem rrd_long3 (A : Option Addr) (n c : Nat) (xs : List Int) (w : World) (h : BR w A n xs) (hn : n ≤ 1048576) (_hcap : n ≤ c) (ho : oc (tot xs) = 65535) (h1 : xs.getD 1 0 = 0) (hk : rkind xs = 3) (h4 : 4 ≤ n) (hs : 18 < n) :
    Calls Tryd.prog 19 #[.slice A n c] w fun e w' => e = .returned (.tuple #[mv mz none 0 0, .int .i64 (102)]) ∧ Below w.heap.size w w' := by
  have hi : ¬ (n : Int) < 4 := by omega
  have hB0 : Below w.heap.size w (w.alloc (.cells #[.int .i64 0, .int .u32 0, .int .u32 0, .int .u32 0, .int .u32 0, .int .i64 0, .int .i64 0, .bool false, .slice none 0 0] 28)) := (Below.refl _ _).alloc (Nat.le_refl _) _
  have hR0 := Blk.new w 28 #[.int .i64 0, .int .u32 0, .int .u32 0, .int .u32 0, .int .u32 0, .int .i64 0, .int .i64 0, .bool false, .slice none 0 0]
  have HS := rsum_any A n c xs _ (h.next hB0) hn
  have hd : (sum xs != 0) = false := by rw [sum_zero]; simp [ho]
  obtain ⟨b, o, rfl, hlt, hcell⟩ := h.2.2 (by omega)
  have h0v : xs.getD 0 0 = 35 := by unfold rkind at hk; omega
  have y0 := keepc (hcell 0 (by omega)) hB0
  rw [Nat.add_zero, h0v] at y0
  have y1 := keepc (hcell 1 (by omega)) hB0
  rw [h1] at y1
  have hi0 : (0 : Int) < (n : Int) := by omega
  have hi1 : (1 : Int) < (n : Int) := by omega
  have hs1 : (18 : Int) < (n : Int) := by omega
  have hs2 : ¬ (n : Int) < 18 := by omega
  have HB0 := Lib.hid hB0
  have HR0 := Lib.hid hR0
  unfold mv mz
  generalize sum xs = S at *
  clear h hn _hcap ho hB0 hR0 hcell h1 hk h0v h4
  go_enter Tryd.func19, Tryd.ntmps19
  go_wp2_with fail
  refine HS.mono ?_
  rintro e w1 ⟨rfl, hb⟩
  have hr := HR0.out.next hb
  have HB1 := Lib.hid (below_next HB0.out hb)
  have hRl := hr.lt
  have y0 := keepc y0 hb
  have y1 := keepc y1 hb
  have q1 : w.heap.size ≠ w1.heap.size := by omega
  have q1' := q1.symm
  have q2 : b ≠ w1.heap.size := by omega
  have q2' := q2.symm
  have q3 : b < w1.heap.size := by omega
  have t0 : w1.cell? ⟨w.heap.size, 0, none⟩ = _ := hr.cell 0
  have t1 : w1.cell? ⟨w.heap.size, 1, none⟩ = _ := hr.cell 1
  have t2 : w1.cell? ⟨w.heap.size, 2, none⟩ = _ := hr.cell 2
  have t3 : w1.cell? ⟨w.heap.size, 3, none⟩ = _ := hr.cell 3
  have t4 : w1.cell? ⟨w.heap.size, 4, none⟩ = _ := hr.cell 4
  have t5 : w1.cell? ⟨w.heap.size, 5, none⟩ = _ := hr.cell 5
  have t6 : w1.cell? ⟨w.heap.size, 6, none⟩ = _ := hr.cell 6
  have t7 : w1.cell? ⟨w.heap.size, 7, none⟩ = _ := hr.cell 7
  have t8 : w1.cell? ⟨w.heap.size, 8, none⟩ = _ := hr.cell 8
  have g0 : w1.frozen? ⟨w.heap.size, 0, none⟩ = false := hr.frozen 0
  have g1 : w1.frozen? ⟨w.heap.size, 1, none⟩ = false := hr.frozen 1
  have g2 : w1.frozen? ⟨w.heap.size, 2, none⟩ = false := hr.frozen 2
  have g3 : w1.frozen? ⟨w.heap.size, 3, none⟩ = false := hr.frozen 3
  have g4 : w1.frozen? ⟨w.heap.size, 4, none⟩ = false := hr.frozen 4
  have g5 : w1.frozen? ⟨w.heap.size, 5, none⟩ = false := hr.frozen 5
  have g6 : w1.frozen? ⟨w.heap.size, 6, none⟩ = false := hr.frozen 6
  have g7 : w1.frozen? ⟨w.heap.size, 7, none⟩ = false := hr.frozen 7
  have g8 : w1.frozen? ⟨w.heap.size, 8, none⟩ = false := hr.frozen 8
  clear hb hr
  go_wp2_with (go_at_call 44; refine (size_any 3 18 _ (by simp)).mono ?_; rintro e wa ⟨rfl, rfl⟩)
  refine bodyPost_ret (v := .tuple #[.agg #[.int .i64 0, .int .u32 0, .int .u32 0, .int .u32 0, .int .u32 0, .int .i64 0, .int .i64 0, .bool false, .slice none 0 0], .int .i64 102]) (by simp [results, Tryd.results19, go_sem, t0, t1, t2, t3, t4, t5, t6, t7, t8, hRl]) rfl ⟨rfl, ?_⟩
  have hbf := nine (P := fun W => Below w.heap.size w W) (fun W hW i u => hW.setCell (Nat.le_refl _) u) HB1.out
  exact (hbf _ _ _ _ _ _ _ _ _).alloc (hbf _ _ _ _ _ _ _ _ _).size _
set_option maxRecDepth 100000 in
set_option maxHeartbeats 8000000 in
theorem rrd_ok3 (A : Option Addr) (n c : Nat) (xs : List Int) (w : World) (h : BR w A n xs) (hn : n ≤ 1048576) (_hcap : n ≤ c) (_h4 : 4 ≤ n) (ho : oc (tot xs) = 65535) (h1 : xs.getD 1 0 = 0) (hk : rkind xs = 3) (hsz : n = 18) (hrc : mrc xs = mcode (mrd xs)) :
    Calls Tryd.prog 19 #[.slice A n c] w (rreadOf xs w) := by
  have hi : ¬ (n : Int) < 4 := by omega
  have hB0 : Below w.heap.size w (w.alloc (.cells #[.int .i64 0, .int .u32 0, .int .u32 0, .int .u32 0, .int .u32 0, .int .i64 0, .int .i64 0, .bool false, .slice none 0 0] 28)) := (Below.refl _ _).alloc (Nat.le_refl _) _
  have hR0 := Blk.new w 28 #[.int .i64 0, .int .u32 0, .int .u32 0, .int .u32 0, .int .u32 0, .int .i64 0, .int .i64 0, .bool false, .slice none 0 0]
  have HS := rsum_any A n c xs _ (h.next hB0) hn
  have hd : (sum xs != 0) = false := by rw [sum_zero]; simp [ho]
  obtain ⟨b, o, rfl, hlt, hcell⟩ := h.2.2 (by omega)
  have h0v : xs.getD 0 0 = 35 := by unfold rkind at hk; omega
  have y0 := keepc (hcell 0 (by omega)) hB0
  rw [Nat.add_zero, h0v] at y0
  have y1 := keepc (hcell 1 (by omega)) hB0
  rw [h1] at y1
  have y16 := keepc (hcell 16 (by omega)) hB0
  have hi16 : (16 : Int) < (n : Int) := by omega
  have B16 := h.isB.at_ 16
  have y17 := keepc (hcell 17 (by omega)) hB0
  have hi17 : (17 : Int) < (n : Int) := by omega
  have B17 := h.isB.at_ 17
  have hi0 : (0 : Int) < (n : Int) := by omega
  have hi1 : (1 : Int) < (n : Int) := by omega
  have hmw := mrd_wf h.isB
  have hmr : mrd xs = ⟨3, ra xs 4, 0, ra xs 8, ra xs 12, 0, rn xs 16, false, []⟩ := by unfold mrd; rw [hk]; rfl
  have hsv : ∀ W, Calls Tryd.prog 10 #[mv (mrd xs) none 0 0] W fun e w' => e = .returned (.int .i64 (mcode (mrd xs))) ∧ Below W.heap.size W w' := fun W => rvalid_any (mrd xs) none 0 0 W hmw (by rw [hmr]; rfl)
  have hm : ∃ m : Ms, mrd xs = m ∧ m = ⟨3, ra xs 4, 0, ra xs 8, ra xs 12, 0, rn xs 16, false, []⟩ := ⟨_, rfl, hmr⟩
  obtain ⟨m, hm1, hm2⟩ := hm
  rw [hm1] at hsv hrc
  have HM1 := Lib.hid hm1
  have HM2 := Lib.hid hm2
  have HRC := Lib.hid hrc
  generalize hcd : mcode m = cd at *
  have HCD := Lib.hid hcd
  rw [hm2] at hsv
  have HBR := Lib.hid (fun W (hW : Below w.heap.size w W) => h.next hW)
  have hor := or_i64 _ _ B16.1 B16.2 B17.1 B17.2
  have HRN := Lib.hid (show rn xs 16 = xs.getD 16 0 * 256 + xs.getD 17 0 from rfl)
  have z16 := hcell 16 (by omega)
  have z17 := hcell 17 (by omega)
  generalize xs.getD 16 0 = v16 at *
  generalize xs.getD 17 0 = v17 at *
  rw [HRN.out] at hsv
  have HSV := Lib.hid hsv
  have HN := Lib.hid hn
  have HB0 := Lib.hid hB0
  have HR0 := Lib.hid hR0
  generalize sum xs = S at *
  have hs1 : (n : Int) = 18 := by omega
  clear h _hcap ho hB0 hR0 hcell h1 hk h0v _h4 hmw hmr hm1 hm2 hcd hrc hsv
  subst hsz
  clear hs1
  unfold mv at HSV
  go_enter Tryd.func19, Tryd.ntmps19
  go_wp2_with fail
  refine HS.mono ?_
  rintro e w1 ⟨rfl, hb⟩
  have hr := HR0.out.next hb
  have HB1 := Lib.hid (below_next HB0.out hb)
  have hRl := hr.lt
  have y0 := keepc y0 hb
  have y1 := keepc y1 hb
  have q1 : w.heap.size ≠ w1.heap.size := by omega
  have q1' := q1.symm
  have q2 : b ≠ w1.heap.size := by omega
  have q2' := q2.symm
  have q3 : b < w1.heap.size := by omega
  go_wp2_with (go_at_call 44; refine (size_any 3 18 _ (by simp)).mono ?_; rintro e wa ⟨rfl, rfl⟩)
  have hm2 := Blk.new w1 28 #[.int .i64 3, .int .u32 0, .int .u32 0, .int .u32 0, .int .u32 0, .int .i64 0, .int .i64 0, .bool false, .slice none 0 0]
  have hr2 := hr.alloc (.cells #[.int .i64 3, .int .u32 0, .int .u32 0, .int .u32 0, .int .u32 0, .int .i64 0, .int .i64 0, .bool false, .slice none 0 0] 28)
  have hb2 := HB1.out.alloc HB1.out.size (.cells #[.int .i64 3, .int .u32 0, .int .u32 0, .int .u32 0, .int .u32 0, .int .i64 0, .int .i64 0, .bool false, .slice none 0 0] 28)
  have hMw := HB1.out.size
  generalize hM0 : w1.heap.size = M at *
  generalize w1.alloc (.cells #[.int .i64 3, .int .u32 0, .int .u32 0, .int .u32 0, .int .u32 0, .int .i64 0, .int .i64 0, .bool false, .slice none 0 0] 28) = W2 at *
  have HM := Lib.hid hm2
  have HR := Lib.hid hr2
  have HB := Lib.hid hb2
  clear hm2 hr2 hb2 hb hr y0 y1 q1 q1' q2 q2' q3 HB1 HS y16 y17 hM0
  refine (at_at _ 18 c xs _ 4 4 rfl (HBR.out _ HB.out) (by omega) HN.out).mono ?_
  rintro e w3 ⟨rfl, hb⟩
  have hm := HM.out.next hb
  have hr := HR.out.next hb
  have hbb := below_next HB.out hb
  clear hb HM HR HB
  have f1 : w3.frozen? ⟨M, 1, none⟩ = false := hm.frozen 1
  have x1 : w3.cell? ⟨M, 1, none⟩ = some (.int .u32 0) := hm.cell 1
  have x0 : w3.cell? ⟨M, 0, none⟩ = some (.int .i64 3) := hm.cell 0
  have HM := Lib.hid ((hm).set_to (cs' := #[.int .i64 3, .int .u32 (ra xs 4), .int .u32 0, .int .u32 0, .int .u32 0, .int .i64 0, .int .i64 0, .bool false, .slice none 0 0]) 1 (.int .u32 (ra xs 4)) rfl)
  have HR := Lib.hid ((hr).far (p := ⟨M, 1, none⟩) (Nat.ne_of_lt hRl) (.int .u32 (ra xs 4)))
  have HB := Lib.hid ((hbb).setCell (show w.heap.size ≤ (⟨M, 1, none⟩ : Addr).block from hMw) (.int .u32 (ra xs 4)))
  clear hm hr hbb
  go_wp2_with fail
  clear f1 x1 x0
  generalize (w3.setCell ⟨M, 1, none⟩ (.int .u32 (ra xs 4))) = V3 at *
  refine (at_at _ 18 c xs _ 8 8 rfl (HBR.out _ HB.out) (by omega) HN.out).mono ?_
  rintro e w4 ⟨rfl, hb⟩
  have hm := HM.out.next hb
  have hr := HR.out.next hb
  have hbb := below_next HB.out hb
  clear hb HM HR HB
  have HM := Lib.hid hm
  have HR := Lib.hid hr
  have HB := Lib.hid hbb
  clear hm hr hbb
  go_wp2_with fail
  refine (at_at _ 18 c xs _ 12 12 rfl (HBR.out _ HB.out) (by omega) HN.out).mono ?_
  rintro e w5 ⟨rfl, hb⟩
  have hm := HM.out.next hb
  have hr := HR.out.next hb
  have hbb := below_next HB.out hb
  clear hb HM HR HB
  have f3 : w5.frozen? ⟨M, 3, none⟩ = false := hm.frozen 3
  have x3 : w5.cell? ⟨M, 3, none⟩ = some (.int .u32 0) := hm.cell 3
  have f4 : w5.frozen? ⟨M, 4, none⟩ = false := hm.frozen 4
  have x4 : w5.cell? ⟨M, 4, none⟩ = some (.int .u32 0) := hm.cell 4
  have HM := Lib.hid ((((hm).set_to (cs' := #[.int .i64 3, .int .u32 (ra xs 4), .int .u32 0, .int .u32 (ra xs 8), .int .u32 0, .int .i64 0, .int .i64 0, .bool false, .slice none 0 0]) 3 (.int .u32 (ra xs 8)) rfl)).set_to (cs' := #[.int .i64 3, .int .u32 (ra xs 4), .int .u32 0, .int .u32 (ra xs 8), .int .u32 (ra xs 12), .int .i64 0, .int .i64 0, .bool false, .slice none 0 0]) 4 (.int .u32 (ra xs 12)) rfl)
  have HR := Lib.hid ((((hr).far (p := ⟨M, 3, none⟩) (Nat.ne_of_lt hRl) (.int .u32 (ra xs 8)))).far (p := ⟨M, 4, none⟩) (Nat.ne_of_lt hRl) (.int .u32 (ra xs 12)))
  have HB := Lib.hid ((((hbb).setCell (show w.heap.size ≤ (⟨M, 3, none⟩ : Addr).block from hMw) (.int .u32 (ra xs 8)))).setCell (show w.heap.size ≤ (⟨M, 4, none⟩ : Addr).block from hMw) (.int .u32 (ra xs 12)))
  clear hm hr hbb
  skip
  go_wp2_with fail
  clear f3 x3 f4 x4
  generalize ((w5.setCell ⟨M, 3, none⟩ (.int .u32 (ra xs 8))).setCell ⟨M, 4, none⟩ (.int .u32 (ra xs 12))) = V5 at *
  have z16 := keepc z16 HB.out
  have z17 := keepc z17 HB.out
  have ix16 : (16 : Int) < ((18 : Nat) : Int) := by omega
  have ix17 : (17 : Int) < ((18 : Nat) : Int) := by omega
  have x0 : V5.cell? ⟨M, 0, none⟩ = some (.int .i64 3) := HM.out.cell 0
  have x1 : V5.cell? ⟨M, 1, none⟩ = some (.int .u32 (ra xs 4)) := HM.out.cell 1
  have x2 : V5.cell? ⟨M, 2, none⟩ = some (.int .u32 0) := HM.out.cell 2
  have x3 : V5.cell? ⟨M, 3, none⟩ = some (.int .u32 (ra xs 8)) := HM.out.cell 3
  have x4 : V5.cell? ⟨M, 4, none⟩ = some (.int .u32 (ra xs 12)) := HM.out.cell 4
  have x5 : V5.cell? ⟨M, 5, none⟩ = some (.int .i64 0) := HM.out.cell 5
  have x7 : V5.cell? ⟨M, 7, none⟩ = some (.bool false) := HM.out.cell 7
  have x8 : V5.cell? ⟨M, 8, none⟩ = some (.slice none 0 0) := HM.out.cell 8
  have f6 : V5.frozen? ⟨M, 6, none⟩ = false := HM.out.frozen 6
  have x6 : V5.cell? ⟨M, 6, none⟩ = some (.int .i64 0) := HM.out.cell 6
  skip
  go_region
  have HM := Lib.hid ((HM.out.set_to (cs' := #[.int .i64 3, .int .u32 (ra xs 4), .int .u32 0, .int .u32 (ra xs 8), .int .u32 (ra xs 12), .int .i64 0, .int .i64 (v16 * 256 + v17), .bool false, .slice none 0 0]) 6 (.int .i64 (v16 * 256 + v17)) rfl).drew)
  have HR := Lib.hid ((HR.out.far (p := ⟨M, 6, none⟩) (Nat.ne_of_lt hRl) (.int .i64 (v16 * 256 + v17))).drew)
  have HB := Lib.hid ((HB.out.setCell (show w.heap.size ≤ (⟨M, 6, none⟩ : Addr).block from hMw) (.int .i64 (v16 * 256 + v17))).drew)
  go_wp2_with fail
  refine (HSV.out _).mono ?_
  rintro e w9 ⟨rfl, hb⟩
  have hm := HM.out.next hb
  have hr := HR.out.next hb
  have HB9 := Lib.hid (below_next HB.out hb)
  clear hb
  have t0 : w9.cell? ⟨w.heap.size, 0, none⟩ = _ := hr.cell 0
  have t1 : w9.cell? ⟨w.heap.size, 1, none⟩ = _ := hr.cell 1
  have t2 : w9.cell? ⟨w.heap.size, 2, none⟩ = _ := hr.cell 2
  have t3 : w9.cell? ⟨w.heap.size, 3, none⟩ = _ := hr.cell 3
  have t4 : w9.cell? ⟨w.heap.size, 4, none⟩ = _ := hr.cell 4
  have t5 : w9.cell? ⟨w.heap.size, 5, none⟩ = _ := hr.cell 5
  have t6 : w9.cell? ⟨w.heap.size, 6, none⟩ = _ := hr.cell 6
  have t7 : w9.cell? ⟨w.heap.size, 7, none⟩ = _ := hr.cell 7
  have t8 : w9.cell? ⟨w.heap.size, 8, none⟩ = _ := hr.cell 8
  have g0 : w9.frozen? ⟨w.heap.size, 0, none⟩ = false := hr.frozen 0
  have g1 : w9.frozen? ⟨w.heap.size, 1, none⟩ = false := hr.frozen 1
  have g2 : w9.frozen? ⟨w.heap.size, 2, none⟩ = false := hr.frozen 2
  have g3 : w9.frozen? ⟨w.heap.size, 3, none⟩ = false := hr.frozen 3
  have g4 : w9.frozen? ⟨w.heap.size, 4, none⟩ = false := hr.frozen 4
  have g5 : w9.frozen? ⟨w.heap.size, 5, none⟩ = false := hr.frozen 5
  have g6 : w9.frozen? ⟨w.heap.size, 6, none⟩ = false := hr.frozen 6
  have g7 : w9.frozen? ⟨w.heap.size, 7, none⟩ = false := hr.frozen 7
  have g8 : w9.frozen? ⟨w.heap.size, 8, none⟩ = false := hr.frozen 8
  have x0 : w9.cell? ⟨M, 0, none⟩ = some (.int .i64 3) := hm.cell 0
  have x1 : w9.cell? ⟨M, 1, none⟩ = some (.int .u32 (ra xs 4)) := hm.cell 1
  have x2 : w9.cell? ⟨M, 2, none⟩ = some (.int .u32 0) := hm.cell 2
  have x3 : w9.cell? ⟨M, 3, none⟩ = some (.int .u32 (ra xs 8)) := hm.cell 3
  have x4 : w9.cell? ⟨M, 4, none⟩ = some (.int .u32 (ra xs 12)) := hm.cell 4
  have x5 : w9.cell? ⟨M, 5, none⟩ = some (.int .i64 0) := hm.cell 5
  have x6 : w9.cell? ⟨M, 6, none⟩ = some (.int .i64 (v16 * 256 + v17)) := hm.cell 6
  have x7 : w9.cell? ⟨M, 7, none⟩ = some (.bool false) := hm.cell 7
  have x8 : w9.cell? ⟨M, 8, none⟩ = some (.slice none 0 0) := hm.cell 8
  clear hm hr
  have hbf := nine (P := fun W => Below w.heap.size w W) (fun W hW i u => hW.setCell (Nat.le_refl _) u) HB9.out
  have HBF := Lib.hid hbf
  clear hbf
  by_cases hz : cd = 0
  · have hz1 : (cd != 0) = false := by simpa using hz
    have HZ := Lib.hid hz
    clear hz
    go_wp2
    refine bodyPost_ret (v := .tuple #[.agg #[.int .i64 3, .int .u32 (ra xs 4), .int .u32 0, .int .u32 (ra xs 8), .int .u32 (ra xs 12), .int .i64 0, .int .i64 (v16 * 256 + v17), .bool false, .slice none 0 0], .int .i64 cd]) (by simp [results, Tryd.results19, go_sem, t0, t1, t2, t3, t4, t5, t6, t7, t8]) rfl ?_
    have hms : mres xs = m := by unfold mres; rw [HRC.out, if_pos HZ.out, HM1.out]
    exact ⟨none, 0, 0, by rw [hms, HRC.out, HM2.out, HRN.out]; rfl, by rw [hms, HM2.out]; exact AR.none_ _ _, HBF.out _ _ _ _ _ _ _ _ _⟩
  · have hz1 : (cd != 0) = true := by simpa using hz
    have HZ := Lib.hid hz
    clear hz
    go_wp2
    refine bodyPost_ret (v := .tuple #[.agg #[.int .i64 0, .int .u32 0, .int .u32 0, .int .u32 0, .int .u32 0, .int .i64 0, .int .i64 0, .bool false, .slice none 0 0], .int .i64 cd]) (by simp [results, Tryd.results19, go_sem, t0, t1, t2, t3, t4, t5, t6, t7, t8]) rfl ?_
    have hms : mres xs = mz := by unfold mres; rw [HRC.out, if_neg HZ.out]
    exact ⟨none, 0, 0, by rw [hms, HRC.out]; rfl, by rw [hms]; exact AR.none_ _ _, HBF.out _ _ _ _ _ _ _ _ _⟩
set_option maxRecDepth 100000 in
set_option maxHeartbeats 8000000 in
theorem rrd_short5 (A : Option Addr) (n c : Nat) (xs : List Int) (w : World) (h : BR w A n xs) (hn : n ≤ 1048576) (_hcap : n ≤ c) (ho : oc (tot xs) = 65535) (h1 : xs.getD 1 0 = 0) (hk : rkind xs = 5) (h4 : 4 ≤ n) (hs : n < 12) :
    Calls Tryd.prog 19 #[.slice A n c] w fun e w' => e = .returned (.tuple #[mv mz none 0 0, .int .i64 (101)]) ∧ Below w.heap.size w w' := by
  have hi : ¬ (n : Int) < 4 := by omega
  have hB0 : Below w.heap.size w (w.alloc (.cells #[.int .i64 0, .int .u32 0, .int .u32 0, .int .u32 0, .int .u32 0, .int .i64 0, .int .i64 0, .bool false, .slice none 0 0] 28)) := (Below.refl _ _).alloc (Nat.le_refl _) _
  have hR0 := Blk.new w 28 #[.int .i64 0, .int .u32 0, .int .u32 0, .int .u32 0, .int .u32 0, .int .i64 0, .int .i64 0, .bool false, .slice none 0 0]
  have HS := rsum_any A n c xs _ (h.next hB0) hn
  have hd : (sum xs != 0) = false := by rw [sum_zero]; simp [ho]
  obtain ⟨b, o, rfl, hlt, hcell⟩ := h.2.2 (by omega)
  have h0v : xs.getD 0 0 = 37 := by unfold rkind at hk; omega
  have y0 := keepc (hcell 0 (by omega)) hB0
  rw [Nat.add_zero, h0v] at y0
  have y1 := keepc (hcell 1 (by omega)) hB0
  rw [h1] at y1
  have hi0 : (0 : Int) < (n : Int) := by omega
  have hi1 : (1 : Int) < (n : Int) := by omega
  have hs1 : (n : Int) < 12 := by omega
  have HB0 := Lib.hid hB0
  have HR0 := Lib.hid hR0
  unfold mv mz
  generalize sum xs = S at *
  clear h hn _hcap ho hB0 hR0 hcell h1 hk h0v h4
  go_enter Tryd.func19, Tryd.ntmps19
  go_wp2_with fail
  refine HS.mono ?_
  rintro e w1 ⟨rfl, hb⟩
  have hr := HR0.out.next hb
  have HB1 := Lib.hid (below_next HB0.out hb)
  have hRl := hr.lt
  have y0 := keepc y0 hb
  have y1 := keepc y1 hb
  have q1 : w.heap.size ≠ w1.heap.size := by omega
  have q1' := q1.symm
  have q2 : b ≠ w1.heap.size := by omega
  have q2' := q2.symm
  have q3 : b < w1.heap.size := by omega
  have t0 : w1.cell? ⟨w.heap.size, 0, none⟩ = _ := hr.cell 0
  have t1 : w1.cell? ⟨w.heap.size, 1, none⟩ = _ := hr.cell 1
  have t2 : w1.cell? ⟨w.heap.size, 2, none⟩ = _ := hr.cell 2
  have t3 : w1.cell? ⟨w.heap.size, 3, none⟩ = _ := hr.cell 3
  have t4 : w1.cell? ⟨w.heap.size, 4, none⟩ = _ := hr.cell 4
  have t5 : w1.cell? ⟨w.heap.size, 5, none⟩ = _ := hr.cell 5
  have t6 : w1.cell? ⟨w.heap.size, 6, none⟩ = _ := hr.cell 6
  have t7 : w1.cell? ⟨w.heap.size, 7, none⟩ = _ := hr.cell 7
  have t8 : w1.cell? ⟨w.heap.size, 8, none⟩ = _ := hr.cell 8
  have g0 : w1.frozen? ⟨w.heap.size, 0, none⟩ = false := hr.frozen 0
  have g1 : w1.frozen? ⟨w.heap.size, 1, none⟩ = false := hr.frozen 1
  have g2 : w1.frozen? ⟨w.heap.size, 2, none⟩ = false := hr.frozen 2
  have g3 : w1.frozen? ⟨w.heap.size, 3, none⟩ = false := hr.frozen 3
  have g4 : w1.frozen? ⟨w.heap.size, 4, none⟩ = false := hr.frozen 4
  have g5 : w1.frozen? ⟨w.heap.size, 5, none⟩ = false := hr.frozen 5
  have g6 : w1.frozen? ⟨w.heap.size, 6, none⟩ = false := hr.frozen 6
  have g7 : w1.frozen? ⟨w.heap.size, 7, none⟩ = false := hr.frozen 7
  have g8 : w1.frozen? ⟨w.heap.size, 8, none⟩ = false := hr.frozen 8
  clear hb hr
  go_wp2_with (go_at_call 44; refine (size_any 5 12 _ (by simp)).mono ?_; rintro e wa ⟨rfl, rfl⟩)
  refine bodyPost_ret (v := .tuple #[.agg #[.int .i64 0, .int .u32 0, .int .u32 0, .int .u32 0, .int .u32 0, .int .i64 0, .int .i64 0, .bool false, .slice none 0 0], .int .i64 101]) (by simp [results, Tryd.results19, go_sem, t0, t1, t2, t3, t4, t5, t6, t7, t8, hRl]) rfl ⟨rfl, ?_⟩
  have hbf := nine (P := fun W => Below w.heap.size w W) (fun W hW i u => hW.setCell (Nat.le_refl _) u) HB1.out
  exact (hbf _ _ _ _ _ _ _ _ _).alloc (hbf _ _ _ _ _ _ _ _ _).size _
set_option maxRecDepth 100000 in
set_option maxHeartbeats 8000000 in
theorem rrd_long5 (A : Option Addr) (n c : Nat) (xs : List Int) (w : World) (h : BR w A n xs) (hn : n ≤ 1048576) (_hcap : n ≤ c) (ho : oc (tot xs) = 65535) (h1 : xs.getD 1 0 = 0) (hk : rkind xs = 5) (h4 : 4 ≤ n) (hs : 12 < n) :
    Calls Tryd.prog 19 #[.slice A n c] w fun e w' => e = .returned (.tuple #[mv mz none 0 0, .int .i64 (102)]) ∧ Below w.heap.size w w' := by
  have hi : ¬ (n : Int) < 4 := by omega
  have hB0 : Below w.heap.size w (w.alloc (.cells #[.int .i64 0, .int .u32 0, .int .u32 0, .int .u32 0, .int .u32 0, .int .i64 0, .int .i64 0, .bool false, .slice none 0 0] 28)) := (Below.refl _ _).alloc (Nat.le_refl _) _
  have hR0 := Blk.new w 28 #[.int .i64 0, .int .u32 0, .int .u32 0, .int .u32 0, .int .u32 0, .int .i64 0, .int .i64 0, .bool false, .slice none 0 0]
  have HS := rsum_any A n c xs _ (h.next hB0) hn
  have hd : (sum xs != 0) = false := by rw [sum_zero]; simp [ho]
  obtain ⟨b, o, rfl, hlt, hcell⟩ := h.2.2 (by omega)
  have h0v : xs.getD 0 0 = 37 := by unfold rkind at hk; omega
  have y0 := keepc (hcell 0 (by omega)) hB0
  rw [Nat.add_zero, h0v] at y0
  have y1 := keepc (hcell 1 (by omega)) hB0
  rw [h1] at y1
  have hi0 : (0 : Int) < (n : Int) := by omega
  have hi1 : (1 : Int) < (n : Int) := by omega
  have hs1 : (12 : Int) < (n : Int) := by omega
  have hs2 : ¬ (n : Int) < 12 := by omega
  have HB0 := Lib.hid hB0
  have HR0 := Lib.hid hR0
  unfold mv mz
  generalize sum xs = S at *
  clear h hn _hcap ho hB0 hR0 hcell h1 hk h0v h4
  go_enter Tryd.func19, Tryd.ntmps19
  go_wp2_with fail
  refine HS.mono ?_
  rintro e w1 ⟨rfl, hb⟩
  have hr := HR0.out.next hb
  have HB1 := Lib.hid (below_next HB0.out hb)
  have hRl := hr.lt
  have y0 := keepc y0 hb
  have y1 := keepc y1 hb
  have q1 : w.heap.size ≠ w1.heap.size := by omega
  have q1' := q1.symm
  have q2 : b ≠ w1.heap.size := by omega
  have q2' := q2.symm
  have q3 : b < w1.heap.size := by omega
  have t0 : w1.cell? ⟨w.heap.size, 0, none⟩ = _ := hr.cell 0
  have t1 : w1.cell? ⟨w.heap.size, 1, none⟩ = _ := hr.cell 1
  have t2 : w1.cell? ⟨w.heap.size, 2, none⟩ = _ := hr.cell 2
  have t3 : w1.cell? ⟨w.heap.size, 3, none⟩ = _ := hr.cell 3
  have t4 : w1.cell? ⟨w.heap.size, 4, none⟩ = _ := hr.cell 4
  have t5 : w1.cell? ⟨w.heap.size, 5, none⟩ = _ := hr.cell 5
  have t6 : w1.cell? ⟨w.heap.size, 6, none⟩ = _ := hr.cell 6
  have t7 : w1.cell? ⟨w.heap.size, 7, none⟩ = _ := hr.cell 7
  have t8 : w1.cell? ⟨w.heap.size, 8, none⟩ = _ := hr.cell 8
  have g0 : w1.frozen? ⟨w.heap.size, 0, none⟩ = false := hr.frozen 0
  have g1 : w1.frozen? ⟨w.heap.size, 1, none⟩ = false := hr.frozen 1
  have g2 : w1.frozen? ⟨w.heap.size, 2, none⟩ = false := hr.frozen 2
  have g3 : w1.frozen? ⟨w.heap.size, 3, none⟩ = false := hr.frozen 3
  have g4 : w1.frozen? ⟨w.heap.size, 4, none⟩ = false := hr.frozen 4
  have g5 : w1.frozen? ⟨w.heap.size, 5, none⟩ = false := hr.frozen 5
  have g6 : w1.frozen? ⟨w.heap.size, 6, none⟩ = false := hr.frozen 6
  have g7 : w1.frozen? ⟨w.heap.size, 7, none⟩ = false := hr.frozen 7
  have g8 : w1.frozen? ⟨w.heap.size, 8, none⟩ = false := hr.frozen 8
  clear hb hr
  go_wp2_with (go_at_call 44; refine (size_any 5 12 _ (by simp)).mono ?_; rintro e wa ⟨rfl, rfl⟩)
  refine bodyPost_ret (v := .tuple #[.agg #[.int .i64 0, .int .u32 0, .int .u32 0, .int .u32 0, .int .u32 0, .int .i64 0, .int .i64 0, .bool false, .slice none 0 0], .int .i64 102]) (by simp [results, Tryd.results19, go_sem, t0, t1, t2, t3, t4, t5, t6, t7, t8, hRl]) rfl ⟨rfl, ?_⟩
  have hbf := nine (P := fun W => Below w.heap.size w W) (fun W hW i u => hW.setCell (Nat.le_refl _) u) HB1.out
  exact (hbf _ _ _ _ _ _ _ _ _).alloc (hbf _ _ _ _ _ _ _ _ _).size _
set_option maxRecDepth 100000 in
set_option maxHeartbeats 8000000 in
theorem rrd_ok5 (A : Option Addr) (n c : Nat) (xs : List Int) (w : World) (h : BR w A n xs) (hn : n ≤ 1048576) (_hcap : n ≤ c) (_h4 : 4 ≤ n) (ho : oc (tot xs) = 65535) (h1 : xs.getD 1 0 = 0) (hk : rkind xs = 5) (hsz : n = 12) (hrc : mrc xs = mcode (mrd xs)) :
    Calls Tryd.prog 19 #[.slice A n c] w (rreadOf xs w) := by
  have hi : ¬ (n : Int) < 4 := by omega
  have hB0 : Below w.heap.size w (w.alloc (.cells #[.int .i64 0, .int .u32 0, .int .u32 0, .int .u32 0, .int .u32 0, .int .i64 0, .int .i64 0, .bool false, .slice none 0 0] 28)) := (Below.refl _ _).alloc (Nat.le_refl _) _
  have hR0 := Blk.new w 28 #[.int .i64 0, .int .u32 0, .int .u32 0, .int .u32 0, .int .u32 0, .int .i64 0, .int .i64 0, .bool false, .slice none 0 0]
  have HS := rsum_any A n c xs _ (h.next hB0) hn
  have hd : (sum xs != 0) = false := by rw [sum_zero]; simp [ho]
  obtain ⟨b, o, rfl, hlt, hcell⟩ := h.2.2 (by omega)
  have h0v : xs.getD 0 0 = 37 := by unfold rkind at hk; omega
  have y0 := keepc (hcell 0 (by omega)) hB0
  rw [Nat.add_zero, h0v] at y0
  have y1 := keepc (hcell 1 (by omega)) hB0
  rw [h1] at y1
  have hi0 : (0 : Int) < (n : Int) := by omega
  have hi1 : (1 : Int) < (n : Int) := by omega
  have hmw := mrd_wf h.isB
  have hmr : mrd xs = ⟨5, ra xs 4, 0, 0, ra xs 8, 0, 0, false, []⟩ := by unfold mrd; rw [hk]; rfl
  have hsv : ∀ W, Calls Tryd.prog 10 #[mv (mrd xs) none 0 0] W fun e w' => e = .returned (.int .i64 (mcode (mrd xs))) ∧ Below W.heap.size W w' := fun W => rvalid_any (mrd xs) none 0 0 W hmw (by rw [hmr]; rfl)
  have hm : ∃ m : Ms, mrd xs = m ∧ m = ⟨5, ra xs 4, 0, 0, ra xs 8, 0, 0, false, []⟩ := ⟨_, rfl, hmr⟩
  obtain ⟨m, hm1, hm2⟩ := hm
  rw [hm1] at hsv hrc
  have HM1 := Lib.hid hm1
  have HM2 := Lib.hid hm2
  have HRC := Lib.hid hrc
  generalize hcd : mcode m = cd at *
  have HCD := Lib.hid hcd
  rw [hm2] at hsv
  have HBR := Lib.hid (fun W (hW : Below w.heap.size w W) => h.next hW)
  have HSV := Lib.hid hsv
  have HN := Lib.hid hn
  have HB0 := Lib.hid hB0
  have HR0 := Lib.hid hR0
  generalize sum xs = S at *
  have hs1 : (n : Int) = 12 := by omega
  clear h _hcap ho hB0 hR0 hcell h1 hk h0v _h4 hmw hmr hm1 hm2 hcd hrc hsv
  subst hsz
  clear hs1
  unfold mv at HSV
  go_enter Tryd.func19, Tryd.ntmps19
  go_wp2_with fail
  refine HS.mono ?_
  rintro e w1 ⟨rfl, hb⟩
  have hr := HR0.out.next hb
  have HB1 := Lib.hid (below_next HB0.out hb)
  have hRl := hr.lt
  have y0 := keepc y0 hb
  have y1 := keepc y1 hb
  have q1 : w.heap.size ≠ w1.heap.size := by omega
  have q1' := q1.symm
  have q2 : b ≠ w1.heap.size := by omega
  have q2' := q2.symm
  have q3 : b < w1.heap.size := by omega
  go_wp2_with (go_at_call 44; refine (size_any 5 12 _ (by simp)).mono ?_; rintro e wa ⟨rfl, rfl⟩)
  have hm2 := Blk.new w1 28 #[.int .i64 5, .int .u32 0, .int .u32 0, .int .u32 0, .int .u32 0, .int .i64 0, .int .i64 0, .bool false, .slice none 0 0]
  have hr2 := hr.alloc (.cells #[.int .i64 5, .int .u32 0, .int .u32 0, .int .u32 0, .int .u32 0, .int .i64 0, .int .i64 0, .bool false, .slice none 0 0] 28)
  have hb2 := HB1.out.alloc HB1.out.size (.cells #[.int .i64 5, .int .u32 0, .int .u32 0, .int .u32 0, .int .u32 0, .int .i64 0, .int .i64 0, .bool false, .slice none 0 0] 28)
  have hMw := HB1.out.size
  generalize hM0 : w1.heap.size = M at *
  generalize w1.alloc (.cells #[.int .i64 5, .int .u32 0, .int .u32 0, .int .u32 0, .int .u32 0, .int .i64 0, .int .i64 0, .bool false, .slice none 0 0] 28) = W2 at *
  have HM := Lib.hid hm2
  have HR := Lib.hid hr2
  have HB := Lib.hid hb2
  clear hm2 hr2 hb2 hb hr y0 y1 q1 q1' q2 q2' q3 HB1 HS hM0
  refine (at_at _ 12 c xs _ 4 4 rfl (HBR.out _ HB.out) (by omega) HN.out).mono ?_
  rintro e w3 ⟨rfl, hb⟩
  have hm := HM.out.next hb
  have hr := HR.out.next hb
  have hbb := below_next HB.out hb
  clear hb HM HR HB
  have f1 : w3.frozen? ⟨M, 1, none⟩ = false := hm.frozen 1
  have x1 : w3.cell? ⟨M, 1, none⟩ = some (.int .u32 0) := hm.cell 1
  have x0 : w3.cell? ⟨M, 0, none⟩ = some (.int .i64 5) := hm.cell 0
  have HM := Lib.hid ((hm).set_to (cs' := #[.int .i64 5, .int .u32 (ra xs 4), .int .u32 0, .int .u32 0, .int .u32 0, .int .i64 0, .int .i64 0, .bool false, .slice none 0 0]) 1 (.int .u32 (ra xs 4)) rfl)
  have HR := Lib.hid ((hr).far (p := ⟨M, 1, none⟩) (Nat.ne_of_lt hRl) (.int .u32 (ra xs 4)))
  have HB := Lib.hid ((hbb).setCell (show w.heap.size ≤ (⟨M, 1, none⟩ : Addr).block from hMw) (.int .u32 (ra xs 4)))
  clear hm hr hbb
  go_wp2_with fail
  clear f1 x1 x0
  generalize (w3.setCell ⟨M, 1, none⟩ (.int .u32 (ra xs 4))) = V3 at *
  refine (at_at _ 12 c xs _ 8 8 rfl (HBR.out _ HB.out) (by omega) HN.out).mono ?_
  rintro e w4 ⟨rfl, hb⟩
  have hm := HM.out.next hb
  have hr := HR.out.next hb
  have hbb := below_next HB.out hb
  clear hb HM HR HB
  have f4 : w4.frozen? ⟨M, 4, none⟩ = false := hm.frozen 4
  have x4 : w4.cell? ⟨M, 4, none⟩ = some (.int .u32 0) := hm.cell 4
  have x0 : w4.cell? ⟨M, 0, none⟩ = some (.int .i64 5) := hm.cell 0
  have x1 : w4.cell? ⟨M, 1, none⟩ = some (.int .u32 (ra xs 4)) := hm.cell 1
  have x2 : w4.cell? ⟨M, 2, none⟩ = some (.int .u32 0) := hm.cell 2
  have x3 : w4.cell? ⟨M, 3, none⟩ = some (.int .u32 0) := hm.cell 3
  have x5 : w4.cell? ⟨M, 5, none⟩ = some (.int .i64 0) := hm.cell 5
  have x6 : w4.cell? ⟨M, 6, none⟩ = some (.int .i64 0) := hm.cell 6
  have x7 : w4.cell? ⟨M, 7, none⟩ = some (.bool false) := hm.cell 7
  have x8 : w4.cell? ⟨M, 8, none⟩ = some (.slice none 0 0) := hm.cell 8
  have HM := Lib.hid ((hm).set_to (cs' := #[.int .i64 5, .int .u32 (ra xs 4), .int .u32 0, .int .u32 0, .int .u32 (ra xs 8), .int .i64 0, .int .i64 0, .bool false, .slice none 0 0]) 4 (.int .u32 (ra xs 8)) rfl)
  have HR := Lib.hid ((hr).far (p := ⟨M, 4, none⟩) (Nat.ne_of_lt hRl) (.int .u32 (ra xs 8)))
  have HB := Lib.hid ((hbb).setCell (show w.heap.size ≤ (⟨M, 4, none⟩ : Addr).block from hMw) (.int .u32 (ra xs 8)))
  clear hm hr hbb
  go_wp2_with fail
  refine (HSV.out _).mono ?_
  rintro e w9 ⟨rfl, hb⟩
  have hm := HM.out.next hb
  have hr := HR.out.next hb
  have HB9 := Lib.hid (below_next HB.out hb)
  clear hb
  have t0 : w9.cell? ⟨w.heap.size, 0, none⟩ = _ := hr.cell 0
  have t1 : w9.cell? ⟨w.heap.size, 1, none⟩ = _ := hr.cell 1
  have t2 : w9.cell? ⟨w.heap.size, 2, none⟩ = _ := hr.cell 2
  have t3 : w9.cell? ⟨w.heap.size, 3, none⟩ = _ := hr.cell 3
  have t4 : w9.cell? ⟨w.heap.size, 4, none⟩ = _ := hr.cell 4
  have t5 : w9.cell? ⟨w.heap.size, 5, none⟩ = _ := hr.cell 5
  have t6 : w9.cell? ⟨w.heap.size, 6, none⟩ = _ := hr.cell 6
  have t7 : w9.cell? ⟨w.heap.size, 7, none⟩ = _ := hr.cell 7
  have t8 : w9.cell? ⟨w.heap.size, 8, none⟩ = _ := hr.cell 8
  have g0 : w9.frozen? ⟨w.heap.size, 0, none⟩ = false := hr.frozen 0
  have g1 : w9.frozen? ⟨w.heap.size, 1, none⟩ = false := hr.frozen 1
  have g2 : w9.frozen? ⟨w.heap.size, 2, none⟩ = false := hr.frozen 2
  have g3 : w9.frozen? ⟨w.heap.size, 3, none⟩ = false := hr.frozen 3
  have g4 : w9.frozen? ⟨w.heap.size, 4, none⟩ = false := hr.frozen 4
  have g5 : w9.frozen? ⟨w.heap.size, 5, none⟩ = false := hr.frozen 5
  have g6 : w9.frozen? ⟨w.heap.size, 6, none⟩ = false := hr.frozen 6
  have g7 : w9.frozen? ⟨w.heap.size, 7, none⟩ = false := hr.frozen 7
  have g8 : w9.frozen? ⟨w.heap.size, 8, none⟩ = false := hr.frozen 8
  have x0 : w9.cell? ⟨M, 0, none⟩ = some (.int .i64 5) := hm.cell 0
  have x1 : w9.cell? ⟨M, 1, none⟩ = some (.int .u32 (ra xs 4)) := hm.cell 1
  have x2 : w9.cell? ⟨M, 2, none⟩ = some (.int .u32 0) := hm.cell 2
  have x3 : w9.cell? ⟨M, 3, none⟩ = some (.int .u32 0) := hm.cell 3
  have x4 : w9.cell? ⟨M, 4, none⟩ = some (.int .u32 (ra xs 8)) := hm.cell 4
  have x5 : w9.cell? ⟨M, 5, none⟩ = some (.int .i64 0) := hm.cell 5
  have x6 : w9.cell? ⟨M, 6, none⟩ = some (.int .i64 0) := hm.cell 6
  have x7 : w9.cell? ⟨M, 7, none⟩ = some (.bool false) := hm.cell 7
  have x8 : w9.cell? ⟨M, 8, none⟩ = some (.slice none 0 0) := hm.cell 8
  clear hm hr
  have hbf := nine (P := fun W => Below w.heap.size w W) (fun W hW i u => hW.setCell (Nat.le_refl _) u) HB9.out
  have HBF := Lib.hid hbf
  clear hbf
  by_cases hz : cd = 0
  · have hz1 : (cd != 0) = false := by simpa using hz
    have HZ := Lib.hid hz
    clear hz
    go_wp2
    refine bodyPost_ret (v := .tuple #[.agg #[.int .i64 5, .int .u32 (ra xs 4), .int .u32 0, .int .u32 0, .int .u32 (ra xs 8), .int .i64 0, .int .i64 0, .bool false, .slice none 0 0], .int .i64 cd]) (by simp [results, Tryd.results19, go_sem, t0, t1, t2, t3, t4, t5, t6, t7, t8]) rfl ?_
    have hms : mres xs = m := by unfold mres; rw [HRC.out, if_pos HZ.out, HM1.out]
    exact ⟨none, 0, 0, by rw [hms, HRC.out, HM2.out]; rfl, by rw [hms, HM2.out]; exact AR.none_ _ _, HBF.out _ _ _ _ _ _ _ _ _⟩
  · have hz1 : (cd != 0) = true := by simpa using hz
    have HZ := Lib.hid hz
    clear hz
    go_wp2
    refine bodyPost_ret (v := .tuple #[.agg #[.int .i64 0, .int .u32 0, .int .u32 0, .int .u32 0, .int .u32 0, .int .i64 0, .int .i64 0, .bool false, .slice none 0 0], .int .i64 cd]) (by simp [results, Tryd.results19, go_sem, t0, t1, t2, t3, t4, t5, t6, t7, t8]) rfl ?_
    have hms : mres xs = mz := by unfold mres; rw [HRC.out, if_neg HZ.out]
    exact ⟨none, 0, 0, by rw [hms, HRC.out]; rfl, by rw [hms]; exact AR.none_ _ _, HBF.out _ _ _ _ _ _ _ _ _⟩
end Go.Proofs.YtfcfnfofihpegaaDoor
