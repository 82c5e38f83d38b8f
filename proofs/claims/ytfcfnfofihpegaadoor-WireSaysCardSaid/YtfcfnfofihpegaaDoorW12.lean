/- Contract of wire's reader: a message, kind by kind, over the seat's program. -/
import Derived.Test.YtfcfnfofihpegaaDoorW11
namespace Go.Proofs.YtfcfnfofihpegaaDoor
open Go.RowKit Sm
theorem mrk_1 (xs : List Int) : mrk 1 xs = ⟨1, ra xs 4, 0, 0, 0, rn xs 8, 0, false, []⟩ := rfl
theorem mrk_2 (xs : List Int) : mrk 2 xs = ⟨2, ra xs 4, ra xs 8, ra xs 12, ra xs 16, 0, 0, false, []⟩ := rfl
theorem mrk_3 (xs : List Int) : mrk 3 xs = ⟨3, ra xs 4, 0, ra xs 8, ra xs 12, 0, rn xs 16, false, []⟩ := rfl
theorem mrk_4 (xs : List Int) : mrk 4 xs = ⟨4, ra xs 4, 0, 0, ra xs 8, 0, 0, decide (xs.getD 12 0 = 1), ras xs 14 (xs.getD 13 0).toNat⟩ := rfl
theorem mrk_5 (xs : List Int) : mrk 5 xs = ⟨5, ra xs 4, 0, 0, ra xs 8, 0, 0, false, []⟩ := rfl
theorem msz_1 (xs : List Int) : mszk 1 xs = 8 + 2 := rfl
theorem msz_2 (xs : List Int) : mszk 2 xs = 12 + 8 := rfl
theorem msz_3 (xs : List Int) : mszk 3 xs = 16 + 2 := rfl
theorem msz_4 (xs : List Int) : mszk 4 xs = 13 + 1 + 4 * (xs.getD 13 0).toNat := rfl
theorem msz_5 (xs : List Int) : mszk 5 xs = 8 + 4 := rfl
theorem odd_1 (x : Int) : decide ((1 : Int) = 4 ∧ 1 < x) = false := by simp
theorem odd_2 (x : Int) : decide ((2 : Int) = 4 ∧ 1 < x) = false := by simp
theorem odd_3 (x : Int) : decide ((3 : Int) = 4 ∧ 1 < x) = false := by simp
theorem odd_4 (x : Int) [i : Decidable (True ∧ 1 < x)] : @decide (True ∧ 1 < x) i = (false || decide (1 < x)) := by simp
theorem odd_5 (x : Int) : decide ((5 : Int) = 4 ∧ 1 < x) = false := by simp
theorem nine {P : World → Prop} {R : Nat} (h : ∀ W, P W → ∀ (i : Nat) (u : Value), P (W.setCell ⟨R, i, none⟩ u)) {W : World} (hW : P W) (v0 v1 v2 v3 v4 v5 v6 v7 v8 : Value) :
    P (((((((((W.setCell ⟨R, 0, none⟩ v0).setCell ⟨R, 1, none⟩ v1).setCell ⟨R, 2, none⟩ v2).setCell ⟨R, 3, none⟩ v3).setCell ⟨R, 4, none⟩ v4).setCell ⟨R, 5, none⟩ v5).setCell ⟨R, 6, none⟩ v6).setCell ⟨R, 7, none⟩ v7).setCell ⟨R, 8, none⟩ v8) :=
  h _ (h _ (h _ (h _ (h _ (h _ (h _ (h _ (h _ hW _ _) _ _) _ _) _ _) _ _) _ _) _ _) _ _) _ _
theorem AR.only {w w' : World} {A : Option Addr} {n : Nat} {l : List Int} {r : Option Nat} (h : AR w A n l) (g : w.grownBy w' r) (hne : ∀ b o, A = some ⟨b, o, none⟩ → r ≠ some b) : AR w' A n l :=
  ⟨h.1, h.2.1, fun hn => by
    obtain ⟨b, o, e, hlt, hc⟩ := h.2.2 hn
    exact ⟨b, o, e, Nat.lt_of_lt_of_le hlt g.size, fun i hi => (World.cell?_of_block (a := ⟨b, o + i, none⟩) (g.block b hlt (fun e' => hne b o e e'.symm))).trans (hc i hi)⟩⟩
def msgOf (B N : Nat) (k : Int) (xs : List Int) (w : World) (e : Ending) (w' : World) : Prop :=
  ∃ A n c, e = .returned (mv (mrk k xs) A n c) ∧ AR w' A n (mrk k xs).l ∧ (∀ b o, A = some ⟨b, o, none⟩ → w.heap.size ≤ b) ∧ RS B w' N xs (mszk k xs) (decide (k = 4 ∧ 1 < xs.getD 12 0)) ∧ w.grownBy w' (some N)
set_option maxHeartbeats 4000000 in
theorem msg_1 (B N : Nat) (xs : List Int) (w : World) (h : RS B w N xs 4 false) :
    Calls Tryd.prog 42 #[.pointer (some ⟨N, 0, none⟩), .int .i64 1] w (msgOf B N 1 xs w) := by
  have hN := h.lt
  have HC0 := Lib.hid (fun W h => address_rd B N xs 4 false W h)
  have HC1 := Lib.hid (fun W h => number_rd B N xs 8 (false) W h)
  have hR := Blk.new w 28 #[.int .i64 0, .int .u32 0, .int .u32 0, .int .u32 0, .int .u32 0, .int .i64 0, .int .i64 0, .bool false, .slice none 0 0]
  have HR0 := Lib.hid (h.alloc (.cells #[.int .i64 0, .int .u32 0, .int .u32 0, .int .u32 0, .int .u32 0, .int .i64 0, .int .i64 0, .bool false, .slice none 0 0] 28))
  have HG0 := Lib.hid (only_alloc w (.cells #[.int .i64 0, .int .u32 0, .int .u32 0, .int .u32 0, .int .u32 0, .int .i64 0, .int .i64 0, .bool false, .slice none 0 0] 28) (some N))
  have HB0 := Lib.hid hR
  unfold msgOf
  rw [mrk_1]
  unfold addrOf at HC0
  unfold numOf at HC1
  unfold mv
  clear h hR
  go_enter Tryd.func42, Tryd.ntmps42
  go_wp2_with fail
  refine (HC0.out _ HR0.out).mono ?_
  rintro e w1 ⟨rfl, hr, hg⟩
  have hb1 := HB0.out.only hg (by intro e; cases e; omega)
  have hg1 := only_trans HG0.out hg (fun k hk => .inl hk)
  have hM : w.heap.size < w1.heap.size := hb1.lt
  go_wp2_with fail
  have hr1 := hr.alloc (.cells #[.int .i64 1, .int .u32 (ra xs 4), .int .u32 0, .int .u32 0, .int .u32 0, .int .i64 0, .int .i64 0, .bool false, .slice none 0 0] 28)
  have hb1 := hb1.alloc (.cells #[.int .i64 1, .int .u32 (ra xs 4), .int .u32 0, .int .u32 0, .int .u32 0, .int .i64 0, .int .i64 0, .bool false, .slice none 0 0] 28)
  have hm1 := Blk.new w1 28 #[.int .i64 1, .int .u32 (ra xs 4), .int .u32 0, .int .u32 0, .int .u32 0, .int .i64 0, .int .i64 0, .bool false, .slice none 0 0]
  have hg1 := only_trans hg1 (only_alloc w1 (.cells #[.int .i64 1, .int .u32 (ra xs 4), .int .u32 0, .int .u32 0, .int .u32 0, .int .i64 0, .int .i64 0, .bool false, .slice none 0 0] 28) (some N)) (fun k hk => .inl hk)
  generalize hM0 : w1.heap.size = M at *
  generalize w1.alloc (.cells #[.int .i64 1, .int .u32 (ra xs 4), .int .u32 0, .int .u32 0, .int .u32 0, .int .i64 0, .int .i64 0, .bool false, .slice none 0 0] 28) = W1 at *
  have HR := Lib.hid hr1
  have HB := Lib.hid hb1
  have HM := Lib.hid hm1
  have HG := Lib.hid hg1
  clear hr hr1 hb1 hm1 hg1 hg hM0
  refine (HC1.out _ HR.out).mono ?_
  rintro e w2 ⟨rfl, hr, hg⟩
  have hb := HB.out.only hg (by intro e; cases e; omega)
  have hm := HM.out.only hg (by intro e; cases e; omega)
  have hgg := only_trans HG.out hg (fun k hk => .inl hk)
  clear HB HM HG HR hg
  have f5 : w2.frozen? ⟨M, 5, none⟩ = false := hm.frozen 5
  have x5 : w2.cell? ⟨M, 5, none⟩ = some (.int .i64 0) := hm.cell 5
  have HM := Lib.hid ((hm).set_to (cs' := #[.int .i64 1, .int .u32 (ra xs 4), .int .u32 0, .int .u32 0, .int .u32 0, .int .i64 (rn xs 8), .int .i64 0, .bool false, .slice none 0 0]) 5 (.int .i64 (rn xs 8)) rfl)
  have HB := Lib.hid ((hb).far (p := ⟨M, 5, none⟩) (Nat.ne_of_lt hM) (.int .i64 (rn xs 8)))
  have HR := Lib.hid ((hr).store (Nat.lt_trans hN hM) 5 (.int .i64 (rn xs 8)))
  have HG := Lib.hid (only_trans (hgg) (only_store _ M 5 (.int .i64 (rn xs 8))) (fun k hk => .inr (by cases hk; omega)))
  clear hm hb hr hgg
  have g0 : (w2.setCell ⟨M, 5, none⟩ (.int .i64 (rn xs 8))).frozen? ⟨w.heap.size, 0, none⟩ = false := HB.out.frozen 0
  have g1 : (w2.setCell ⟨M, 5, none⟩ (.int .i64 (rn xs 8))).frozen? ⟨w.heap.size, 1, none⟩ = false := HB.out.frozen 1
  have g2 : (w2.setCell ⟨M, 5, none⟩ (.int .i64 (rn xs 8))).frozen? ⟨w.heap.size, 2, none⟩ = false := HB.out.frozen 2
  have g3 : (w2.setCell ⟨M, 5, none⟩ (.int .i64 (rn xs 8))).frozen? ⟨w.heap.size, 3, none⟩ = false := HB.out.frozen 3
  have g4 : (w2.setCell ⟨M, 5, none⟩ (.int .i64 (rn xs 8))).frozen? ⟨w.heap.size, 4, none⟩ = false := HB.out.frozen 4
  have g5 : (w2.setCell ⟨M, 5, none⟩ (.int .i64 (rn xs 8))).frozen? ⟨w.heap.size, 5, none⟩ = false := HB.out.frozen 5
  have g6 : (w2.setCell ⟨M, 5, none⟩ (.int .i64 (rn xs 8))).frozen? ⟨w.heap.size, 6, none⟩ = false := HB.out.frozen 6
  have g7 : (w2.setCell ⟨M, 5, none⟩ (.int .i64 (rn xs 8))).frozen? ⟨w.heap.size, 7, none⟩ = false := HB.out.frozen 7
  have g8 : (w2.setCell ⟨M, 5, none⟩ (.int .i64 (rn xs 8))).frozen? ⟨w.heap.size, 8, none⟩ = false := HB.out.frozen 8
  have y0 : (w2.setCell ⟨M, 5, none⟩ (.int .i64 (rn xs 8))).cell? ⟨w.heap.size, 0, none⟩ = _ := HB.out.cell 0
  have y1 : (w2.setCell ⟨M, 5, none⟩ (.int .i64 (rn xs 8))).cell? ⟨w.heap.size, 1, none⟩ = _ := HB.out.cell 1
  have y2 : (w2.setCell ⟨M, 5, none⟩ (.int .i64 (rn xs 8))).cell? ⟨w.heap.size, 2, none⟩ = _ := HB.out.cell 2
  have y3 : (w2.setCell ⟨M, 5, none⟩ (.int .i64 (rn xs 8))).cell? ⟨w.heap.size, 3, none⟩ = _ := HB.out.cell 3
  have y4 : (w2.setCell ⟨M, 5, none⟩ (.int .i64 (rn xs 8))).cell? ⟨w.heap.size, 4, none⟩ = _ := HB.out.cell 4
  have y5 : (w2.setCell ⟨M, 5, none⟩ (.int .i64 (rn xs 8))).cell? ⟨w.heap.size, 5, none⟩ = _ := HB.out.cell 5
  have y6 : (w2.setCell ⟨M, 5, none⟩ (.int .i64 (rn xs 8))).cell? ⟨w.heap.size, 6, none⟩ = _ := HB.out.cell 6
  have y7 : (w2.setCell ⟨M, 5, none⟩ (.int .i64 (rn xs 8))).cell? ⟨w.heap.size, 7, none⟩ = _ := HB.out.cell 7
  have y8 : (w2.setCell ⟨M, 5, none⟩ (.int .i64 (rn xs 8))).cell? ⟨w.heap.size, 8, none⟩ = _ := HB.out.cell 8
  have z0 : (w2.setCell ⟨M, 5, none⟩ (.int .i64 (rn xs 8))).cell? ⟨M, 0, none⟩ = some (.int .i64 1) := HM.out.cell 0
  have z1 : (w2.setCell ⟨M, 5, none⟩ (.int .i64 (rn xs 8))).cell? ⟨M, 1, none⟩ = some (.int .u32 (ra xs 4)) := HM.out.cell 1
  have z2 : (w2.setCell ⟨M, 5, none⟩ (.int .i64 (rn xs 8))).cell? ⟨M, 2, none⟩ = some (.int .u32 0) := HM.out.cell 2
  have z3 : (w2.setCell ⟨M, 5, none⟩ (.int .i64 (rn xs 8))).cell? ⟨M, 3, none⟩ = some (.int .u32 0) := HM.out.cell 3
  have z4 : (w2.setCell ⟨M, 5, none⟩ (.int .i64 (rn xs 8))).cell? ⟨M, 4, none⟩ = some (.int .u32 0) := HM.out.cell 4
  have z5 : (w2.setCell ⟨M, 5, none⟩ (.int .i64 (rn xs 8))).cell? ⟨M, 5, none⟩ = some (.int .i64 (rn xs 8)) := HM.out.cell 5
  have z6 : (w2.setCell ⟨M, 5, none⟩ (.int .i64 (rn xs 8))).cell? ⟨M, 6, none⟩ = some (.int .i64 0) := HM.out.cell 6
  have z7 : (w2.setCell ⟨M, 5, none⟩ (.int .i64 (rn xs 8))).cell? ⟨M, 7, none⟩ = some (.bool false) := HM.out.cell 7
  have z8 : (w2.setCell ⟨M, 5, none⟩ (.int .i64 (rn xs 8))).cell? ⟨M, 8, none⟩ = some (.slice none 0 0) := HM.out.cell 8
  go_wp2
  have hs : ∀ W : World, w.grownBy W (some N) → ∀ i u, w.grownBy (W.setCell ⟨w.heap.size, i, none⟩ u) (some N) := fun W hW i u => only_trans hW (only_store W w.heap.size i u) (fun k hk => .inr (by cases hk; exact Nat.le_refl _))
  have hgf := nine (P := fun W => w.grownBy W (some N)) hs HG.out
  have hrf := nine (P := fun W => RS B W N xs (8 + 2) false) (fun W hW i u => hW.store hN i u) HR.out
  refine bodyPost_ret (v := .agg #[.int .i64 1, .int .u32 (ra xs 4), .int .u32 0, .int .u32 0, .int .u32 0, .int .i64 (rn xs 8), .int .i64 0, .bool false, .slice none 0 0]) (by simp [results, Tryd.results42, go_sem, y0, y1, y2, y3, y4, y5, y6, y7, y8]) rfl ?_
  exact ⟨none, 0, 0, rfl, AR.none_ _ _, (fun b o e => by cases e), by rw [msz_1, odd_1]; exact hrf _ _ _ _ _ _ _ _ _, hgf _ _ _ _ _ _ _ _ _⟩
set_option maxHeartbeats 4000000 in
theorem msg_2 (B N : Nat) (xs : List Int) (w : World) (h : RS B w N xs 4 false) :
    Calls Tryd.prog 42 #[.pointer (some ⟨N, 0, none⟩), .int .i64 2] w (msgOf B N 2 xs w) := by
  have hN := h.lt
  have HC0 := Lib.hid (fun W h => address_rd B N xs 4 false W h)
  have HC1 := Lib.hid (fun W h => address_rd B N xs 8 (false) W h)
  have HC2 := Lib.hid (fun W h => key_rd B N xs 12 (false) W h)
  have hR := Blk.new w 28 #[.int .i64 0, .int .u32 0, .int .u32 0, .int .u32 0, .int .u32 0, .int .i64 0, .int .i64 0, .bool false, .slice none 0 0]
  have HR0 := Lib.hid (h.alloc (.cells #[.int .i64 0, .int .u32 0, .int .u32 0, .int .u32 0, .int .u32 0, .int .i64 0, .int .i64 0, .bool false, .slice none 0 0] 28))
  have HG0 := Lib.hid (only_alloc w (.cells #[.int .i64 0, .int .u32 0, .int .u32 0, .int .u32 0, .int .u32 0, .int .i64 0, .int .i64 0, .bool false, .slice none 0 0] 28) (some N))
  have HB0 := Lib.hid hR
  unfold msgOf
  rw [mrk_2]
  unfold addrOf at HC0
  unfold addrOf at HC1
  unfold keyOf at HC2
  unfold mv
  clear h hR
  go_enter Tryd.func42, Tryd.ntmps42
  go_wp2_with fail
  refine (HC0.out _ HR0.out).mono ?_
  rintro e w1 ⟨rfl, hr, hg⟩
  have hb1 := HB0.out.only hg (by intro e; cases e; omega)
  have hg1 := only_trans HG0.out hg (fun k hk => .inl hk)
  have hM : w.heap.size < w1.heap.size := hb1.lt
  go_wp2_with fail
  have hr1 := hr.alloc (.cells #[.int .i64 2, .int .u32 (ra xs 4), .int .u32 0, .int .u32 0, .int .u32 0, .int .i64 0, .int .i64 0, .bool false, .slice none 0 0] 28)
  have hb1 := hb1.alloc (.cells #[.int .i64 2, .int .u32 (ra xs 4), .int .u32 0, .int .u32 0, .int .u32 0, .int .i64 0, .int .i64 0, .bool false, .slice none 0 0] 28)
  have hm1 := Blk.new w1 28 #[.int .i64 2, .int .u32 (ra xs 4), .int .u32 0, .int .u32 0, .int .u32 0, .int .i64 0, .int .i64 0, .bool false, .slice none 0 0]
  have hg1 := only_trans hg1 (only_alloc w1 (.cells #[.int .i64 2, .int .u32 (ra xs 4), .int .u32 0, .int .u32 0, .int .u32 0, .int .i64 0, .int .i64 0, .bool false, .slice none 0 0] 28) (some N)) (fun k hk => .inl hk)
  generalize hM0 : w1.heap.size = M at *
  generalize w1.alloc (.cells #[.int .i64 2, .int .u32 (ra xs 4), .int .u32 0, .int .u32 0, .int .u32 0, .int .i64 0, .int .i64 0, .bool false, .slice none 0 0] 28) = W1 at *
  have HR := Lib.hid hr1
  have HB := Lib.hid hb1
  have HM := Lib.hid hm1
  have HG := Lib.hid hg1
  clear hr hr1 hb1 hm1 hg1 hg hM0
  refine (HC1.out _ HR.out).mono ?_
  rintro e w2 ⟨rfl, hr, hg⟩
  have hb := HB.out.only hg (by intro e; cases e; omega)
  have hm := HM.out.only hg (by intro e; cases e; omega)
  have hgg := only_trans HG.out hg (fun k hk => .inl hk)
  clear HB HM HG HR hg
  have f2 : w2.frozen? ⟨M, 2, none⟩ = false := hm.frozen 2
  have x2 : w2.cell? ⟨M, 2, none⟩ = some (.int .u32 0) := hm.cell 2
  have HM := Lib.hid ((hm).set_to (cs' := #[.int .i64 2, .int .u32 (ra xs 4), .int .u32 (ra xs 8), .int .u32 0, .int .u32 0, .int .i64 0, .int .i64 0, .bool false, .slice none 0 0]) 2 (.int .u32 (ra xs 8)) rfl)
  have HB := Lib.hid ((hb).far (p := ⟨M, 2, none⟩) (Nat.ne_of_lt hM) (.int .u32 (ra xs 8)))
  have HR := Lib.hid ((hr).store (Nat.lt_trans hN hM) 2 (.int .u32 (ra xs 8)))
  have HG := Lib.hid (only_trans (hgg) (only_store _ M 2 (.int .u32 (ra xs 8))) (fun k hk => .inr (by cases hk; omega)))
  clear hm hb hr hgg
  go_wp2_with fail
  clear f2 x2
  generalize (w2.setCell ⟨M, 2, none⟩ (.int .u32 (ra xs 8))) = W2 at *
  refine (HC2.out _ HR.out).mono ?_
  rintro e w3 ⟨rfl, hr, hg⟩
  have hb := HB.out.only hg (by intro e; cases e; omega)
  have hm := HM.out.only hg (by intro e; cases e; omega)
  have hgg := only_trans HG.out hg (fun k hk => .inl hk)
  clear HB HM HG HR hg
  have f3 : w3.frozen? ⟨M, 3, none⟩ = false := hm.frozen 3
  have x3 : w3.cell? ⟨M, 3, none⟩ = some (.int .u32 0) := hm.cell 3
  have f4 : w3.frozen? ⟨M, 4, none⟩ = false := hm.frozen 4
  have x4 : w3.cell? ⟨M, 4, none⟩ = some (.int .u32 0) := hm.cell 4
  have HM := Lib.hid ((((hm).set_to (cs' := #[.int .i64 2, .int .u32 (ra xs 4), .int .u32 (ra xs 8), .int .u32 (ra xs 12), .int .u32 0, .int .i64 0, .int .i64 0, .bool false, .slice none 0 0]) 3 (.int .u32 (ra xs 12)) rfl)).set_to (cs' := #[.int .i64 2, .int .u32 (ra xs 4), .int .u32 (ra xs 8), .int .u32 (ra xs 12), .int .u32 (ra xs 16), .int .i64 0, .int .i64 0, .bool false, .slice none 0 0]) 4 (.int .u32 (ra xs 16)) rfl)
  have HB := Lib.hid ((((hb).far (p := ⟨M, 3, none⟩) (Nat.ne_of_lt hM) (.int .u32 (ra xs 12)))).far (p := ⟨M, 4, none⟩) (Nat.ne_of_lt hM) (.int .u32 (ra xs 16)))
  have HR := Lib.hid ((((hr).store (Nat.lt_trans hN hM) 3 (.int .u32 (ra xs 12)))).store (Nat.lt_trans hN hM) 4 (.int .u32 (ra xs 16)))
  have HG := Lib.hid (only_trans ((only_trans (hgg) (only_store _ M 3 (.int .u32 (ra xs 12))) (fun k hk => .inr (by cases hk; omega)))) (only_store _ M 4 (.int .u32 (ra xs 16))) (fun k hk => .inr (by cases hk; omega)))
  clear hm hb hr hgg
  have g0 : ((w3.setCell ⟨M, 3, none⟩ (.int .u32 (ra xs 12))).setCell ⟨M, 4, none⟩ (.int .u32 (ra xs 16))).frozen? ⟨w.heap.size, 0, none⟩ = false := HB.out.frozen 0
  have g1 : ((w3.setCell ⟨M, 3, none⟩ (.int .u32 (ra xs 12))).setCell ⟨M, 4, none⟩ (.int .u32 (ra xs 16))).frozen? ⟨w.heap.size, 1, none⟩ = false := HB.out.frozen 1
  have g2 : ((w3.setCell ⟨M, 3, none⟩ (.int .u32 (ra xs 12))).setCell ⟨M, 4, none⟩ (.int .u32 (ra xs 16))).frozen? ⟨w.heap.size, 2, none⟩ = false := HB.out.frozen 2
  have g3 : ((w3.setCell ⟨M, 3, none⟩ (.int .u32 (ra xs 12))).setCell ⟨M, 4, none⟩ (.int .u32 (ra xs 16))).frozen? ⟨w.heap.size, 3, none⟩ = false := HB.out.frozen 3
  have g4 : ((w3.setCell ⟨M, 3, none⟩ (.int .u32 (ra xs 12))).setCell ⟨M, 4, none⟩ (.int .u32 (ra xs 16))).frozen? ⟨w.heap.size, 4, none⟩ = false := HB.out.frozen 4
  have g5 : ((w3.setCell ⟨M, 3, none⟩ (.int .u32 (ra xs 12))).setCell ⟨M, 4, none⟩ (.int .u32 (ra xs 16))).frozen? ⟨w.heap.size, 5, none⟩ = false := HB.out.frozen 5
  have g6 : ((w3.setCell ⟨M, 3, none⟩ (.int .u32 (ra xs 12))).setCell ⟨M, 4, none⟩ (.int .u32 (ra xs 16))).frozen? ⟨w.heap.size, 6, none⟩ = false := HB.out.frozen 6
  have g7 : ((w3.setCell ⟨M, 3, none⟩ (.int .u32 (ra xs 12))).setCell ⟨M, 4, none⟩ (.int .u32 (ra xs 16))).frozen? ⟨w.heap.size, 7, none⟩ = false := HB.out.frozen 7
  have g8 : ((w3.setCell ⟨M, 3, none⟩ (.int .u32 (ra xs 12))).setCell ⟨M, 4, none⟩ (.int .u32 (ra xs 16))).frozen? ⟨w.heap.size, 8, none⟩ = false := HB.out.frozen 8
  have y0 : ((w3.setCell ⟨M, 3, none⟩ (.int .u32 (ra xs 12))).setCell ⟨M, 4, none⟩ (.int .u32 (ra xs 16))).cell? ⟨w.heap.size, 0, none⟩ = _ := HB.out.cell 0
  have y1 : ((w3.setCell ⟨M, 3, none⟩ (.int .u32 (ra xs 12))).setCell ⟨M, 4, none⟩ (.int .u32 (ra xs 16))).cell? ⟨w.heap.size, 1, none⟩ = _ := HB.out.cell 1
  have y2 : ((w3.setCell ⟨M, 3, none⟩ (.int .u32 (ra xs 12))).setCell ⟨M, 4, none⟩ (.int .u32 (ra xs 16))).cell? ⟨w.heap.size, 2, none⟩ = _ := HB.out.cell 2
  have y3 : ((w3.setCell ⟨M, 3, none⟩ (.int .u32 (ra xs 12))).setCell ⟨M, 4, none⟩ (.int .u32 (ra xs 16))).cell? ⟨w.heap.size, 3, none⟩ = _ := HB.out.cell 3
  have y4 : ((w3.setCell ⟨M, 3, none⟩ (.int .u32 (ra xs 12))).setCell ⟨M, 4, none⟩ (.int .u32 (ra xs 16))).cell? ⟨w.heap.size, 4, none⟩ = _ := HB.out.cell 4
  have y5 : ((w3.setCell ⟨M, 3, none⟩ (.int .u32 (ra xs 12))).setCell ⟨M, 4, none⟩ (.int .u32 (ra xs 16))).cell? ⟨w.heap.size, 5, none⟩ = _ := HB.out.cell 5
  have y6 : ((w3.setCell ⟨M, 3, none⟩ (.int .u32 (ra xs 12))).setCell ⟨M, 4, none⟩ (.int .u32 (ra xs 16))).cell? ⟨w.heap.size, 6, none⟩ = _ := HB.out.cell 6
  have y7 : ((w3.setCell ⟨M, 3, none⟩ (.int .u32 (ra xs 12))).setCell ⟨M, 4, none⟩ (.int .u32 (ra xs 16))).cell? ⟨w.heap.size, 7, none⟩ = _ := HB.out.cell 7
  have y8 : ((w3.setCell ⟨M, 3, none⟩ (.int .u32 (ra xs 12))).setCell ⟨M, 4, none⟩ (.int .u32 (ra xs 16))).cell? ⟨w.heap.size, 8, none⟩ = _ := HB.out.cell 8
  have z0 : ((w3.setCell ⟨M, 3, none⟩ (.int .u32 (ra xs 12))).setCell ⟨M, 4, none⟩ (.int .u32 (ra xs 16))).cell? ⟨M, 0, none⟩ = some (.int .i64 2) := HM.out.cell 0
  have z1 : ((w3.setCell ⟨M, 3, none⟩ (.int .u32 (ra xs 12))).setCell ⟨M, 4, none⟩ (.int .u32 (ra xs 16))).cell? ⟨M, 1, none⟩ = some (.int .u32 (ra xs 4)) := HM.out.cell 1
  have z2 : ((w3.setCell ⟨M, 3, none⟩ (.int .u32 (ra xs 12))).setCell ⟨M, 4, none⟩ (.int .u32 (ra xs 16))).cell? ⟨M, 2, none⟩ = some (.int .u32 (ra xs 8)) := HM.out.cell 2
  have z3 : ((w3.setCell ⟨M, 3, none⟩ (.int .u32 (ra xs 12))).setCell ⟨M, 4, none⟩ (.int .u32 (ra xs 16))).cell? ⟨M, 3, none⟩ = some (.int .u32 (ra xs 12)) := HM.out.cell 3
  have z4 : ((w3.setCell ⟨M, 3, none⟩ (.int .u32 (ra xs 12))).setCell ⟨M, 4, none⟩ (.int .u32 (ra xs 16))).cell? ⟨M, 4, none⟩ = some (.int .u32 (ra xs 16)) := HM.out.cell 4
  have z5 : ((w3.setCell ⟨M, 3, none⟩ (.int .u32 (ra xs 12))).setCell ⟨M, 4, none⟩ (.int .u32 (ra xs 16))).cell? ⟨M, 5, none⟩ = some (.int .i64 0) := HM.out.cell 5
  have z6 : ((w3.setCell ⟨M, 3, none⟩ (.int .u32 (ra xs 12))).setCell ⟨M, 4, none⟩ (.int .u32 (ra xs 16))).cell? ⟨M, 6, none⟩ = some (.int .i64 0) := HM.out.cell 6
  have z7 : ((w3.setCell ⟨M, 3, none⟩ (.int .u32 (ra xs 12))).setCell ⟨M, 4, none⟩ (.int .u32 (ra xs 16))).cell? ⟨M, 7, none⟩ = some (.bool false) := HM.out.cell 7
  have z8 : ((w3.setCell ⟨M, 3, none⟩ (.int .u32 (ra xs 12))).setCell ⟨M, 4, none⟩ (.int .u32 (ra xs 16))).cell? ⟨M, 8, none⟩ = some (.slice none 0 0) := HM.out.cell 8
  go_wp2
  have hs : ∀ W : World, w.grownBy W (some N) → ∀ i u, w.grownBy (W.setCell ⟨w.heap.size, i, none⟩ u) (some N) := fun W hW i u => only_trans hW (only_store W w.heap.size i u) (fun k hk => .inr (by cases hk; exact Nat.le_refl _))
  have hgf := nine (P := fun W => w.grownBy W (some N)) hs HG.out
  have hrf := nine (P := fun W => RS B W N xs (12 + 8) false) (fun W hW i u => hW.store hN i u) HR.out
  refine bodyPost_ret (v := .agg #[.int .i64 2, .int .u32 (ra xs 4), .int .u32 (ra xs 8), .int .u32 (ra xs 12), .int .u32 (ra xs 16), .int .i64 0, .int .i64 0, .bool false, .slice none 0 0]) (by simp [results, Tryd.results42, go_sem, y0, y1, y2, y3, y4, y5, y6, y7, y8]) rfl ?_
  exact ⟨none, 0, 0, rfl, AR.none_ _ _, (fun b o e => by cases e), by rw [msz_2, odd_2]; exact hrf _ _ _ _ _ _ _ _ _, hgf _ _ _ _ _ _ _ _ _⟩
set_option maxHeartbeats 4000000 in
theorem msg_3 (B N : Nat) (xs : List Int) (w : World) (h : RS B w N xs 4 false) :
    Calls Tryd.prog 42 #[.pointer (some ⟨N, 0, none⟩), .int .i64 3] w (msgOf B N 3 xs w) := by
  have hN := h.lt
  have HC0 := Lib.hid (fun W h => address_rd B N xs 4 false W h)
  have HC1 := Lib.hid (fun W h => key_rd B N xs 8 (false) W h)
  have HC2 := Lib.hid (fun W h => number_rd B N xs 16 (false) W h)
  have hR := Blk.new w 28 #[.int .i64 0, .int .u32 0, .int .u32 0, .int .u32 0, .int .u32 0, .int .i64 0, .int .i64 0, .bool false, .slice none 0 0]
  have HR0 := Lib.hid (h.alloc (.cells #[.int .i64 0, .int .u32 0, .int .u32 0, .int .u32 0, .int .u32 0, .int .i64 0, .int .i64 0, .bool false, .slice none 0 0] 28))
  have HG0 := Lib.hid (only_alloc w (.cells #[.int .i64 0, .int .u32 0, .int .u32 0, .int .u32 0, .int .u32 0, .int .i64 0, .int .i64 0, .bool false, .slice none 0 0] 28) (some N))
  have HB0 := Lib.hid hR
  unfold msgOf
  rw [mrk_3]
  unfold addrOf at HC0
  unfold keyOf at HC1
  unfold numOf at HC2
  unfold mv
  clear h hR
  go_enter Tryd.func42, Tryd.ntmps42
  go_wp2_with fail
  refine (HC0.out _ HR0.out).mono ?_
  rintro e w1 ⟨rfl, hr, hg⟩
  have hb1 := HB0.out.only hg (by intro e; cases e; omega)
  have hg1 := only_trans HG0.out hg (fun k hk => .inl hk)
  have hM : w.heap.size < w1.heap.size := hb1.lt
  go_wp2_with fail
  have hr1 := hr.alloc (.cells #[.int .i64 3, .int .u32 (ra xs 4), .int .u32 0, .int .u32 0, .int .u32 0, .int .i64 0, .int .i64 0, .bool false, .slice none 0 0] 28)
  have hb1 := hb1.alloc (.cells #[.int .i64 3, .int .u32 (ra xs 4), .int .u32 0, .int .u32 0, .int .u32 0, .int .i64 0, .int .i64 0, .bool false, .slice none 0 0] 28)
  have hm1 := Blk.new w1 28 #[.int .i64 3, .int .u32 (ra xs 4), .int .u32 0, .int .u32 0, .int .u32 0, .int .i64 0, .int .i64 0, .bool false, .slice none 0 0]
  have hg1 := only_trans hg1 (only_alloc w1 (.cells #[.int .i64 3, .int .u32 (ra xs 4), .int .u32 0, .int .u32 0, .int .u32 0, .int .i64 0, .int .i64 0, .bool false, .slice none 0 0] 28) (some N)) (fun k hk => .inl hk)
  generalize hM0 : w1.heap.size = M at *
  generalize w1.alloc (.cells #[.int .i64 3, .int .u32 (ra xs 4), .int .u32 0, .int .u32 0, .int .u32 0, .int .i64 0, .int .i64 0, .bool false, .slice none 0 0] 28) = W1 at *
  have HR := Lib.hid hr1
  have HB := Lib.hid hb1
  have HM := Lib.hid hm1
  have HG := Lib.hid hg1
  clear hr hr1 hb1 hm1 hg1 hg hM0
  refine (HC1.out _ HR.out).mono ?_
  rintro e w2 ⟨rfl, hr, hg⟩
  have hb := HB.out.only hg (by intro e; cases e; omega)
  have hm := HM.out.only hg (by intro e; cases e; omega)
  have hgg := only_trans HG.out hg (fun k hk => .inl hk)
  clear HB HM HG HR hg
  have f3 : w2.frozen? ⟨M, 3, none⟩ = false := hm.frozen 3
  have x3 : w2.cell? ⟨M, 3, none⟩ = some (.int .u32 0) := hm.cell 3
  have f4 : w2.frozen? ⟨M, 4, none⟩ = false := hm.frozen 4
  have x4 : w2.cell? ⟨M, 4, none⟩ = some (.int .u32 0) := hm.cell 4
  have HM := Lib.hid ((((hm).set_to (cs' := #[.int .i64 3, .int .u32 (ra xs 4), .int .u32 0, .int .u32 (ra xs 8), .int .u32 0, .int .i64 0, .int .i64 0, .bool false, .slice none 0 0]) 3 (.int .u32 (ra xs 8)) rfl)).set_to (cs' := #[.int .i64 3, .int .u32 (ra xs 4), .int .u32 0, .int .u32 (ra xs 8), .int .u32 (ra xs 12), .int .i64 0, .int .i64 0, .bool false, .slice none 0 0]) 4 (.int .u32 (ra xs 12)) rfl)
  have HB := Lib.hid ((((hb).far (p := ⟨M, 3, none⟩) (Nat.ne_of_lt hM) (.int .u32 (ra xs 8)))).far (p := ⟨M, 4, none⟩) (Nat.ne_of_lt hM) (.int .u32 (ra xs 12)))
  have HR := Lib.hid ((((hr).store (Nat.lt_trans hN hM) 3 (.int .u32 (ra xs 8)))).store (Nat.lt_trans hN hM) 4 (.int .u32 (ra xs 12)))
  have HG := Lib.hid (only_trans ((only_trans (hgg) (only_store _ M 3 (.int .u32 (ra xs 8))) (fun k hk => .inr (by cases hk; omega)))) (only_store _ M 4 (.int .u32 (ra xs 12))) (fun k hk => .inr (by cases hk; omega)))
  clear hm hb hr hgg
  go_wp2_with fail
  clear f3 x3 f4 x4
  generalize ((w2.setCell ⟨M, 3, none⟩ (.int .u32 (ra xs 8))).setCell ⟨M, 4, none⟩ (.int .u32 (ra xs 12))) = W2 at *
  refine (HC2.out _ HR.out).mono ?_
  rintro e w3 ⟨rfl, hr, hg⟩
  have hb := HB.out.only hg (by intro e; cases e; omega)
  have hm := HM.out.only hg (by intro e; cases e; omega)
  have hgg := only_trans HG.out hg (fun k hk => .inl hk)
  clear HB HM HG HR hg
  have f6 : w3.frozen? ⟨M, 6, none⟩ = false := hm.frozen 6
  have x6 : w3.cell? ⟨M, 6, none⟩ = some (.int .i64 0) := hm.cell 6
  have HM := Lib.hid ((hm).set_to (cs' := #[.int .i64 3, .int .u32 (ra xs 4), .int .u32 0, .int .u32 (ra xs 8), .int .u32 (ra xs 12), .int .i64 0, .int .i64 (rn xs 16), .bool false, .slice none 0 0]) 6 (.int .i64 (rn xs 16)) rfl)
  have HB := Lib.hid ((hb).far (p := ⟨M, 6, none⟩) (Nat.ne_of_lt hM) (.int .i64 (rn xs 16)))
  have HR := Lib.hid ((hr).store (Nat.lt_trans hN hM) 6 (.int .i64 (rn xs 16)))
  have HG := Lib.hid (only_trans (hgg) (only_store _ M 6 (.int .i64 (rn xs 16))) (fun k hk => .inr (by cases hk; omega)))
  clear hm hb hr hgg
  have g0 : (w3.setCell ⟨M, 6, none⟩ (.int .i64 (rn xs 16))).frozen? ⟨w.heap.size, 0, none⟩ = false := HB.out.frozen 0
  have g1 : (w3.setCell ⟨M, 6, none⟩ (.int .i64 (rn xs 16))).frozen? ⟨w.heap.size, 1, none⟩ = false := HB.out.frozen 1
  have g2 : (w3.setCell ⟨M, 6, none⟩ (.int .i64 (rn xs 16))).frozen? ⟨w.heap.size, 2, none⟩ = false := HB.out.frozen 2
  have g3 : (w3.setCell ⟨M, 6, none⟩ (.int .i64 (rn xs 16))).frozen? ⟨w.heap.size, 3, none⟩ = false := HB.out.frozen 3
  have g4 : (w3.setCell ⟨M, 6, none⟩ (.int .i64 (rn xs 16))).frozen? ⟨w.heap.size, 4, none⟩ = false := HB.out.frozen 4
  have g5 : (w3.setCell ⟨M, 6, none⟩ (.int .i64 (rn xs 16))).frozen? ⟨w.heap.size, 5, none⟩ = false := HB.out.frozen 5
  have g6 : (w3.setCell ⟨M, 6, none⟩ (.int .i64 (rn xs 16))).frozen? ⟨w.heap.size, 6, none⟩ = false := HB.out.frozen 6
  have g7 : (w3.setCell ⟨M, 6, none⟩ (.int .i64 (rn xs 16))).frozen? ⟨w.heap.size, 7, none⟩ = false := HB.out.frozen 7
  have g8 : (w3.setCell ⟨M, 6, none⟩ (.int .i64 (rn xs 16))).frozen? ⟨w.heap.size, 8, none⟩ = false := HB.out.frozen 8
  have y0 : (w3.setCell ⟨M, 6, none⟩ (.int .i64 (rn xs 16))).cell? ⟨w.heap.size, 0, none⟩ = _ := HB.out.cell 0
  have y1 : (w3.setCell ⟨M, 6, none⟩ (.int .i64 (rn xs 16))).cell? ⟨w.heap.size, 1, none⟩ = _ := HB.out.cell 1
  have y2 : (w3.setCell ⟨M, 6, none⟩ (.int .i64 (rn xs 16))).cell? ⟨w.heap.size, 2, none⟩ = _ := HB.out.cell 2
  have y3 : (w3.setCell ⟨M, 6, none⟩ (.int .i64 (rn xs 16))).cell? ⟨w.heap.size, 3, none⟩ = _ := HB.out.cell 3
  have y4 : (w3.setCell ⟨M, 6, none⟩ (.int .i64 (rn xs 16))).cell? ⟨w.heap.size, 4, none⟩ = _ := HB.out.cell 4
  have y5 : (w3.setCell ⟨M, 6, none⟩ (.int .i64 (rn xs 16))).cell? ⟨w.heap.size, 5, none⟩ = _ := HB.out.cell 5
  have y6 : (w3.setCell ⟨M, 6, none⟩ (.int .i64 (rn xs 16))).cell? ⟨w.heap.size, 6, none⟩ = _ := HB.out.cell 6
  have y7 : (w3.setCell ⟨M, 6, none⟩ (.int .i64 (rn xs 16))).cell? ⟨w.heap.size, 7, none⟩ = _ := HB.out.cell 7
  have y8 : (w3.setCell ⟨M, 6, none⟩ (.int .i64 (rn xs 16))).cell? ⟨w.heap.size, 8, none⟩ = _ := HB.out.cell 8
  have z0 : (w3.setCell ⟨M, 6, none⟩ (.int .i64 (rn xs 16))).cell? ⟨M, 0, none⟩ = some (.int .i64 3) := HM.out.cell 0
  have z1 : (w3.setCell ⟨M, 6, none⟩ (.int .i64 (rn xs 16))).cell? ⟨M, 1, none⟩ = some (.int .u32 (ra xs 4)) := HM.out.cell 1
  have z2 : (w3.setCell ⟨M, 6, none⟩ (.int .i64 (rn xs 16))).cell? ⟨M, 2, none⟩ = some (.int .u32 0) := HM.out.cell 2
  have z3 : (w3.setCell ⟨M, 6, none⟩ (.int .i64 (rn xs 16))).cell? ⟨M, 3, none⟩ = some (.int .u32 (ra xs 8)) := HM.out.cell 3
  have z4 : (w3.setCell ⟨M, 6, none⟩ (.int .i64 (rn xs 16))).cell? ⟨M, 4, none⟩ = some (.int .u32 (ra xs 12)) := HM.out.cell 4
  have z5 : (w3.setCell ⟨M, 6, none⟩ (.int .i64 (rn xs 16))).cell? ⟨M, 5, none⟩ = some (.int .i64 0) := HM.out.cell 5
  have z6 : (w3.setCell ⟨M, 6, none⟩ (.int .i64 (rn xs 16))).cell? ⟨M, 6, none⟩ = some (.int .i64 (rn xs 16)) := HM.out.cell 6
  have z7 : (w3.setCell ⟨M, 6, none⟩ (.int .i64 (rn xs 16))).cell? ⟨M, 7, none⟩ = some (.bool false) := HM.out.cell 7
  have z8 : (w3.setCell ⟨M, 6, none⟩ (.int .i64 (rn xs 16))).cell? ⟨M, 8, none⟩ = some (.slice none 0 0) := HM.out.cell 8
  go_wp2
  have hs : ∀ W : World, w.grownBy W (some N) → ∀ i u, w.grownBy (W.setCell ⟨w.heap.size, i, none⟩ u) (some N) := fun W hW i u => only_trans hW (only_store W w.heap.size i u) (fun k hk => .inr (by cases hk; exact Nat.le_refl _))
  have hgf := nine (P := fun W => w.grownBy W (some N)) hs HG.out
  have hrf := nine (P := fun W => RS B W N xs (16 + 2) false) (fun W hW i u => hW.store hN i u) HR.out
  refine bodyPost_ret (v := .agg #[.int .i64 3, .int .u32 (ra xs 4), .int .u32 0, .int .u32 (ra xs 8), .int .u32 (ra xs 12), .int .i64 0, .int .i64 (rn xs 16), .bool false, .slice none 0 0]) (by simp [results, Tryd.results42, go_sem, y0, y1, y2, y3, y4, y5, y6, y7, y8]) rfl ?_
  exact ⟨none, 0, 0, rfl, AR.none_ _ _, (fun b o e => by cases e), by rw [msz_3, odd_3]; exact hrf _ _ _ _ _ _ _ _ _, hgf _ _ _ _ _ _ _ _ _⟩
set_option maxHeartbeats 4000000 in
theorem msg_4 (B N : Nat) (xs : List Int) (w : World) (h : RS B w N xs 4 false) :
    Calls Tryd.prog 42 #[.pointer (some ⟨N, 0, none⟩), .int .i64 4] w (msgOf B N 4 xs w) := by
  have hN := h.lt
  have HC0 := Lib.hid (fun W h => address_rd B N xs 4 false W h)
  have HC1 := Lib.hid (fun W h => address_rd B N xs 8 (false) W h)
  have HC2 := Lib.hid (fun W h => yes_rd B N xs 12 (false) W h)
  have HC3 := Lib.hid (fun W h => sources_rd B N xs 13 (false || decide (1 < xs.getD 12 0)) W h)
  have hR := Blk.new w 28 #[.int .i64 0, .int .u32 0, .int .u32 0, .int .u32 0, .int .u32 0, .int .i64 0, .int .i64 0, .bool false, .slice none 0 0]
  have HR0 := Lib.hid (h.alloc (.cells #[.int .i64 0, .int .u32 0, .int .u32 0, .int .u32 0, .int .u32 0, .int .i64 0, .int .i64 0, .bool false, .slice none 0 0] 28))
  have HG0 := Lib.hid (only_alloc w (.cells #[.int .i64 0, .int .u32 0, .int .u32 0, .int .u32 0, .int .u32 0, .int .i64 0, .int .i64 0, .bool false, .slice none 0 0] 28) (some N))
  have HB0 := Lib.hid hR
  unfold msgOf
  rw [mrk_4]
  unfold addrOf at HC0
  unfold addrOf at HC1
  unfold yesOf at HC2
  unfold srcOf at HC3
  unfold mv
  generalize hY : decide (xs.getD 12 0 = 1) = Y at *
  generalize hq : (xs.getD 13 0).toNat = q at *
  have HQ := Lib.hid hq
  clear hY hq
  clear h hR
  go_enter Tryd.func42, Tryd.ntmps42
  go_wp2_with fail
  refine (HC0.out _ HR0.out).mono ?_
  rintro e w1 ⟨rfl, hr, hg⟩
  have hb1 := HB0.out.only hg (by intro e; cases e; omega)
  have hg1 := only_trans HG0.out hg (fun k hk => .inl hk)
  have hM : w.heap.size < w1.heap.size := hb1.lt
  go_wp2_with fail
  have hr1 := hr.alloc (.cells #[.int .i64 4, .int .u32 (ra xs 4), .int .u32 0, .int .u32 0, .int .u32 0, .int .i64 0, .int .i64 0, .bool false, .slice none 0 0] 28)
  have hb1 := hb1.alloc (.cells #[.int .i64 4, .int .u32 (ra xs 4), .int .u32 0, .int .u32 0, .int .u32 0, .int .i64 0, .int .i64 0, .bool false, .slice none 0 0] 28)
  have hm1 := Blk.new w1 28 #[.int .i64 4, .int .u32 (ra xs 4), .int .u32 0, .int .u32 0, .int .u32 0, .int .i64 0, .int .i64 0, .bool false, .slice none 0 0]
  have hg1 := only_trans hg1 (only_alloc w1 (.cells #[.int .i64 4, .int .u32 (ra xs 4), .int .u32 0, .int .u32 0, .int .u32 0, .int .i64 0, .int .i64 0, .bool false, .slice none 0 0] 28) (some N)) (fun k hk => .inl hk)
  generalize hM0 : w1.heap.size = M at *
  generalize w1.alloc (.cells #[.int .i64 4, .int .u32 (ra xs 4), .int .u32 0, .int .u32 0, .int .u32 0, .int .i64 0, .int .i64 0, .bool false, .slice none 0 0] 28) = W1 at *
  have HR := Lib.hid hr1
  have HB := Lib.hid hb1
  have HM := Lib.hid hm1
  have HG := Lib.hid hg1
  clear hr hr1 hb1 hm1 hg1 hg hM0
  refine (HC1.out _ HR.out).mono ?_
  rintro e w2 ⟨rfl, hr, hg⟩
  have hb := HB.out.only hg (by intro e; cases e; omega)
  have hm := HM.out.only hg (by intro e; cases e; omega)
  have hgg := only_trans HG.out hg (fun k hk => .inl hk)
  clear HB HM HG HR hg
  have f4 : w2.frozen? ⟨M, 4, none⟩ = false := hm.frozen 4
  have x4 : w2.cell? ⟨M, 4, none⟩ = some (.int .u32 0) := hm.cell 4
  have HM := Lib.hid ((hm).set_to (cs' := #[.int .i64 4, .int .u32 (ra xs 4), .int .u32 0, .int .u32 0, .int .u32 (ra xs 8), .int .i64 0, .int .i64 0, .bool false, .slice none 0 0]) 4 (.int .u32 (ra xs 8)) rfl)
  have HB := Lib.hid ((hb).far (p := ⟨M, 4, none⟩) (Nat.ne_of_lt hM) (.int .u32 (ra xs 8)))
  have HR := Lib.hid ((hr).store (Nat.lt_trans hN hM) 4 (.int .u32 (ra xs 8)))
  have HG := Lib.hid (only_trans (hgg) (only_store _ M 4 (.int .u32 (ra xs 8))) (fun k hk => .inr (by cases hk; omega)))
  clear hm hb hr hgg
  go_wp2_with fail
  clear f4 x4
  generalize (w2.setCell ⟨M, 4, none⟩ (.int .u32 (ra xs 8))) = W2 at *
  refine (HC2.out _ HR.out).mono ?_
  rintro e w3 ⟨rfl, hr, hg⟩
  have hb := HB.out.only hg (by intro e; cases e; omega)
  have hm := HM.out.only hg (by intro e; cases e; omega)
  have hgg := only_trans HG.out hg (fun k hk => .inl hk)
  clear HB HM HG HR hg
  have f7 : w3.frozen? ⟨M, 7, none⟩ = false := hm.frozen 7
  have x7 : w3.cell? ⟨M, 7, none⟩ = some (.bool false) := hm.cell 7
  have HM := Lib.hid ((hm).set_to (cs' := #[.int .i64 4, .int .u32 (ra xs 4), .int .u32 0, .int .u32 0, .int .u32 (ra xs 8), .int .i64 0, .int .i64 0, .bool Y, .slice none 0 0]) 7 (.bool Y) rfl)
  have HB := Lib.hid ((hb).far (p := ⟨M, 7, none⟩) (Nat.ne_of_lt hM) (.bool Y))
  have HR := Lib.hid ((hr).store (Nat.lt_trans hN hM) 7 (.bool Y))
  have HG := Lib.hid (only_trans (hgg) (only_store _ M 7 (.bool Y)) (fun k hk => .inr (by cases hk; omega)))
  clear hm hb hr hgg
  go_wp2_with fail
  clear f7 x7
  generalize (w3.setCell ⟨M, 7, none⟩ (.bool Y)) = W3 at *
  refine (HC3.out _ HR.out).mono ?_
  rintro e w4 ⟨A, c, rfl, har, hab, hr, hg⟩
  have hsz := HG.out.size
  have hMl := HM.out.lt
  have hb := HB.out.only hg (by intro e; cases e; omega)
  have hm := HM.out.only hg (by intro e; cases e; omega)
  have hgg := only_trans HG.out hg (fun k hk => .inl hk)
  clear HB HM HG HR hg
  have f8 : w4.frozen? ⟨M, 8, none⟩ = false := hm.frozen 8
  have x8 : w4.cell? ⟨M, 8, none⟩ = some (.slice none 0 0) := hm.cell 8
  have HM := Lib.hid ((hm).set_to (cs' := #[.int .i64 4, .int .u32 (ra xs 4), .int .u32 0, .int .u32 0, .int .u32 (ra xs 8), .int .i64 0, .int .i64 0, .bool Y, .slice A q c]) 8 (.slice A q c) rfl)
  have HB := Lib.hid ((hb).far (p := ⟨M, 8, none⟩) (Nat.ne_of_lt hM) (.slice A q c))
  have HR := Lib.hid ((hr).store (Nat.lt_trans hN hM) 8 (.slice A q c))
  have HG := Lib.hid (only_trans (hgg) (only_store _ M 8 (.slice A q c)) (fun k hk => .inr (by cases hk; omega)))
  have HA := Lib.hid ((har).only (only_store _ M 8 (.slice A q c)) (fun b o e h => by cases h; have := hab _ _ e; omega))
  clear hm hb hr hgg har
  have g0 : (w4.setCell ⟨M, 8, none⟩ (.slice A q c)).frozen? ⟨w.heap.size, 0, none⟩ = false := HB.out.frozen 0
  have g1 : (w4.setCell ⟨M, 8, none⟩ (.slice A q c)).frozen? ⟨w.heap.size, 1, none⟩ = false := HB.out.frozen 1
  have g2 : (w4.setCell ⟨M, 8, none⟩ (.slice A q c)).frozen? ⟨w.heap.size, 2, none⟩ = false := HB.out.frozen 2
  have g3 : (w4.setCell ⟨M, 8, none⟩ (.slice A q c)).frozen? ⟨w.heap.size, 3, none⟩ = false := HB.out.frozen 3
  have g4 : (w4.setCell ⟨M, 8, none⟩ (.slice A q c)).frozen? ⟨w.heap.size, 4, none⟩ = false := HB.out.frozen 4
  have g5 : (w4.setCell ⟨M, 8, none⟩ (.slice A q c)).frozen? ⟨w.heap.size, 5, none⟩ = false := HB.out.frozen 5
  have g6 : (w4.setCell ⟨M, 8, none⟩ (.slice A q c)).frozen? ⟨w.heap.size, 6, none⟩ = false := HB.out.frozen 6
  have g7 : (w4.setCell ⟨M, 8, none⟩ (.slice A q c)).frozen? ⟨w.heap.size, 7, none⟩ = false := HB.out.frozen 7
  have g8 : (w4.setCell ⟨M, 8, none⟩ (.slice A q c)).frozen? ⟨w.heap.size, 8, none⟩ = false := HB.out.frozen 8
  have y0 : (w4.setCell ⟨M, 8, none⟩ (.slice A q c)).cell? ⟨w.heap.size, 0, none⟩ = _ := HB.out.cell 0
  have y1 : (w4.setCell ⟨M, 8, none⟩ (.slice A q c)).cell? ⟨w.heap.size, 1, none⟩ = _ := HB.out.cell 1
  have y2 : (w4.setCell ⟨M, 8, none⟩ (.slice A q c)).cell? ⟨w.heap.size, 2, none⟩ = _ := HB.out.cell 2
  have y3 : (w4.setCell ⟨M, 8, none⟩ (.slice A q c)).cell? ⟨w.heap.size, 3, none⟩ = _ := HB.out.cell 3
  have y4 : (w4.setCell ⟨M, 8, none⟩ (.slice A q c)).cell? ⟨w.heap.size, 4, none⟩ = _ := HB.out.cell 4
  have y5 : (w4.setCell ⟨M, 8, none⟩ (.slice A q c)).cell? ⟨w.heap.size, 5, none⟩ = _ := HB.out.cell 5
  have y6 : (w4.setCell ⟨M, 8, none⟩ (.slice A q c)).cell? ⟨w.heap.size, 6, none⟩ = _ := HB.out.cell 6
  have y7 : (w4.setCell ⟨M, 8, none⟩ (.slice A q c)).cell? ⟨w.heap.size, 7, none⟩ = _ := HB.out.cell 7
  have y8 : (w4.setCell ⟨M, 8, none⟩ (.slice A q c)).cell? ⟨w.heap.size, 8, none⟩ = _ := HB.out.cell 8
  have z0 : (w4.setCell ⟨M, 8, none⟩ (.slice A q c)).cell? ⟨M, 0, none⟩ = some (.int .i64 4) := HM.out.cell 0
  have z1 : (w4.setCell ⟨M, 8, none⟩ (.slice A q c)).cell? ⟨M, 1, none⟩ = some (.int .u32 (ra xs 4)) := HM.out.cell 1
  have z2 : (w4.setCell ⟨M, 8, none⟩ (.slice A q c)).cell? ⟨M, 2, none⟩ = some (.int .u32 0) := HM.out.cell 2
  have z3 : (w4.setCell ⟨M, 8, none⟩ (.slice A q c)).cell? ⟨M, 3, none⟩ = some (.int .u32 0) := HM.out.cell 3
  have z4 : (w4.setCell ⟨M, 8, none⟩ (.slice A q c)).cell? ⟨M, 4, none⟩ = some (.int .u32 (ra xs 8)) := HM.out.cell 4
  have z5 : (w4.setCell ⟨M, 8, none⟩ (.slice A q c)).cell? ⟨M, 5, none⟩ = some (.int .i64 0) := HM.out.cell 5
  have z6 : (w4.setCell ⟨M, 8, none⟩ (.slice A q c)).cell? ⟨M, 6, none⟩ = some (.int .i64 0) := HM.out.cell 6
  have z7 : (w4.setCell ⟨M, 8, none⟩ (.slice A q c)).cell? ⟨M, 7, none⟩ = some (.bool Y) := HM.out.cell 7
  have z8 : (w4.setCell ⟨M, 8, none⟩ (.slice A q c)).cell? ⟨M, 8, none⟩ = some (.slice A q c) := HM.out.cell 8
  go_wp2
  have hs : ∀ W : World, w.grownBy W (some N) → ∀ i u, w.grownBy (W.setCell ⟨w.heap.size, i, none⟩ u) (some N) := fun W hW i u => only_trans hW (only_store W w.heap.size i u) (fun k hk => .inr (by cases hk; exact Nat.le_refl _))
  have hgf := nine (P := fun W => w.grownBy W (some N)) hs HG.out
  have hrf := nine (P := fun W => RS B W N xs (13 + 1 + 4 * q) (false || decide (1 < xs.getD 12 0))) (fun W hW i u => hW.store hN i u) HR.out
  have haf := nine (P := fun W => AR W A q (ras xs (13 + 1) q)) (fun W hW i u => hW.only (only_store W w.heap.size i u) (fun b o e h => by cases h; have := hab _ _ e; omega)) HA.out
  refine bodyPost_ret (v := .agg #[.int .i64 4, .int .u32 (ra xs 4), .int .u32 0, .int .u32 0, .int .u32 (ra xs 8), .int .i64 0, .int .i64 0, .bool Y, .slice A q c]) (by simp [results, Tryd.results42, go_sem, y0, y1, y2, y3, y4, y5, y6, y7, y8]) rfl ?_
  exact ⟨A, _, c, rfl, haf _ _ _ _ _ _ _ _ _, (fun b o e => by have := hab b o e; omega), by rw [msz_4, HQ.out, odd_4]; exact hrf _ _ _ _ _ _ _ _ _, hgf _ _ _ _ _ _ _ _ _⟩
set_option maxHeartbeats 4000000 in
theorem msg_5 (B N : Nat) (xs : List Int) (w : World) (h : RS B w N xs 4 false) :
    Calls Tryd.prog 42 #[.pointer (some ⟨N, 0, none⟩), .int .i64 5] w (msgOf B N 5 xs w) := by
  have hN := h.lt
  have HC0 := Lib.hid (fun W h => address_rd B N xs 4 false W h)
  have HC1 := Lib.hid (fun W h => address_rd B N xs 8 (false) W h)
  have hR := Blk.new w 28 #[.int .i64 0, .int .u32 0, .int .u32 0, .int .u32 0, .int .u32 0, .int .i64 0, .int .i64 0, .bool false, .slice none 0 0]
  have HR0 := Lib.hid (h.alloc (.cells #[.int .i64 0, .int .u32 0, .int .u32 0, .int .u32 0, .int .u32 0, .int .i64 0, .int .i64 0, .bool false, .slice none 0 0] 28))
  have HG0 := Lib.hid (only_alloc w (.cells #[.int .i64 0, .int .u32 0, .int .u32 0, .int .u32 0, .int .u32 0, .int .i64 0, .int .i64 0, .bool false, .slice none 0 0] 28) (some N))
  have HB0 := Lib.hid hR
  unfold msgOf
  rw [mrk_5]
  unfold addrOf at HC0
  unfold addrOf at HC1
  unfold mv
  clear h hR
  go_enter Tryd.func42, Tryd.ntmps42
  go_wp2_with fail
  refine (HC0.out _ HR0.out).mono ?_
  rintro e w1 ⟨rfl, hr, hg⟩
  have hb1 := HB0.out.only hg (by intro e; cases e; omega)
  have hg1 := only_trans HG0.out hg (fun k hk => .inl hk)
  have hM : w.heap.size < w1.heap.size := hb1.lt
  go_wp2_with fail
  have hr1 := hr.alloc (.cells #[.int .i64 5, .int .u32 (ra xs 4), .int .u32 0, .int .u32 0, .int .u32 0, .int .i64 0, .int .i64 0, .bool false, .slice none 0 0] 28)
  have hb1 := hb1.alloc (.cells #[.int .i64 5, .int .u32 (ra xs 4), .int .u32 0, .int .u32 0, .int .u32 0, .int .i64 0, .int .i64 0, .bool false, .slice none 0 0] 28)
  have hm1 := Blk.new w1 28 #[.int .i64 5, .int .u32 (ra xs 4), .int .u32 0, .int .u32 0, .int .u32 0, .int .i64 0, .int .i64 0, .bool false, .slice none 0 0]
  have hg1 := only_trans hg1 (only_alloc w1 (.cells #[.int .i64 5, .int .u32 (ra xs 4), .int .u32 0, .int .u32 0, .int .u32 0, .int .i64 0, .int .i64 0, .bool false, .slice none 0 0] 28) (some N)) (fun k hk => .inl hk)
  generalize hM0 : w1.heap.size = M at *
  generalize w1.alloc (.cells #[.int .i64 5, .int .u32 (ra xs 4), .int .u32 0, .int .u32 0, .int .u32 0, .int .i64 0, .int .i64 0, .bool false, .slice none 0 0] 28) = W1 at *
  have HR := Lib.hid hr1
  have HB := Lib.hid hb1
  have HM := Lib.hid hm1
  have HG := Lib.hid hg1
  clear hr hr1 hb1 hm1 hg1 hg hM0
  refine (HC1.out _ HR.out).mono ?_
  rintro e w2 ⟨rfl, hr, hg⟩
  have hb := HB.out.only hg (by intro e; cases e; omega)
  have hm := HM.out.only hg (by intro e; cases e; omega)
  have hgg := only_trans HG.out hg (fun k hk => .inl hk)
  clear HB HM HG HR hg
  have f4 : w2.frozen? ⟨M, 4, none⟩ = false := hm.frozen 4
  have x4 : w2.cell? ⟨M, 4, none⟩ = some (.int .u32 0) := hm.cell 4
  have HM := Lib.hid ((hm).set_to (cs' := #[.int .i64 5, .int .u32 (ra xs 4), .int .u32 0, .int .u32 0, .int .u32 (ra xs 8), .int .i64 0, .int .i64 0, .bool false, .slice none 0 0]) 4 (.int .u32 (ra xs 8)) rfl)
  have HB := Lib.hid ((hb).far (p := ⟨M, 4, none⟩) (Nat.ne_of_lt hM) (.int .u32 (ra xs 8)))
  have HR := Lib.hid ((hr).store (Nat.lt_trans hN hM) 4 (.int .u32 (ra xs 8)))
  have HG := Lib.hid (only_trans (hgg) (only_store _ M 4 (.int .u32 (ra xs 8))) (fun k hk => .inr (by cases hk; omega)))
  clear hm hb hr hgg
  have g0 : (w2.setCell ⟨M, 4, none⟩ (.int .u32 (ra xs 8))).frozen? ⟨w.heap.size, 0, none⟩ = false := HB.out.frozen 0
  have g1 : (w2.setCell ⟨M, 4, none⟩ (.int .u32 (ra xs 8))).frozen? ⟨w.heap.size, 1, none⟩ = false := HB.out.frozen 1
  have g2 : (w2.setCell ⟨M, 4, none⟩ (.int .u32 (ra xs 8))).frozen? ⟨w.heap.size, 2, none⟩ = false := HB.out.frozen 2
  have g3 : (w2.setCell ⟨M, 4, none⟩ (.int .u32 (ra xs 8))).frozen? ⟨w.heap.size, 3, none⟩ = false := HB.out.frozen 3
  have g4 : (w2.setCell ⟨M, 4, none⟩ (.int .u32 (ra xs 8))).frozen? ⟨w.heap.size, 4, none⟩ = false := HB.out.frozen 4
  have g5 : (w2.setCell ⟨M, 4, none⟩ (.int .u32 (ra xs 8))).frozen? ⟨w.heap.size, 5, none⟩ = false := HB.out.frozen 5
  have g6 : (w2.setCell ⟨M, 4, none⟩ (.int .u32 (ra xs 8))).frozen? ⟨w.heap.size, 6, none⟩ = false := HB.out.frozen 6
  have g7 : (w2.setCell ⟨M, 4, none⟩ (.int .u32 (ra xs 8))).frozen? ⟨w.heap.size, 7, none⟩ = false := HB.out.frozen 7
  have g8 : (w2.setCell ⟨M, 4, none⟩ (.int .u32 (ra xs 8))).frozen? ⟨w.heap.size, 8, none⟩ = false := HB.out.frozen 8
  have y0 : (w2.setCell ⟨M, 4, none⟩ (.int .u32 (ra xs 8))).cell? ⟨w.heap.size, 0, none⟩ = _ := HB.out.cell 0
  have y1 : (w2.setCell ⟨M, 4, none⟩ (.int .u32 (ra xs 8))).cell? ⟨w.heap.size, 1, none⟩ = _ := HB.out.cell 1
  have y2 : (w2.setCell ⟨M, 4, none⟩ (.int .u32 (ra xs 8))).cell? ⟨w.heap.size, 2, none⟩ = _ := HB.out.cell 2
  have y3 : (w2.setCell ⟨M, 4, none⟩ (.int .u32 (ra xs 8))).cell? ⟨w.heap.size, 3, none⟩ = _ := HB.out.cell 3
  have y4 : (w2.setCell ⟨M, 4, none⟩ (.int .u32 (ra xs 8))).cell? ⟨w.heap.size, 4, none⟩ = _ := HB.out.cell 4
  have y5 : (w2.setCell ⟨M, 4, none⟩ (.int .u32 (ra xs 8))).cell? ⟨w.heap.size, 5, none⟩ = _ := HB.out.cell 5
  have y6 : (w2.setCell ⟨M, 4, none⟩ (.int .u32 (ra xs 8))).cell? ⟨w.heap.size, 6, none⟩ = _ := HB.out.cell 6
  have y7 : (w2.setCell ⟨M, 4, none⟩ (.int .u32 (ra xs 8))).cell? ⟨w.heap.size, 7, none⟩ = _ := HB.out.cell 7
  have y8 : (w2.setCell ⟨M, 4, none⟩ (.int .u32 (ra xs 8))).cell? ⟨w.heap.size, 8, none⟩ = _ := HB.out.cell 8
  have z0 : (w2.setCell ⟨M, 4, none⟩ (.int .u32 (ra xs 8))).cell? ⟨M, 0, none⟩ = some (.int .i64 5) := HM.out.cell 0
  have z1 : (w2.setCell ⟨M, 4, none⟩ (.int .u32 (ra xs 8))).cell? ⟨M, 1, none⟩ = some (.int .u32 (ra xs 4)) := HM.out.cell 1
  have z2 : (w2.setCell ⟨M, 4, none⟩ (.int .u32 (ra xs 8))).cell? ⟨M, 2, none⟩ = some (.int .u32 0) := HM.out.cell 2
  have z3 : (w2.setCell ⟨M, 4, none⟩ (.int .u32 (ra xs 8))).cell? ⟨M, 3, none⟩ = some (.int .u32 0) := HM.out.cell 3
  have z4 : (w2.setCell ⟨M, 4, none⟩ (.int .u32 (ra xs 8))).cell? ⟨M, 4, none⟩ = some (.int .u32 (ra xs 8)) := HM.out.cell 4
  have z5 : (w2.setCell ⟨M, 4, none⟩ (.int .u32 (ra xs 8))).cell? ⟨M, 5, none⟩ = some (.int .i64 0) := HM.out.cell 5
  have z6 : (w2.setCell ⟨M, 4, none⟩ (.int .u32 (ra xs 8))).cell? ⟨M, 6, none⟩ = some (.int .i64 0) := HM.out.cell 6
  have z7 : (w2.setCell ⟨M, 4, none⟩ (.int .u32 (ra xs 8))).cell? ⟨M, 7, none⟩ = some (.bool false) := HM.out.cell 7
  have z8 : (w2.setCell ⟨M, 4, none⟩ (.int .u32 (ra xs 8))).cell? ⟨M, 8, none⟩ = some (.slice none 0 0) := HM.out.cell 8
  go_wp2
  have hs : ∀ W : World, w.grownBy W (some N) → ∀ i u, w.grownBy (W.setCell ⟨w.heap.size, i, none⟩ u) (some N) := fun W hW i u => only_trans hW (only_store W w.heap.size i u) (fun k hk => .inr (by cases hk; exact Nat.le_refl _))
  have hgf := nine (P := fun W => w.grownBy W (some N)) hs HG.out
  have hrf := nine (P := fun W => RS B W N xs (8 + 4) false) (fun W hW i u => hW.store hN i u) HR.out
  refine bodyPost_ret (v := .agg #[.int .i64 5, .int .u32 (ra xs 4), .int .u32 0, .int .u32 0, .int .u32 (ra xs 8), .int .i64 0, .int .i64 0, .bool false, .slice none 0 0]) (by simp [results, Tryd.results42, go_sem, y0, y1, y2, y3, y4, y5, y6, y7, y8]) rfl ?_
  exact ⟨none, 0, 0, rfl, AR.none_ _ _, (fun b o e => by cases e), by rw [msz_5, odd_5]; exact hrf _ _ _ _ _ _ _ _ _, hgf _ _ _ _ _ _ _ _ _⟩
end Go.Proofs.YtfcfnfofihpegaaDoor
