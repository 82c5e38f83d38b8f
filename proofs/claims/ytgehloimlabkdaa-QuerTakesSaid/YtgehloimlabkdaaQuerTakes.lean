/- The statement on one that hears a lesser address, walked. -/
import Derived.Test.YtgehloimlabkdaaQr
namespace Go.Proofs.Ytgehloimlabkdaa
open Go.RowKit Sm
/-- a turn behind as many silent ticks -/
def uP : Nat → Int × Int
  | 0 => (0, 3)
  | 1 => (0, 2)
  | 2 => (0, 1)
  | _ => (1, 0)
theorem uP_next (own : Int) : ∀ i, stepP (uP i).2 own [] = uP (i + 1)
  | 0 => by simp [stepP, lessP, uP]; decide
  | 1 => by simp [stepP, lessP, uP]; decide
  | 2 => by simp [stepP, lessP, uP]
  | i + 3 => by simp [stepP, lessP, uP]; decide
theorem uP_bd : ∀ i, -9223372036854775808 ≤ (uP i).2 ∧ (uP i).2 ≤ 9223372036854775807
  | 0 => by decide
  | 1 => by decide
  | 2 => by decide
  | i + 3 => by simp [uP]
theorem uP_asks : ∀ i : Nat, ((uP i).1 == 1) = decide (3 ≤ i)
  | 0 => by decide
  | 1 => by decide
  | 2 => by decide
  | i + 3 => by simp [uP]
theorem step_one (o own other : Int) : stepP o own [other] = if other < own then (0, 3) else if max o 1 - 1 > 0 then (0, max o 1 - 1) else (1, 0) := by
  by_cases h : other < own <;> simp [stepP, lessP, leastP, h]
theorem fld_asks (a b : Int) (w : World) : (Instr.field 31 (.agg #[.int .i64 a, .int .i64 b]) 0).run Try.prog w = .ok (.int .i64 a) w := by kernel_rfl
theorem ar_one {w : World} {g : Nat} {t : TypeId} {x : Int} (h : Blk w g t #[.int .u32 x]) (hx : isA x) : AR w (some ⟨g, 0, none⟩) 1 [x] :=
  ⟨rfl, fun y hy => by simp at hy; subst hy; exact hx, fun _ => ⟨g, 0, rfl, h.lt, fun i hi => by
    have e : i = 0 := by omega
    subst e
    simpa using h.cell 0⟩⟩
set_option maxRecDepth 100000 in
set_option maxHeartbeats 4000000 in
theorem law_takes (own other n : Int) (w : World) (_h0 : 0 ≤ own ∧ own ≤ 4294967295) (h1 : 0 ≤ other ∧ other ≤ 4294967295) :
    Calls Try.prog 4 #[.int .u32 own, .int .u32 other, .int .i64 n] w fun e w' => e = .returned (.bool true) ∧ Below w.heap.size w w' := by
  obtain ⟨m, hm, hm6⟩ : ∃ m : Nat, n % 6 = (m : Int) ∧ m < 6 := ⟨(n % 6).toNat, by omega, by omega⟩
  have HST : ∀ k o W g, Blk W g 24 #[.int .u32 other] → -9223372036854775808 ≤ o ∧ o ≤ 9223372036854775807 → Calls Try.prog 9 #[.agg #[.int .i64 k, .int .i64 o], .int .u32 own, .slice (some ⟨g, 0, none⟩) 1 1] W _ := fun k o W g hb ho => step_any k o own (some ⟨g, 0, none⟩) 1 1 [other] W (ar_one hb h1) (by decide) ho
  go_enter Try.func4, Try.ntmps4
  go_upto_region 5 with (first
    | (go_at_call 6; refine (first13_any _).mono ?_; rintro e w1 ⟨rfl, hb1⟩; have HB1 := Lib.hid hb1; clear hb1)
    | (go_at_call 8; refine (number_any _ _ _ (by decide) (by decide)).mono ?_; rintro e w2 ⟨rfl, hw2⟩; obtain rfl := hw2.symm; rw [hm]))
  by_cases hlt : other < own
  · have e1 : stepP 0 own [other] = (0, 3) := by rw [step_one, if_pos hlt]
    have d1 : ¬ own ≤ other := by omega
    go_upto_region 10 with (go_at_call 9; (with_reducible refine (HST 0 0 _ _ (Blk.new _ _ _) (by decide)).mono ?_); rintro e w3 ⟨rfl, hb3⟩; rw [e1]; have HB3 := Lib.hid (below_next (HB1.out.alloc HB1.out.size _) hb3); clear hb3)
    have HK := Lib.hid (Blk.new w3 31 #[.int .i64 0, .int .i64 3])
    have HB4 := Lib.hid (HB3.out.alloc HB3.out.size (.cells #[.int .i64 0, .int .i64 3] 31))
    have HN : w.heap.size ≤ w3.heap.size := HB3.out.size
    generalize w3.alloc (.cells #[.int .i64 0, .int .i64 3] 31) = w4 at *
    generalize w3.heap.size = N at *
    go_wp2_with fail
    go_loopw [9] (fun iv wr => ∃ j : Nat, j ≤ m ∧ iv = .int .i64 ((j + 1 : Nat) : Int) ∧ Hid (Blk wr N 31 #[.int .i64 (uP j).1, .int .i64 (uP j).2]) ∧ Hid (Below w.heap.size w wr)) (fun iv _ => m + 1 - (intOf iv).toNat)
    case atStart => exact ⟨0, by omega, rfl, HK, HB4⟩
    case round =>
      obtain ⟨j, hj, rfl, HK5, HB5⟩ := hrel
      have hs := fun W => step_any (uP j).1 (uP j).2 own none 0 0 [] W (AR.none_ _ _) (by decide) (uP_bd j)
      rw [uP_next] at hs
      have ha := uP_asks (j + 1)
      rcases Nat.lt_or_ge j m with hlt2 | hge
      · have l1 : ((j + 1 : Nat) : Int) ≤ (m : Int) := by omega
        have c0 := HK5.out.cell 0
        have c1 := HK5.out.cell 1
        obtain ⟨⟨y1, y2⟩, hy⟩ : ∃ y, uP (j + 1) = y := ⟨_, rfl⟩
        rw [hy] at hs ha
        have HY := Lib.hid hy
        clear hy
        generalize (uP j).1 = x1 at *
        generalize (uP j).2 = x2 at *
        dsimp only at hs ha
        go_upto_region 14 with (go_at_call 9; (with_reducible refine (hs _).mono ?_); rintro e w6 ⟨rfl, hb6⟩; have HK6 := Lib.hid (HK5.out.next hb6); have HB6 := Lib.hid (below_next HB5.out hb6); have z0 := HK6.out.cell 0; have z1 := HK6.out.cell 1; have zf := HK6.out.frozen 0; have zg := HK6.out.frozen 1; clear hb6)
        have HK7 : Hid (Blk ((w6.setCell ⟨N, 0, none⟩ (.int .i64 y1)).setCell ⟨N, 1, none⟩ (.int .i64 y2)) N 31 #[.int .i64 y1, .int .i64 y2]) := Lib.hid ((HK6.out.set_ 0 _).set_ 1 _)
        have HB7 := Lib.hid ((HB6.out.setCell (p := ⟨N, 0, none⟩) (by simpa using HN) (.int .i64 y1)).setCell (p := ⟨N, 1, none⟩) (by simpa using HN) (.int .i64 y2))
        generalize (w6.setCell ⟨N, 0, none⟩ (.int .i64 y1)).setCell ⟨N, 1, none⟩ (.int .i64 y2) = w7 at *
        have d0 := HK7.out.cell 0
        clear z0 z1 zf zg c0 c1 hs
        rcases Nat.lt_or_ge (j + 1) 3 with h3 | h3
        · have a1 : (y1 == 1) = false := by rw [ha]; simp; omega
          have a2 : ¬ (3 : Int) ≤ ((j + 1 : Nat) : Int) := by omega
          have a3 : decide ((3 : Int) ≤ (j : Int) + 1) = false := by simp; omega
          clear ha
          go_wp2
          go_roundw
          case rel => exact ⟨j + 1, by omega, by go_num, by rw [HY.out]; exact HK7, HB7⟩
          case measure => simp [intOf]; omega
        · have a1 : (y1 == 1) = true := by rw [ha]; simp; omega
          have a2 : (3 : Int) ≤ ((j + 1 : Nat) : Int) := by omega
          have a3 : decide ((3 : Int) ≤ (j : Int) + 1) = true := by simp; omega
          clear ha
          go_wp2
          go_roundw
          case rel => exact ⟨j + 1, by omega, by go_num, by rw [HY.out]; exact HK7, HB7⟩
          case measure => simp [intOf]; omega
      · have l1 : ¬ ((j + 1 : Nat) : Int) ≤ (m : Int) := by omega
        have c0 := HK5.out.cell 0
        have c1 := HK5.out.cell 1
        have e2 : stepP (uP j).2 own [other] = (0, 3) := by rw [step_one, if_pos hlt]
        have hu := uP_bd j
        generalize (uP j).1 = x1 at *
        generalize (uP j).2 = x2 at *
        clear ha hs
        have HC0 := Lib.hid c0
        have HC1 := Lib.hid c1
        go_upto_region 16 with fail
        go_wp2_with (go_at_call 9; (with_reducible refine (HST x1 x2 _ _ (Blk.new _ _ _) hu).mono ?_); rintro e w3 ⟨rfl, hb3⟩; rw [e2]; have HB6 := Lib.hid (below_next (HB5.out.alloc HB5.out.size _) hb3); clear hb3; have hf := fld_asks 0 3 w3)
        go_ret
        exact ⟨rfl, HB6.out⟩
  · have e1 : stepP 0 own [other] = (1, 0) := by rw [step_one, if_neg hlt]; decide
    have d1 : own ≤ other := by omega
    go_wp2_with (go_at_call 9; (with_reducible refine (HST 0 0 _ _ (Blk.new _ _ _) (by decide)).mono ?_); rintro e w3 ⟨rfl, hb3⟩; rw [e1]; have HB3 := Lib.hid (below_next (HB1.out.alloc HB1.out.size _) hb3); clear hb3)
    go_ret
    exact ⟨rfl, HB3.out.alloc HB3.out.size _⟩
end Go.Proofs.Ytgehloimlabkdaa

