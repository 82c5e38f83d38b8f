/- AddrBytes: for every two addresses, every place and every byte the law returns true. -/
import Derived.Test.YtcnkbhmhbbpmhaaDoorText
namespace Go.Proofs.YtcnkbhmhbbpmhaaDoor
open Go.RowKit
namespace Ad
def arr4 (x0 x1 x2 x3 : Int) : Array Value := #[.int .u8 x0, .int .u8 x1, .int .u8 x2, .int .u8 x3]
/-- what is known of 'less' when places i + 1 .. 3 have been gone through -/
def Less (a b : Int) (i : Int) (l : Bool) : Prop :=
  (i = 3 ∧ l = false) ∨ (i = 2 ∧ l = decide (a % 256 < b % 256)) ∨ (i = 1 ∧ l = decide (a % 65536 < b % 65536)) ∨ (i = 0 ∧ l = decide (a % 16777216 < b % 16777216)) ∨ (i = -1 ∧ l = decide (a < b))
end Ad
theorem arr_same (x0 x1 x2 x3 : Int) : ∀ w, (Op.equalIn 10000 39 (.agg #[.int .u8 x0, .int .u8 x1, .int .u8 x2, .int .u8 x3]) (.agg #[.int .u8 x0, .int .u8 x1, .int .u8 x2, .int .u8 x3])).run Tryd.prog w = .ok true w := fun w => by
  have h : ∀ d : Nat, (Op.equalIn (d + 2) 39 (.agg #[.int .u8 x0, .int .u8 x1, .int .u8 x2, .int .u8 x3]) (.agg #[.int .u8 x0, .int .u8 x1, .int .u8 x2, .int .u8 x3])).run Tryd.prog w = .ok true w := fun d => by
    have hz : ∀ w, (sizeOf 5).run Tryd.prog w = .ok 1 w := fun w => by kernel_rfl
    have p0 : ∀ w, (part 5 #[.int .u8 x0, .int .u8 x1, .int .u8 x2, .int .u8 x3] 0).run Tryd.prog w = .ok (.int .u8 x0) w := fun w => by kernel_rfl
    have p1 : ∀ w, (part 5 #[.int .u8 x0, .int .u8 x1, .int .u8 x2, .int .u8 x3] 1).run Tryd.prog w = .ok (.int .u8 x1) w := fun w => by kernel_rfl
    have p2 : ∀ w, (part 5 #[.int .u8 x0, .int .u8 x1, .int .u8 x2, .int .u8 x3] 2).run Tryd.prog w = .ok (.int .u8 x2) w := fun w => by kernel_rfl
    have p3 : ∀ w, (part 5 #[.int .u8 x0, .int .u8 x1, .int .u8 x2, .int .u8 x3] 3).run Tryd.prog w = .ok (.int .u8 x3) w := fun w => by kernel_rfl
    have he : ∀ x w, (Op.equalIn (d + 1) 5 (.int .u8 x) (.int .u8 x)).run Tryd.prog w = .ok true w := fun x w => by rw [run_equalIn_int _ d 5 .u8 .u8 x x Tryd.underlying5]; simp
    rw [Op.equalIn]
    simp [run_underlying Tryd.underlying39, hz, List.range', p0, p1, p2, p3, he]
  exact h 9998
theorem eight {w W : World} {B X Z : Nat} {t : TypeId} {x0 x1 x2 x3 z0 z1 z2 z3 : Int} (hX : Blk W X t #[.int .u8 (x0), .int .u8 (x1), .int .u8 (x2), .int .u8 (x3)]) (hZ : Blk W Z t #[.int .u8 (z0), .int .u8 (z1), .int .u8 (z2), .int .u8 (z3)]) (hB : Below B w W) :
    Blk W X t #[.int .u8 (x0), .int .u8 (x1), .int .u8 (x2), .int .u8 (x3)] ∧ Blk W Z t #[.int .u8 (z0), .int .u8 (z1), .int .u8 (z2), .int .u8 (z3)] ∧ Below B w W ∧ W.cell? ⟨X, 0, none⟩ = some (.int .u8 (x0)) ∧ W.cell? ⟨X, 1, none⟩ = some (.int .u8 (x1)) ∧ W.cell? ⟨X, 2, none⟩ = some (.int .u8 (x2)) ∧ W.cell? ⟨X, 3, none⟩ = some (.int .u8 (x3)) ∧ W.cell? ⟨Z, 0, none⟩ = some (.int .u8 (z0)) ∧ W.cell? ⟨Z, 1, none⟩ = some (.int .u8 (z1)) ∧ W.cell? ⟨Z, 2, none⟩ = some (.int .u8 (z2)) ∧ W.cell? ⟨Z, 3, none⟩ = some (.int .u8 (z3)) :=
  ⟨hX, hZ, hB, hX.cell 0, hX.cell 1, hX.cell 2, hX.cell 3, hZ.cell 0, hZ.cell 1, hZ.cell 2, hZ.cell 3⟩
theorem eight_next {w W w1 : World} {X Z : Nat} {t : TypeId} {x0 x1 x2 x3 z0 z1 z2 z3 : Int}
    (h : Blk W X t #[.int .u8 (x0), .int .u8 (x1), .int .u8 (x2), .int .u8 (x3)] ∧ Blk W Z t #[.int .u8 (z0), .int .u8 (z1), .int .u8 (z2), .int .u8 (z3)] ∧ Below w.heap.size w W ∧ W.cell? ⟨X, 0, none⟩ = some (.int .u8 (x0)) ∧ W.cell? ⟨X, 1, none⟩ = some (.int .u8 (x1)) ∧ W.cell? ⟨X, 2, none⟩ = some (.int .u8 (x2)) ∧ W.cell? ⟨X, 3, none⟩ = some (.int .u8 (x3)) ∧ W.cell? ⟨Z, 0, none⟩ = some (.int .u8 (z0)) ∧ W.cell? ⟨Z, 1, none⟩ = some (.int .u8 (z1)) ∧ W.cell? ⟨Z, 2, none⟩ = some (.int .u8 (z2)) ∧ W.cell? ⟨Z, 3, none⟩ = some (.int .u8 (z3))) (hb : Below W.heap.size W w1) :
    Blk w1 X t #[.int .u8 (x0), .int .u8 (x1), .int .u8 (x2), .int .u8 (x3)] ∧ Blk w1 Z t #[.int .u8 (z0), .int .u8 (z1), .int .u8 (z2), .int .u8 (z3)] ∧ Below w.heap.size w w1 ∧ w1.cell? ⟨X, 0, none⟩ = some (.int .u8 (x0)) ∧ w1.cell? ⟨X, 1, none⟩ = some (.int .u8 (x1)) ∧ w1.cell? ⟨X, 2, none⟩ = some (.int .u8 (x2)) ∧ w1.cell? ⟨X, 3, none⟩ = some (.int .u8 (x3)) ∧ w1.cell? ⟨Z, 0, none⟩ = some (.int .u8 (z0)) ∧ w1.cell? ⟨Z, 1, none⟩ = some (.int .u8 (z1)) ∧ w1.cell? ⟨Z, 2, none⟩ = some (.int .u8 (z2)) ∧ w1.cell? ⟨Z, 3, none⟩ = some (.int .u8 (z3)) :=
  eight (h.1.next hb) (h.2.1.next hb) (h.2.2.1.trans (hb.mono h.2.2.1.size))
set_option maxRecDepth 100000 in
set_option maxHeartbeats 16000000 in
theorem law_bytes (a b n c : Int) (w : World) (hT : EnvT w) (a0 : 0 ≤ a) (a1 : a ≤ 4294967295) (b0 : 0 ≤ b) (b1 : b ≤ 4294967295) (c0 : 0 ≤ c) (c1 : c ≤ 255) :
    Calls Tryd.prog 6 #[.int .u32 a, .int .u32 b, .int .i64 n, .int .u8 c] w fun e w' => e = .returned (.bool true) ∧ Below w.heap.size w w' := by
  have HF := Lib.hid (first_any w hT)
  clear hT
  go_enter Tryd.func6, Tryd.ntmps6
  go_wp2_with (first
    | (go_at_call 9; refine HF.out.mono ?_; rintro e w1 ⟨rfl, hb1⟩; have HB1 := Lib.hid hb1; clear hb1)
    | (go_at_call_of 16 (Value.int IntKind.u32 a); refine (bytes_any a _ a0 a1).mono ?_; rintro e w2 ⟨rfl, hb2⟩; have HB2 := Lib.hid hb2; clear hb2)
    | (go_at_call_of 16 (Value.int IntKind.u32 b); refine (bytes_any b _ b0 b1).mono ?_; rintro e w3 ⟨rfl, hb3⟩; have HB3 := Lib.hid hb3; clear hb3))
  have hX : Blk (w3.alloc (.cells (Ad.arr4 (b / 16777216) (b / 65536 % 256) (b / 256 % 256) (b % 256)) 39)) w2.heap.size 39 (Ad.arr4 (a / 16777216) (a / 65536 % 256) (a / 256 % 256) (a % 256)) := ((Blk.new w2 _ _).next HB3.out).alloc _
  have hY : Blk (w3.alloc (.cells (Ad.arr4 (b / 16777216) (b / 65536 % 256) (b / 256 % 256) (b % 256)) 39)) w3.heap.size 39 (Ad.arr4 (b / 16777216) (b / 65536 % 256) (b / 256 % 256) (b % 256)) := Blk.new w3 _ _
  have hW : Below w.heap.size w (w3.alloc (.cells (Ad.arr4 (b / 16777216) (b / 65536 % 256) (b / 256 % 256) (b % 256)) 39)) := by
    have h2 : Below w.heap.size w w2 := HB1.out.trans (HB2.out.mono HB1.out.size)
    have h3 : Below w.heap.size w w3 := (h2.alloc h2.size _).trans (HB3.out.mono (Nat.le_trans h2.size (by simp)))
    exact h3.alloc h3.size _
  have hXY : w2.heap.size < w3.heap.size := Nat.lt_of_lt_of_le (by simp) HB3.out.size
  have HX := Lib.hid hX
  have HY := Lib.hid hY
  have HW := Lib.hid hW
  have HS := Lib.hid (Nat.lt_of_lt_of_le (Nat.lt_of_le_of_lt (Nat.zero_le _) hXY) (Nat.le_refl _))
  clear hX hY hW HS HB2 HB3 HB1
  generalize w2.heap.size = X at *
  generalize w3.heap.size = Y at *
  go_loopw [12, 13] (fun l i wr => ∃ (bl : Bool) (k : Int), l = .bool bl ∧ i = .int .i64 k ∧ Ad.Less a b k bl ∧ Blk wr X 39 (Ad.arr4 (a / 16777216) (a / 65536 % 256) (a / 256 % 256) (a % 256)) ∧ Blk wr Y 39 (Ad.arr4 (b / 16777216) (b / 65536 % 256) (b / 256 % 256) (b % 256)) ∧ Below w.heap.size w wr) (fun _ i _ => (intOf i + 1).toNat)
  case atStart => exact ⟨false, 3, rfl, rfl, .inl ⟨rfl, rfl⟩, HX.out, HY.out, HW.out⟩
  case round =>
    obtain ⟨bl, k, rfl, rfl, hL, hX, hY, hW⟩ := hrel
    clear HX HY HW
    have HX := Lib.hid hX
    have HY := Lib.hid hY
    have HW := Lib.hid hW
    clear hX hY hW
    rcases hL with ⟨rfl, hl⟩ | ⟨rfl, hl⟩ | ⟨rfl, hl⟩ | ⟨rfl, hl⟩ | ⟨rfl, hl⟩
    · have hx : wr.cell? ⟨X, 3, none⟩ = some (.int .u8 (a % 256)) := HX.out.cell 3
      have hy : wr.cell? ⟨Y, 3, none⟩ = some (.int .u8 (b % 256)) := HY.out.cell 3
      have HL := Lib.hid hl
      clear hl
      rcases Int.lt_trichotomy (a % 256) (b % 256) with h | h | h
      · have hd : decide (a % 256 < b % 256) = true := by simpa using h
        go_wp2_with fail
        go_quiet (fail)
        go_wp2
        go_roundw
        case rel => exact ⟨true, 2, rfl, rfl, .inr (.inl ⟨rfl, by have := HL.out; simp; omega⟩), HX.out.drewN _, HY.out.drewN _, below_drewN HW.out _⟩
        case measure => simp [intOf]
      · have hd : decide (a % 256 < b % 256) = false := by simp; omega
        have he : ((a % 256) == (b % 256)) = true := by simp; omega
        have HH := Lib.hid h
        clear h
        go_wp2_with fail
        go_quiet (fail)
        go_wp2
        go_roundw
        case rel => exact ⟨bl, 2, rfl, rfl, .inr (.inl ⟨rfl, by have := HL.out; have := HH.out; subst bl; simp; omega⟩), HX.out.drewN _, HY.out.drewN _, below_drewN HW.out _⟩
        case measure => simp [intOf]
      · have hd : decide (a % 256 < b % 256) = false := by simp; omega
        have he : ((a % 256) == (b % 256)) = false := by simp; omega
        go_wp2_with fail
        go_quiet (fail)
        go_wp2
        go_roundw
        case rel => exact ⟨false, 2, rfl, rfl, .inr (.inl ⟨rfl, by have := HL.out; simp; omega⟩), HX.out.drewN _, HY.out.drewN _, below_drewN HW.out _⟩
        case measure => simp [intOf]
    · have hx : wr.cell? ⟨X, 2, none⟩ = some (.int .u8 (a / 256 % 256)) := HX.out.cell 2
      have hy : wr.cell? ⟨Y, 2, none⟩ = some (.int .u8 (b / 256 % 256)) := HY.out.cell 2
      have HL := Lib.hid hl
      clear hl
      rcases Int.lt_trichotomy (a / 256 % 256) (b / 256 % 256) with h | h | h
      · have hd : decide (a / 256 % 256 < b / 256 % 256) = true := by simpa using h
        go_wp2_with fail
        go_quiet (fail)
        go_wp2
        go_roundw
        case rel => exact ⟨true, 1, rfl, rfl, .inr (.inr (.inl ⟨rfl, by have := HL.out; simp; omega⟩)), HX.out.drewN _, HY.out.drewN _, below_drewN HW.out _⟩
        case measure => simp [intOf]
      · have hd : decide (a / 256 % 256 < b / 256 % 256) = false := by simp; omega
        have he : ((a / 256 % 256) == (b / 256 % 256)) = true := by simp; omega
        have HH := Lib.hid h
        clear h
        go_wp2_with fail
        go_quiet (fail)
        go_wp2
        go_roundw
        case rel => exact ⟨bl, 1, rfl, rfl, .inr (.inr (.inl ⟨rfl, by have := HL.out; have := HH.out; subst bl; simp; omega⟩)), HX.out.drewN _, HY.out.drewN _, below_drewN HW.out _⟩
        case measure => simp [intOf]
      · have hd : decide (a / 256 % 256 < b / 256 % 256) = false := by simp; omega
        have he : ((a / 256 % 256) == (b / 256 % 256)) = false := by simp; omega
        go_wp2_with fail
        go_quiet (fail)
        go_wp2
        go_roundw
        case rel => exact ⟨false, 1, rfl, rfl, .inr (.inr (.inl ⟨rfl, by have := HL.out; simp; omega⟩)), HX.out.drewN _, HY.out.drewN _, below_drewN HW.out _⟩
        case measure => simp [intOf]
    · have hx : wr.cell? ⟨X, 1, none⟩ = some (.int .u8 (a / 65536 % 256)) := HX.out.cell 1
      have hy : wr.cell? ⟨Y, 1, none⟩ = some (.int .u8 (b / 65536 % 256)) := HY.out.cell 1
      have HL := Lib.hid hl
      clear hl
      rcases Int.lt_trichotomy (a / 65536 % 256) (b / 65536 % 256) with h | h | h
      · have hd : decide (a / 65536 % 256 < b / 65536 % 256) = true := by simpa using h
        go_wp2_with fail
        go_quiet (fail)
        go_wp2
        go_roundw
        case rel => exact ⟨true, 0, rfl, rfl, .inr (.inr (.inr (.inl ⟨rfl, by have := HL.out; simp; omega⟩))), HX.out.drewN _, HY.out.drewN _, below_drewN HW.out _⟩
        case measure => simp [intOf]
      · have hd : decide (a / 65536 % 256 < b / 65536 % 256) = false := by simp; omega
        have he : ((a / 65536 % 256) == (b / 65536 % 256)) = true := by simp; omega
        have HH := Lib.hid h
        clear h
        go_wp2_with fail
        go_quiet (fail)
        go_wp2
        go_roundw
        case rel => exact ⟨bl, 0, rfl, rfl, .inr (.inr (.inr (.inl ⟨rfl, by have := HL.out; have := HH.out; subst bl; simp; omega⟩))), HX.out.drewN _, HY.out.drewN _, below_drewN HW.out _⟩
        case measure => simp [intOf]
      · have hd : decide (a / 65536 % 256 < b / 65536 % 256) = false := by simp; omega
        have he : ((a / 65536 % 256) == (b / 65536 % 256)) = false := by simp; omega
        go_wp2_with fail
        go_quiet (fail)
        go_wp2
        go_roundw
        case rel => exact ⟨false, 0, rfl, rfl, .inr (.inr (.inr (.inl ⟨rfl, by have := HL.out; simp; omega⟩))), HX.out.drewN _, HY.out.drewN _, below_drewN HW.out _⟩
        case measure => simp [intOf]
    · have hx : wr.cell? ⟨X, 0, none⟩ = some (.int .u8 (a / 16777216)) := HX.out.cell 0
      have hy : wr.cell? ⟨Y, 0, none⟩ = some (.int .u8 (b / 16777216)) := HY.out.cell 0
      have HL := Lib.hid hl
      clear hl
      rcases Int.lt_trichotomy (a / 16777216) (b / 16777216) with h | h | h
      · have hd : decide (a / 16777216 < b / 16777216) = true := by simpa using h
        go_wp2_with fail
        go_quiet (fail)
        go_wp2
        go_roundw
        case rel => exact ⟨true, -1, rfl, rfl, .inr (.inr (.inr (.inr ⟨rfl, by have := HL.out; simp; omega⟩))), HX.out.drewN _, HY.out.drewN _, below_drewN HW.out _⟩
        case measure => simp [intOf]
      · have hd : decide (a / 16777216 < b / 16777216) = false := by simp; omega
        have he : ((a / 16777216) == (b / 16777216)) = true := by simp; omega
        have HH := Lib.hid h
        clear h
        go_wp2_with fail
        go_quiet (fail)
        go_wp2
        go_roundw
        case rel => exact ⟨bl, -1, rfl, rfl, .inr (.inr (.inr (.inr ⟨rfl, by have := HL.out; have := HH.out; subst bl; simp; omega⟩))), HX.out.drewN _, HY.out.drewN _, below_drewN HW.out _⟩
        case measure => simp [intOf]
      · have hd : decide (a / 16777216 < b / 16777216) = false := by simp; omega
        have he : ((a / 16777216) == (b / 16777216)) = false := by simp; omega
        go_wp2_with fail
        go_quiet (fail)
        go_wp2
        go_roundw
        case rel => exact ⟨false, -1, rfl, rfl, .inr (.inr (.inr (.inr ⟨rfl, by have := HL.out; simp; omega⟩))), HX.out.drewN _, HY.out.drewN _, below_drewN HW.out _⟩
        case measure => simp [intOf]
    · subst hl
      have hn0 : 0 ≤ n % 4 := by omega
      have hn1 : n % 4 ≤ 3 := by omega
      have HN := Lib.hid (fun w => number_any n 4 w (by omega) (by omega))
      generalize n % 4 = at_ at hn0 hn1 HN
      have hx0 : wr.cell? ⟨X, 0, none⟩ = some (.int .u8 (a / 16777216)) := HX.out.cell 0
      have hx1 : wr.cell? ⟨X, 1, none⟩ = some (.int .u8 (a / 65536 % 256)) := HX.out.cell 1
      have hx2 : wr.cell? ⟨X, 2, none⟩ = some (.int .u8 (a / 256 % 256)) := HX.out.cell 2
      have hx3 : wr.cell? ⟨X, 3, none⟩ = some (.int .u8 (a % 256)) := HX.out.cell 3
      have HOx := Lib.hid (fun w => (of_any (a / 16777216) (a / 65536 % 256) (a / 256 % 256) (a % 256) w (by omega) (by omega) (by omega) (by omega) (by omega) (by omega) (by omega) (by omega)).mono (fun e w' h => (⟨h.1.trans (ret_int (show _ = a by omega)), h.2⟩ : e = .returned (.int .u32 a) ∧ Below w.heap.size w w')))
      have hat : at_ = 0 ∨ at_ = 1 ∨ at_ = 2 ∨ at_ = 3 := by omega
      clear HF HY
      rcases hat with rfl | rfl | rfl | rfl
      · have HOz := Lib.hid (fun w => of_any (c) (a / 65536 % 256) (a / 256 % 256) (a % 256) w (by omega) (by omega) (by omega) (by omega) (by omega) (by omega) (by omega) (by omega))
        have HBz := Lib.hid (fun w => bytes_any ((c) * 16777216 + (a / 65536 % 256) * 65536 + (a / 256 % 256) * 256 + (a % 256)) w (by omega) (by omega))
        have hsame := arr_same (c) (a / 65536 % 256) (a / 256 % 256) (a % 256)
        obtain ⟨v, hv⟩ : ∃ v, v = (c) * 16777216 + (a / 65536 % 256) * 65536 + (a / 256 % 256) * 256 + (a % 256) := ⟨_, rfl⟩
        rw [← hv] at HOz HBz
        rw [show v / 16777216 = c by omega, show v / 65536 % 256 = a / 65536 % 256 by omega, show v / 256 % 256 = a / 256 % 256 by omega, show v % 256 = a % 256 by omega] at HBz
        obtain ⟨q, hva, hcx⟩ : ∃ q : Bool, (v == a) = q ∧ (c == a / 16777216) = q := by
          refine ⟨_, rfl, ?_⟩
          rw [Bool.eq_iff_iff]; simp; omega
        clear hv
        cases q
        all_goals
          go_wp2_with (go_at_call 30; refine (HN.out _).mono ?_; rintro e w4 ⟨rfl, rfl⟩)
          have hHW := HW.out.size
          go_region_held3 (fun w' => Blk w' X 39 #[.int .u8 (a / 16777216), .int .u8 (a / 65536 % 256), .int .u8 (a / 256 % 256), .int .u8 (a % 256)] ∧ Blk w' wr.heap.size 39 #[.int .u8 (c), .int .u8 (a / 65536 % 256), .int .u8 (a / 256 % 256), .int .u8 (a % 256)] ∧ Below w.heap.size w w' ∧ w'.cell? ⟨X, 0, none⟩ = some (.int .u8 (a / 16777216)) ∧ w'.cell? ⟨X, 1, none⟩ = some (.int .u8 (a / 65536 % 256)) ∧ w'.cell? ⟨X, 2, none⟩ = some (.int .u8 (a / 256 % 256)) ∧ w'.cell? ⟨X, 3, none⟩ = some (.int .u8 (a % 256)) ∧ w'.cell? ⟨wr.heap.size, 0, none⟩ = some (.int .u8 (c)) ∧ w'.cell? ⟨wr.heap.size, 1, none⟩ = some (.int .u8 (a / 65536 % 256)) ∧ w'.cell? ⟨wr.heap.size, 2, none⟩ = some (.int .u8 (a / 256 % 256)) ∧ w'.cell? ⟨wr.heap.size, 3, none⟩ = some (.int .u8 (a % 256)))
            (first | exact eight (HX.out.alloc _).drew (Blk.new _ _ _).drew (HW.out.alloc HW.out.size _).drew | exact eight_next (by assumption) (by assumption) | assumption)
            (first
            | (go_at_call 29; first | with_reducible refine (HOx.out _).mono ?_ | with_reducible refine (HOz.out _).mono ?_
               rintro e w5 ⟨rfl, hb5⟩)
            | (go_at_call 16; with_reducible refine (HBz.out _).mono ?_
               rintro e w5 ⟨rfl, hb5⟩))
          go_wp2
          go_ret
          rename_i hS
          exact ⟨rfl, hS.2.2.1⟩
      · have HOz := Lib.hid (fun w => of_any (a / 16777216) (c) (a / 256 % 256) (a % 256) w (by omega) (by omega) (by omega) (by omega) (by omega) (by omega) (by omega) (by omega))
        have HBz := Lib.hid (fun w => bytes_any ((a / 16777216) * 16777216 + (c) * 65536 + (a / 256 % 256) * 256 + (a % 256)) w (by omega) (by omega))
        have hsame := arr_same (a / 16777216) (c) (a / 256 % 256) (a % 256)
        obtain ⟨v, hv⟩ : ∃ v, v = (a / 16777216) * 16777216 + (c) * 65536 + (a / 256 % 256) * 256 + (a % 256) := ⟨_, rfl⟩
        rw [← hv] at HOz HBz
        rw [show v / 16777216 = a / 16777216 by omega, show v / 65536 % 256 = c by omega, show v / 256 % 256 = a / 256 % 256 by omega, show v % 256 = a % 256 by omega] at HBz
        obtain ⟨q, hva, hcx⟩ : ∃ q : Bool, (v == a) = q ∧ (c == a / 65536 % 256) = q := by
          refine ⟨_, rfl, ?_⟩
          rw [Bool.eq_iff_iff]; simp; omega
        clear hv
        cases q
        all_goals
          go_wp2_with (go_at_call 30; refine (HN.out _).mono ?_; rintro e w4 ⟨rfl, rfl⟩)
          have hHW := HW.out.size
          go_region_held3 (fun w' => Blk w' X 39 #[.int .u8 (a / 16777216), .int .u8 (a / 65536 % 256), .int .u8 (a / 256 % 256), .int .u8 (a % 256)] ∧ Blk w' wr.heap.size 39 #[.int .u8 (a / 16777216), .int .u8 (c), .int .u8 (a / 256 % 256), .int .u8 (a % 256)] ∧ Below w.heap.size w w' ∧ w'.cell? ⟨X, 0, none⟩ = some (.int .u8 (a / 16777216)) ∧ w'.cell? ⟨X, 1, none⟩ = some (.int .u8 (a / 65536 % 256)) ∧ w'.cell? ⟨X, 2, none⟩ = some (.int .u8 (a / 256 % 256)) ∧ w'.cell? ⟨X, 3, none⟩ = some (.int .u8 (a % 256)) ∧ w'.cell? ⟨wr.heap.size, 0, none⟩ = some (.int .u8 (a / 16777216)) ∧ w'.cell? ⟨wr.heap.size, 1, none⟩ = some (.int .u8 (c)) ∧ w'.cell? ⟨wr.heap.size, 2, none⟩ = some (.int .u8 (a / 256 % 256)) ∧ w'.cell? ⟨wr.heap.size, 3, none⟩ = some (.int .u8 (a % 256)))
            (first | exact eight (HX.out.alloc _).drew (Blk.new _ _ _).drew (HW.out.alloc HW.out.size _).drew | exact eight_next (by assumption) (by assumption) | assumption)
            (first
            | (go_at_call 29; first | with_reducible refine (HOx.out _).mono ?_ | with_reducible refine (HOz.out _).mono ?_
               rintro e w5 ⟨rfl, hb5⟩)
            | (go_at_call 16; with_reducible refine (HBz.out _).mono ?_
               rintro e w5 ⟨rfl, hb5⟩))
          go_wp2
          go_ret
          rename_i hS
          exact ⟨rfl, hS.2.2.1⟩
      · have HOz := Lib.hid (fun w => of_any (a / 16777216) (a / 65536 % 256) (c) (a % 256) w (by omega) (by omega) (by omega) (by omega) (by omega) (by omega) (by omega) (by omega))
        have HBz := Lib.hid (fun w => bytes_any ((a / 16777216) * 16777216 + (a / 65536 % 256) * 65536 + (c) * 256 + (a % 256)) w (by omega) (by omega))
        have hsame := arr_same (a / 16777216) (a / 65536 % 256) (c) (a % 256)
        obtain ⟨v, hv⟩ : ∃ v, v = (a / 16777216) * 16777216 + (a / 65536 % 256) * 65536 + (c) * 256 + (a % 256) := ⟨_, rfl⟩
        rw [← hv] at HOz HBz
        rw [show v / 16777216 = a / 16777216 by omega, show v / 65536 % 256 = a / 65536 % 256 by omega, show v / 256 % 256 = c by omega, show v % 256 = a % 256 by omega] at HBz
        obtain ⟨q, hva, hcx⟩ : ∃ q : Bool, (v == a) = q ∧ (c == a / 256 % 256) = q := by
          refine ⟨_, rfl, ?_⟩
          rw [Bool.eq_iff_iff]; simp; omega
        clear hv
        cases q
        all_goals
          go_wp2_with (go_at_call 30; refine (HN.out _).mono ?_; rintro e w4 ⟨rfl, rfl⟩)
          have hHW := HW.out.size
          go_region_held3 (fun w' => Blk w' X 39 #[.int .u8 (a / 16777216), .int .u8 (a / 65536 % 256), .int .u8 (a / 256 % 256), .int .u8 (a % 256)] ∧ Blk w' wr.heap.size 39 #[.int .u8 (a / 16777216), .int .u8 (a / 65536 % 256), .int .u8 (c), .int .u8 (a % 256)] ∧ Below w.heap.size w w' ∧ w'.cell? ⟨X, 0, none⟩ = some (.int .u8 (a / 16777216)) ∧ w'.cell? ⟨X, 1, none⟩ = some (.int .u8 (a / 65536 % 256)) ∧ w'.cell? ⟨X, 2, none⟩ = some (.int .u8 (a / 256 % 256)) ∧ w'.cell? ⟨X, 3, none⟩ = some (.int .u8 (a % 256)) ∧ w'.cell? ⟨wr.heap.size, 0, none⟩ = some (.int .u8 (a / 16777216)) ∧ w'.cell? ⟨wr.heap.size, 1, none⟩ = some (.int .u8 (a / 65536 % 256)) ∧ w'.cell? ⟨wr.heap.size, 2, none⟩ = some (.int .u8 (c)) ∧ w'.cell? ⟨wr.heap.size, 3, none⟩ = some (.int .u8 (a % 256)))
            (first | exact eight (HX.out.alloc _).drew (Blk.new _ _ _).drew (HW.out.alloc HW.out.size _).drew | exact eight_next (by assumption) (by assumption) | assumption)
            (first
            | (go_at_call 29; first | with_reducible refine (HOx.out _).mono ?_ | with_reducible refine (HOz.out _).mono ?_
               rintro e w5 ⟨rfl, hb5⟩)
            | (go_at_call 16; with_reducible refine (HBz.out _).mono ?_
               rintro e w5 ⟨rfl, hb5⟩))
          go_wp2
          go_ret
          rename_i hS
          exact ⟨rfl, hS.2.2.1⟩
      · have HOz := Lib.hid (fun w => of_any (a / 16777216) (a / 65536 % 256) (a / 256 % 256) (c) w (by omega) (by omega) (by omega) (by omega) (by omega) (by omega) (by omega) (by omega))
        have HBz := Lib.hid (fun w => bytes_any ((a / 16777216) * 16777216 + (a / 65536 % 256) * 65536 + (a / 256 % 256) * 256 + (c)) w (by omega) (by omega))
        have hsame := arr_same (a / 16777216) (a / 65536 % 256) (a / 256 % 256) (c)
        obtain ⟨v, hv⟩ : ∃ v, v = (a / 16777216) * 16777216 + (a / 65536 % 256) * 65536 + (a / 256 % 256) * 256 + (c) := ⟨_, rfl⟩
        rw [← hv] at HOz HBz
        rw [show v / 16777216 = a / 16777216 by omega, show v / 65536 % 256 = a / 65536 % 256 by omega, show v / 256 % 256 = a / 256 % 256 by omega, show v % 256 = c by omega] at HBz
        obtain ⟨q, hva, hcx⟩ : ∃ q : Bool, (v == a) = q ∧ (c == a % 256) = q := by
          refine ⟨_, rfl, ?_⟩
          rw [Bool.eq_iff_iff]; simp; omega
        clear hv
        cases q
        all_goals
          go_wp2_with (go_at_call 30; refine (HN.out _).mono ?_; rintro e w4 ⟨rfl, rfl⟩)
          have hHW := HW.out.size
          go_region_held3 (fun w' => Blk w' X 39 #[.int .u8 (a / 16777216), .int .u8 (a / 65536 % 256), .int .u8 (a / 256 % 256), .int .u8 (a % 256)] ∧ Blk w' wr.heap.size 39 #[.int .u8 (a / 16777216), .int .u8 (a / 65536 % 256), .int .u8 (a / 256 % 256), .int .u8 (c)] ∧ Below w.heap.size w w' ∧ w'.cell? ⟨X, 0, none⟩ = some (.int .u8 (a / 16777216)) ∧ w'.cell? ⟨X, 1, none⟩ = some (.int .u8 (a / 65536 % 256)) ∧ w'.cell? ⟨X, 2, none⟩ = some (.int .u8 (a / 256 % 256)) ∧ w'.cell? ⟨X, 3, none⟩ = some (.int .u8 (a % 256)) ∧ w'.cell? ⟨wr.heap.size, 0, none⟩ = some (.int .u8 (a / 16777216)) ∧ w'.cell? ⟨wr.heap.size, 1, none⟩ = some (.int .u8 (a / 65536 % 256)) ∧ w'.cell? ⟨wr.heap.size, 2, none⟩ = some (.int .u8 (a / 256 % 256)) ∧ w'.cell? ⟨wr.heap.size, 3, none⟩ = some (.int .u8 (c)))
            (first | exact eight (HX.out.alloc _).drew (Blk.new _ _ _).drew (HW.out.alloc HW.out.size _).drew | exact eight_next (by assumption) (by assumption) | assumption)
            (first
            | (go_at_call 29; first | with_reducible refine (HOx.out _).mono ?_ | with_reducible refine (HOz.out _).mono ?_
               rintro e w5 ⟨rfl, hb5⟩)
            | (go_at_call 16; with_reducible refine (HBz.out _).mono ?_
               rintro e w5 ⟨rfl, hb5⟩))
          go_wp2
          go_ret
          rename_i hS
          exact ⟨rfl, hS.2.2.1⟩
end Go.Proofs.YtcnkbhmhbbpmhaaDoor
