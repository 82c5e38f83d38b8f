/- breakPatternsOrdered at addresses; over the seat's program. -/
import Derived.Test.YtfiiichiflglaaaPf
import Derived.Test.YtfiiichiflglaaaShelf
import Derived.Laws.Bits64b
import Derived.Laws.Closers25b
import Derived.Sort.LotD1
namespace Go.Proofs.Ytfiiichiflglaaa
open Go.RowKit Sm

def Xr (W : World) (s : Nat) (x : Int) : Prop := Blk W s 89 #[.int .u64 x]
/-- a number beside a world -/
structure XPost (s : Nat) (w : World) (e : Ending) (w' : World) : Prop where
  h : ∃ v : Nat, e = .returned (.int .u64 (v : Int)) ∧ v < 18446744073709551616 ∧ Xr w' s v
  b : w.grownBy w' (some s)
theorem grown_same (w : World) (s : Nat) : w.grownBy w (some s) := ⟨rfl, rfl, rfl, Nat.le_refl _, fun _ _ _ => rfl⟩
theorem grown_set {w W : World} {s : Nat} (h : w.grownBy W (some s)) (v : Value) : w.grownBy (W.setCell ⟨s, 0, none⟩ v) (some s) :=
  ⟨h.os, h.tape, h.output, by simpa using h.size, fun k hk hne => (Below.heap_setCell W ⟨s, 0, none⟩ v k (fun e => hne (by rw [e]))).trans (h.block k hk hne)⟩
theorem grown_drew {w W : World} {s : Nat} (h : w.grownBy W (some s)) : w.grownBy W.drew (some s) := ⟨h.os, h.tape, h.output, h.size, h.block⟩
theorem Sd.past {w W W' : World} {base g n c s : Nat} {d : Array Int} (h : Sd w base g n c d W) (hb : W.grownBy W' (some s)) (hg : g < s) (hs : w.heap.size ≤ s) : Sd w base g n c d W' :=
  ⟨⟨h.s.own.kept hb (.inr (by intro e; cases e; exact absurd hg (Nat.lt_irrefl _))), ⟨hb.os.trans h.s.grow.os, hb.tape.trans h.s.grow.tape, hb.output.trans h.s.grow.output, Nat.le_trans h.s.grow.size hb.size, fun k hk hne => (hb.block k (Nat.lt_of_lt_of_le hk h.s.grow.size) (by intro e; cases e; omega)).trans (h.s.grow.block k hk hne)⟩, h.s.len⟩⟩
theorem and_other (v M : Nat) (hM : 0 < M) (hM2 : M ≤ 2000000000) (hv : v < 18446744073709551616) : wrap64 (bits BinOp.and IntKind.u64 (v : Int) (IntKind.u64.wrap ((M : Int) - 1))) = ((v &&& (M - 1) : Nat) : Int) ∧ v &&& (M - 1) < M := by
  have h1 : IntKind.u64.wrap ((M : Int) - 1) = ((M - 1 : Nat) : Int) := by rw [IntKind.wrap_u64]; omega
  have h2 : v &&& (M - 1) ≤ M - 1 := Nat.and_le_right
  rw [h1, bits_and_u64_nat v (M - 1) hv (by omega)]
  exact ⟨by unfold wrap64; omega, by omega⟩
set_option maxHeartbeats 4000000 in
theorem xnext_any (s : Nat) (x : Int) (w : World) (h : Xr w s x) :
    Calls Try.prog 60 #[.pointer (some ⟨s, 0, none⟩)] w (XPost s w) := by
  have c0 : w.cell? ⟨s, 0, none⟩ = some (.int .u64 x) := Blk.cell h 0
  have f0 : w.frozen? ⟨s, 0, none⟩ = false := Blk.frozen h 0
  have HB := Lib.hid h
  clear h
  go_enter Try.func60, Try.ntmps60
  go_upto_region 1 with fail
  go_region
  go_upto_region 2 with fail
  go_region
  go_upto_region 3 with fail
  go_region
  obtain ⟨y1, h1⟩ : ∃ y1, bits BinOp.xor IntKind.u64 x (IntKind.u64.wrap (x * 8192)) = y1 := ⟨_, rfl⟩
  rw [h1]
  obtain ⟨y2, h2⟩ : ∃ y2, bits BinOp.xor IntKind.u64 y1 (y1 / 128) = y2 := ⟨_, rfl⟩
  rw [h2]
  obtain ⟨y3, h3⟩ : ∃ y3, bits BinOp.xor IntKind.u64 y2 (IntKind.u64.wrap (y2 * 131072)) = y3 := ⟨_, rfl⟩
  rw [h3]
  have hlo := bits_lo_u64 BinOp.xor y2 (IntKind.u64.wrap (y2 * 131072))
  have hhi := bits_hi_u64 BinOp.xor y2 (IntKind.u64.wrap (y2 * 131072))
  rw [h3] at hlo hhi
  obtain ⟨v, rfl⟩ : ∃ v : Nat, y3 = (v : Int) := ⟨y3.toNat, by omega⟩
  have HX3 : Hid (Xr (((w.setCell ⟨s, 0, none⟩ (.int .u64 y1)).setCell ⟨s, 0, none⟩ (.int .u64 y2)).setCell ⟨s, 0, none⟩ (.int .u64 (v : Int))).drew.drew.drew s (v : Int)) :=
    Lib.hid (((Blk.set_ HB.out 0 (.int .u64 y1)).set_ 0 (.int .u64 y2)).set_ 0 (.int .u64 (v : Int)))
  have HW3 : Hid (w.grownBy (((w.setCell ⟨s, 0, none⟩ (.int .u64 y1)).setCell ⟨s, 0, none⟩ (.int .u64 y2)).setCell ⟨s, 0, none⟩ (.int .u64 (v : Int))).drew.drew.drew (some s)) :=
    Lib.hid (grown_drew (grown_drew (grown_drew (grown_set (grown_set (grown_set (grown_same w s) _) _) _))))
  generalize (((w.setCell ⟨s, 0, none⟩ (.int .u64 y1)).setCell ⟨s, 0, none⟩ (.int .u64 y2)).setCell ⟨s, 0, none⟩ (.int .u64 (v : Int))).drew.drew.drew = W3 at *
  clear c0 f0 h1 h2 h3
  have c0 : W3.cell? ⟨s, 0, none⟩ = some (.int .u64 (v : Int)) := Blk.cell HX3.out 0
  have HV : Hid (v < 18446744073709551616) := Lib.hid (by omega)
  clear hlo hhi
  go_wp2
  go_ret
  exact ⟨⟨v, rfl, HV.out, HX3.out⟩, HW3.out⟩
theorem pow_len : ∀ (k l : Nat), l ≤ k → 0 < l → l < 2 ^ 63 → l < 2 ^ Lib.bitLen l ∧ 2 ^ Lib.bitLen l ≤ 2 * l
  | 0, l, h, h0, _ => by omega
  | k + 1, l, h, h0, hl => by
    rcases Nat.lt_or_ge l 2 with h2 | h2
    · obtain rfl : l = 1 := by omega
      decide
    · have ih := pow_len k (l / 2) (by omega) (by omega) (by omega)
      rw [Lib.bitLen_half l (by omega) (by omega), Nat.pow_add]
      omega
theorem next2_any (l : Nat) (w : World) (hl : 0 < l) (hl2 : l ≤ 1000000000) :
    Calls Try.prog 59 #[.int .i64 (l : Int)] w fun e w' => e = .returned (.int .u64 ((2 ^ Lib.bitLen l : Nat) : Int)) ∧ w' = w := by
  have HL := Lib.hid (Try.bits_Len (l : Int) w (by omega) (by omega))
  go_enter Try.func59, Try.ntmps59
  go_wp2_with (go_at_call 46; (with_reducible refine HL.out.mono ?_); rintro e w1 ⟨rfl, rfl⟩)
  go_ret
  have h := pow_len l l (Nat.le_refl _) hl (by omega)
  have h30 : Lib.bitLen l < 40 := by
    rcases Nat.lt_or_ge (Lib.bitLen l) 40 with h4 | h4
    · exact h4
    · have := Nat.pow_le_pow_right (show 0 < 2 by omega) h4
      omega
  refine ⟨?_, rfl⟩
  rw [Nat.min_eq_left (by omega), IntKind.wrap_u64]
  have e : (2 : Int) ^ Lib.bitLen l = ((2 ^ Lib.bitLen l : Nat) : Int) := by simp
  have e2 : (2 : Int) ^ Lib.bitLen l % 18446744073709551616 = ((2 ^ Lib.bitLen l : Nat) : Int) := by rw [e]; omega
  rw [e2]
  rfl
/-- a row beside what it was: the same addresses in another order within a part -/
structure BPost (w0 : World) (base g n c a b : Nat) (d : Array Int) (e : Ending) (w' : World) : Prop where
  e : e = .returned (.tuple #[])
  h : ∃ d', Sd w0 base g n c d' w' ∧ Sort.PermIn a b d d'
/-- .. beside the block of the random number -/
structure Br (w0 : World) (base g n c a b s : Nat) (d : Array Int) (W : World) : Prop where
  h : ∃ d', Sd w0 base g n c d' W ∧ Sort.PermIn a b d d'
  x : ∃ x : Int, Xr W s x ∧ 0 ≤ x ∧ x < 18446744073709551616
set_option maxRecDepth 100000 in
set_option maxHeartbeats 4000000 in
theorem pbreak_any (base g n c a b : Nat) (d : Array Int) (w0 w : World) (h : Sd w0 base g n c d w) (hbn : b ≤ n) (hn : n ≤ 1000000000) (hl : a + 12 < b) :
    Calls Try.prog 49 #[.slice (some ⟨g, 0, none⟩) n c, .int .i64 (a : Int), .int .i64 (b : Int)] w (BPost w0 base g n c a b d) := by
  have HG := Lib.hid h.s.own.lt
  have HS00 := Lib.hid h.s.grow.size
  have H0 := Lib.hid h
  clear h
  go_enter Try.func49, Try.ntmps49
  go_upto_region 1 with fail
  obtain ⟨l, hl'⟩ : ∃ l : Nat, l = b - a := ⟨_, rfl⟩
  rw [show (b : Int) - (a : Int) = (l : Int) by omega]
  have h12 : (12 : Int) < (l : Int) := by omega
  have hln : (l : Int) ≤ 1000000000 := by omega
  have HL := Lib.hid hl'
  have H2 := Lib.hid (fun W => next2_any l W (by omega) (by omega))
  have HM := Lib.hid (pow_len l l (Nat.le_refl _) (by omega) (by omega))
  clear hl'
  obtain ⟨M, hM⟩ : ∃ M, 2 ^ Lib.bitLen l = M := ⟨_, rfl⟩
  rw [hM] at H2 HM
  clear hM
  go_upto_region 4 with (go_at_call 59; (with_reducible refine (H2.out _).mono ?_); rintro e w1 ⟨rfl, rfl⟩)
  have HB0 : Hid (Br w0 base g n c a b w.heap.size d (w.alloc (.cells #[.int .u64 (l : Int)] 89))) := Lib.hid ⟨⟨d, H0.out.since ((Below.refl w.heap.size w).alloc (Nat.le_refl _) _), Sort.permIn_refl _ _ _⟩, ⟨l, Blk.new w _ _, by omega, by omega⟩⟩
  generalize w.alloc (.cells #[.int .u64 (l : Int)] 89) = w4 at *
  generalize w.heap.size = s at *
  have hgs : Hid (g < s) := Lib.hid (HG.out g rfl).2
  have HS0 : Hid (w0.heap.size ≤ s) := Lib.hid HS00.out
  clear HG H0
  obtain ⟨m2, hm2⟩ : ∃ m2 : Nat, m2 = a + l / 4 * 2 := ⟨_, rfl⟩
  have HM2 : Hid (a + 5 ≤ m2 - 1 ∧ m2 + 2 < b ∧ a + l ≤ n ∧ 12 < l ∧ a + l = b) := Lib.hid (by have := HL.out; omega)
  have e4 : (a : Int) + (l : Int) / 4 * 2 = (m2 : Int) := by omega
  have E4 := Lib.hid e4
  clear e4 hm2
  go_wp2
  go_loopw [9] (fun iv wr => ∃ i : Nat, m2 - 1 ≤ i ∧ i ≤ m2 + 2 ∧ iv = .int .i64 (i : Int) ∧ Hid (Br w0 base g n c a b s d wr)) (fun iv _ => m2 + 2 - (intOf iv).toNat)
  case atStart => exact ⟨m2 - 1, by omega, by omega, by rw [E4.out]; have := HM2.out; go_num, HB0⟩
  case round =>
    clear HB0
    obtain ⟨i, hi1, hi2, rfl, HB⟩ := hrel
    rcases Nat.lt_or_ge i (m2 + 2) with hi | hi
    · have q1 : (i : Int) ≤ (a : Int) + (l : Int) / 4 * 2 + 1 := by have := E4.out; omega
      obtain ⟨x, hx, hx0, hx1⟩ := HB.out.x
      obtain ⟨dk, hdk, hpk⟩ := HB.out.h
      have HN := Lib.hid (xnext_any s x wr hx)
      have HD := Lib.hid hdk
      have HP := Lib.hid hpk
      clear hx hx0 hx1 hdk hpk HB
      go_upto_region 8 with (go_at_call 60; (with_reducible refine HN.out.mono ?_); rintro e w7 ⟨⟨v, rfl, hv, hx7⟩, hb7⟩)
      have hd7 := Lib.hid (HD.out.past hb7 hgs.out HS0.out)
      have HX7 := Lib.hid hx7
      have ho := and_other v M (by have := HM.out; omega) (by have := HM.out; omega) hv
      obtain ⟨o, hoo⟩ : ∃ o : Nat, v &&& (M - 1) = o := ⟨_, rfl⟩
      rw [hoo] at ho
      rw [ho.1]
      have hoM : o < 2 * l := by have := HM.out; have := ho.2; omega
      clear ho hoo hx7 hb7 HN HD q1
      have HV := Lib.hid hv
      clear hv
      have hib : a ≤ i ∧ i < b := by have := HM2.out; omega
      rcases Nat.lt_or_ge o l with hol | hol
      · have r1 : ¬ (l : Int) ≤ (o : Int) := by omega
        have r2 : (a : Int) + (o : Int) < (n : Int) := by have := HM2.out; omega
        have r3 : (0 : Int) ≤ (a : Int) + (o : Int) := by omega
        have r4 : (i : Int) < (n : Int) := by omega
        have bx : i < n := by omega
        have by_ : (a + o) < n := by omega
        obtain ⟨vx, hvx'⟩ : ∃ vx, (dk)[i]! = vx := ⟨_, rfl⟩
        obtain ⟨vy, hvy'⟩ : ∃ vy, (dk)[(a + o)]! = vy := ⟨_, rfl⟩
        have cx : w7.cell? ⟨g, i, none⟩ = some (.int .u32 vx) := by rw [← hvx']; exact hd7.out.cell bx
        have cy : w7.cell? ⟨g, (a + o), none⟩ = some (.int .u32 vy) := by rw [← hvy']; exact hd7.out.cell by_
        have fx : w7.frozen? ⟨g, i, none⟩ = false := hd7.out.frozen _
        have fy : w7.frozen? ⟨g, (a + o), none⟩ = false := hd7.out.frozen _
        obtain ⟨vz, cz⟩ := Go.RowKit.cell?_setCell_some (w := w7) (p := ⟨g, i, none⟩) (x := .int .u32 vy) (q := ⟨g, (a + o), none⟩) cy
        have HS6 : Hid (Sd w0 base g n c (Sort.swp (dk) i (a + o)) ((w7.setCell ⟨g, i, none⟩ (.int .u32 vy)).setCell ⟨g, (a + o), none⟩ (.int .u32 vx)).drew) := Lib.hid (by
          rw [← hvx', ← hvy']
          exact (hd7.out.swap i (a + o)).drew)
        clear hvx' hvy'
        go_upto_region 10 with fail
        go_region
        have HX6 : Hid (Xr (((w7.setCell ⟨g, i, none⟩ (.int .u32 vy)).setCell ⟨g, a + o, none⟩ (.int .u32 vx)).drew) s v) := Lib.hid (((Blk.far (p := ⟨g, i, none⟩) HX7.out (by have := hgs.out; simp; omega) _).far (p := ⟨g, a + o, none⟩) (by have := hgs.out; simp; omega) _).drew)
        have HB6 : Hid (Br w0 base g n c a b s d (((w7.setCell ⟨g, i, none⟩ (.int .u32 vy)).setCell ⟨g, a + o, none⟩ (.int .u32 vx)).drew)) := Lib.hid ⟨⟨_, HS6.out, Sort.permIn_trans _ _ _ a b HP.out (Sort.swp_permIn dk a b i (a + o) hib.1 hib.2 (by omega) (by have := HM2.out; omega) (by rw [hd7.out.size]; exact hbn))⟩, ⟨_, HX6.out, by omega, by have := HV.out; omega⟩⟩
        clear cx cy fx fy cz HS6 HX6
        all_goals go_wp2
        all_goals go_roundw
        case rel => exact ⟨i + 1, by omega, by omega, by go_num, HB6⟩
        case measure => simp [intOf]; omega
      · have r1 : (l : Int) ≤ (o : Int) := by omega
        go_upto_region 10 with fail
        obtain ⟨o2, ho2⟩ : ∃ o2 : Nat, o2 = o - l := ⟨_, rfl⟩
        rw [show (o : Int) - (l : Int) = (o2 : Int) by omega]
        have hol2 : o2 < l := by omega
        clear ho2 hol r1
        have r2 : (a : Int) + (o2 : Int) < (n : Int) := by have := HM2.out; omega
        have r3 : (0 : Int) ≤ (a : Int) + (o2 : Int) := by omega
        have r4 : (i : Int) < (n : Int) := by omega
        have bx : i < n := by omega
        have by_ : (a + o2) < n := by omega
        obtain ⟨vx, hvx'⟩ : ∃ vx, (dk)[i]! = vx := ⟨_, rfl⟩
        obtain ⟨vy, hvy'⟩ : ∃ vy, (dk)[(a + o2)]! = vy := ⟨_, rfl⟩
        have cx : w7.cell? ⟨g, i, none⟩ = some (.int .u32 vx) := by rw [← hvx']; exact hd7.out.cell bx
        have cy : w7.cell? ⟨g, (a + o2), none⟩ = some (.int .u32 vy) := by rw [← hvy']; exact hd7.out.cell by_
        have fx : w7.frozen? ⟨g, i, none⟩ = false := hd7.out.frozen _
        have fy : w7.frozen? ⟨g, (a + o2), none⟩ = false := hd7.out.frozen _
        obtain ⟨vz, cz⟩ := Go.RowKit.cell?_setCell_some (w := w7) (p := ⟨g, i, none⟩) (x := .int .u32 vy) (q := ⟨g, (a + o2), none⟩) cy
        have HS6 : Hid (Sd w0 base g n c (Sort.swp (dk) i (a + o2)) ((w7.setCell ⟨g, i, none⟩ (.int .u32 vy)).setCell ⟨g, (a + o2), none⟩ (.int .u32 vx)).drew) := Lib.hid (by
          rw [← hvx', ← hvy']
          exact (hd7.out.swap i (a + o2)).drew)
        clear hvx' hvy'
        go_upto_region 10 with fail
        go_region
        have HX6 : Hid (Xr (((w7.setCell ⟨g, i, none⟩ (.int .u32 vy)).setCell ⟨g, a + o2, none⟩ (.int .u32 vx)).drew) s v) := Lib.hid (((Blk.far (p := ⟨g, i, none⟩) HX7.out (by have := hgs.out; simp; omega) _).far (p := ⟨g, a + o2, none⟩) (by have := hgs.out; simp; omega) _).drew)
        have HB6 : Hid (Br w0 base g n c a b s d (((w7.setCell ⟨g, i, none⟩ (.int .u32 vy)).setCell ⟨g, a + o2, none⟩ (.int .u32 vx)).drew)) := Lib.hid ⟨⟨_, HS6.out, Sort.permIn_trans _ _ _ a b HP.out (Sort.swp_permIn dk a b i (a + o2) hib.1 hib.2 (by omega) (by have := HM2.out; omega) (by rw [hd7.out.size]; exact hbn))⟩, ⟨_, HX6.out, by omega, by have := HV.out; omega⟩⟩
        clear cx cy fx fy cz HS6 HX6
        all_goals go_wp2
        all_goals go_roundw
        case rel => exact ⟨i + 1, by omega, by omega, by go_num, HB6⟩
        case measure => simp [intOf]; omega
    · have q1 : ¬ (i : Int) ≤ (a : Int) + (l : Int) / 4 * 2 + 1 := by have := E4.out; omega
      go_wp2
      go_returns
      exact ⟨rfl, HB.out.h⟩
end Go.Proofs.Ytfiiichiflglaaa

