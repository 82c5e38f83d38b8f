/- rivuletref.SameKey, SameKeys; over the seat's program. -/
import Derived.Test.YtgicmgljllaliaaGreatDoorKit
import Derived.Test.YtgicmgljllaliaaGreatDoorProg
import Derived.WalkKit
import Derived.BigQuiet
import Derived.Deep.QuietTactic
import Derived.Deep.RegionHeld3
import Derived.Deep.Cut
namespace Go.Proofs.YtgicmgljllaliaaGreatDoor
open Go.ChangeShapes Go.WideShapes Go.ChangeAt Go.RowKit Go.Maps
theorem skey_any (a b c d : Int) (w : World) :
    Calls Tryz.prog 12 #[.agg #[.int .u32 a, .int .u32 b], .agg #[.int .u32 c, .int .u32 d]] w fun e w' => e = .returned (.bool ((a == c) && (b == d))) ∧ Below w.heap.size w w' := by
  obtain ⟨b1, e1⟩ : ∃ r, (a == c) = r := ⟨_, rfl⟩
  obtain ⟨b2, e2⟩ : ∃ r, (b == d) = r := ⟨_, rfl⟩
  rw [e1, e2]
  cases b1
  all_goals
    go_enter Tryz.func12, Tryz.ntmps12
    go_wp2
    go_ret
    exact ⟨ret_bool (by simp), ((Below.refl _ _).alloc (Nat.le_refl _) _).alloc (by simp) _⟩
set_option maxHeartbeats 4000000 in
/-- two rows that read as the same keys -/
theorem skeys_any (A B : Option Addr) (n c d : Nat) (xs : List (Int × Int)) (w : World) (h : RI CKy 2 w A n xs) (h2 : RI CKy 2 w B n xs) (hn : n ≤ 1000000) :
    Calls Tryz.prog 16 #[.slice A n c, .slice B n d] w fun e w' => e = .returned (.bool true) ∧ Below w.heap.size w w' := by
  have H := Lib.hid h
  have H2 := Lib.hid h2
  have hne : ((n : Int) != (n : Int)) = false := by simp
  clear h h2
  go_enter Tryz.func16, Tryz.ntmps16
  go_wp2
  go_loopw [5] (fun iv wr => ∃ k : Nat, k ≤ n ∧ iv = .int .i64 (k : Int) ∧ Hid (Below w.heap.size w wr)) (fun iv _ => n - (intOf iv).toNat)
  case atStart => exact ⟨0, Nat.zero_le _, rfl, Lib.hid (Below.refl _ _)⟩
  case round =>
    obtain ⟨k, hk, rfl, HB⟩ := hrel
    clear hne
    rcases Nat.lt_or_ge k n with hlt | hge
    · obtain ⟨b, o, ⟨x1, x2⟩, rfl, hb, hx, hc1⟩ := (H.out.next HB.out).at_ hlt
      obtain ⟨b2, o2, y, rfl, hb2, hy, hc2⟩ := (H2.out.next HB.out).at_ hlt
      obtain rfl : y = (x1, x2) := by rw [hx] at hy; cases hy; rfl
      have hi0 : (k : Int) < (n : Int) := by omega
      have hi1 : (0 : Int) ≤ (k : Int) := by omega
      have q0 : ∀ p : Snc wr, p.W.cell? ⟨b, o + k * 2, none⟩ = some (.int .u32 x1) := fun p => (p.b.cell (p := ⟨b, o + k * 2, none⟩) hb).trans (hc1 0 _ rfl)
      have q1 : ∀ p : Snc wr, p.W.cell? ⟨b, o + k * 2 + 1, none⟩ = some (.int .u32 x2) := fun p => (p.b.cell (p := ⟨b, o + k * 2 + 1, none⟩) hb).trans (hc1 1 _ rfl)
      have q2 : ∀ p : Snc wr, p.W.cell? ⟨b2, o2 + k * 2, none⟩ = some (.int .u32 x1) := fun p => (p.b.cell (p := ⟨b2, o2 + k * 2, none⟩) hb2).trans (hc2 0 _ rfl)
      have q3 : ∀ p : Snc wr, p.W.cell? ⟨b2, o2 + k * 2 + 1, none⟩ = some (.int .u32 x2) := fun p => (p.b.cell (p := ⟨b2, o2 + k * 2 + 1, none⟩) hb2).trans (hc2 1 _ rfl)
      have G1 : ∀ p : Snc wr, Calls Tryz.prog 12 #[.agg #[.int .u32 x1, .int .u32 x2], .agg #[.int .u32 x1, .int .u32 x2]] p.W fun e w' => e = .returned (.bool true) ∧ ∃ Q : Snc wr, w' = Q.W := fun p => Calls.since ((skey_any x1 x2 x1 x2 p.W).mono fun e w' h => ⟨by rw [h.1]; simp, h.2⟩)
      clear hx hy hc1 hc2
      go_upto_region 6 with fail
      refine wp_region_since (by kernel_rfl) (by kernel_rfl) ?_
      repeat (go_big_quiet_step ((go_at_call 12; with_reducible exact G1 _)))
      refine wpQuiet_nil ?_
      rintro w5 ⟨P5, rfl⟩
      have HB5 := Lib.hid (HB.out.trans (P5.b.mono HB.out.size))
      clear q0 q1 q2 q3 G1 HB
      generalize P5.W = W5 at *
      go_wp2
      go_roundw
      case rel => exact ⟨k + 1, by omega, by go_num, HB5⟩
      case measure => simp [intOf]; omega
    · have q1 : ¬ (k : Int) < (n : Int) := by omega
      go_wp2
      first | go_ret2 | go_ret
      exact ⟨rfl, HB.out⟩
end Go.Proofs.YtgicmgljllaliaaGreatDoor

