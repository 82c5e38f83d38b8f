/- Contract of the statements' helper that tells an error: of none. -/
import Derived.Test.YthnchjmbjeooiaaDoorSee
import Derived.Test.YthnchjmbjeooiaaDoorBy
namespace Go.Proofs.YthnchjmbjeooiaaDoor
open Go.RowKit
theorem none_any (w : World) : Calls Tryd.prog 44 #[] w fun e w' => e = .returned (fault 0) ∧ Below w.heap.size w w' := by
  unfold fault
  go_enter Tryd.func44, Tryd.ntmps44
  go_wp2
  exact bodyPost_ret (v := .agg #[.int .i64 0, .bool false, .int .i64 0]) (by simp [results, Tryd.results44, go_sem]) rfl ⟨rfl, (Below.refl _ _).alloc (Nat.le_refl _) _⟩
theorem fault_nil (w : World) : Calls Tryd.prog 35 #[.nilIface] w fun e w' => e = .returned (fault 0) ∧ Below w.heap.size w w' := by
  unfold fault
  go_enter Tryd.func35, Tryd.ntmps35
  go_wp2_with (go_at_call 44; refine (none_any _).mono ?_; rintro e w1 ⟨rfl, hb⟩; unfold fault
               have hk := (Blk.new w 58 #[.int .i64 0, .bool false, .int .i64 0]).next hb
               have hc0 : w1.cell? ⟨w.heap.size, 0, none⟩ = some (.int .i64 0) := hk.cell 0
               have hc1 : w1.cell? ⟨w.heap.size, 1, none⟩ = some (.bool false) := hk.cell 1
               have hc2 : w1.cell? ⟨w.heap.size, 2, none⟩ = some (.int .i64 0) := hk.cell 2
               have hf0 : w1.frozen? ⟨w.heap.size, 0, none⟩ = false := hk.frozen 0
               have hf1 : w1.frozen? ⟨w.heap.size, 1, none⟩ = false := hk.frozen 1
               have hf2 : w1.frozen? ⟨w.heap.size, 2, none⟩ = false := hk.frozen 2
               have HW := Lib.hid (below_next ((Below.refl _ w).alloc (Nat.le_refl _) (.cells #[.int .i64 0, .bool false, .int .i64 0] 58)) hb)
               clear hk hb)
  exact bodyPost_ret (v := .agg #[.int .i64 0, .bool false, .int .i64 0]) (by simp [results, Tryd.results35, go_sem, hc0, hc1, hc2]) rfl ⟨rfl, ((HW.out.setCell (Nat.le_refl _) _).setCell (Nat.le_refl _) _).setCell (Nat.le_refl _) _⟩
set_option maxRecDepth 100000 in
set_option maxHeartbeats 1000000 in
theorem same_nil (c : Int) (w : World) :
    Calls Tryd.prog 22 #[.nilIface, fault c] w fun e w' => e = .returned (.bool ((0 : Int) == c)) ∧ Below w.heap.size w w' := by
  have HF := Lib.hid (fun W => fault_nil W)
  have HS := Lib.hid (fun W => sameFault_any 0 c W)
  unfold fault at *
  go_enter Tryd.func22, Tryd.ntmps22
  go_wp2_with fail
  go_region_held3 (fun w' => w'.cell? ⟨w.heap.size, 0, none⟩ = some (.int .i64 c) ∧ w'.cell? ⟨w.heap.size, 1, none⟩ = some (.bool false) ∧ w'.cell? ⟨w.heap.size, 2, none⟩ = some (.int .i64 0) ∧ w.heap.size < w'.heap.size ∧ Below w.heap.size w w')
    (first | exact three_new _ _ _ _ _ rfl | exact three_next (by assumption) (by assumption) | assumption)
    (first
    | (go_at_call 35; refine (HF.out _).mono ?_
       rintro e w1 ⟨rfl, hb1⟩)
    | (go_at_call 34; refine (HS.out _).mono ?_; rintro e w2 ⟨rfl, hb2⟩))
  go_wp2
  go_ret
  rename_i hS
  exact ⟨rfl, hS.2.2.2.2⟩
theorem is_nil (c : Int) (w : World) :
    Calls Tryd.prog 11 #[.nilIface, .int .i64 c] w fun e w' => e = .returned (.bool ((0 : Int) == c)) ∧ Below w.heap.size w w' := by
  have HS := Lib.hid (fun W => same_nil c W)
  obtain ⟨r, hr⟩ : ∃ r : Bool, ((0 : Int) == c) = r := ⟨_, rfl⟩
  rw [hr] at HS ⊢
  clear hr
  go_enter Tryd.func11, Tryd.ntmps11
  go_wp2_with (first
    | (go_at_call 23; refine (bare_any _ _).mono ?_; rintro e w1 ⟨rfl, hb1⟩
       have HB1 := Lib.hid hb1
       clear hb1)
    | (go_at_call 22; refine (HS.out _).mono ?_; rintro e w2 ⟨rfl, hb2⟩))
  go_ret
  exact ⟨rfl, HB1.out.trans (hb2.mono HB1.out.size)⟩
end Go.Proofs.YthnchjmbjeooiaaDoor
