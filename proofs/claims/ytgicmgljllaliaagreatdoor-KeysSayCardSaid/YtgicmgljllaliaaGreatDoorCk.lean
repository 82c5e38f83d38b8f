/- The order of keys, and keys.Less; over the seat's program. -/
import Derived.Test.YtgicmgljllaliaaGreatDoorCo
import Derived.Test.YtgicmgljllaliaaGreatDoorAs
namespace Go.Proofs.YtgicmgljllaliaaGreatDoor
open Go.RowKit
/-- two keys held against each other: by group, then by source -/
def ordPK (p q : Int × Int) : Int := orI (cmpI p.2 q.2) (cmpI p.1 q.1)
set_option maxHeartbeats 1000000 in
theorem korder_any (a b c d : Int) (w : World) : Calls Tryz.prog 32 #[.agg #[.int .u32 a, .int .u32 b], .agg #[.int .u32 c, .int .u32 d]] w fun e w' => e = .returned (.int .i64 (ordPK (a, b) (c, d))) ∧ Gr w w' := by
  have hG := ((Gr.refl w).alloc (.cells #[.int .u32 a, .int .u32 b] 44)).alloc (.cells #[.int .u32 c, .int .u32 d] 44)
  have hz : ((w.alloc (.cells #[.int .u32 a, .int .u32 b] 44)).alloc (.cells #[.int .u32 c, .int .u32 d] 44)).heap.size = w.heap.size + 2 := by simp
  have d0 : ∀ W, Gr ((w.alloc (.cells #[.int .u32 a, .int .u32 b] 44)).alloc (.cells #[.int .u32 c, .int .u32 d] 44)) W → W.cell? ⟨w.heap.size, 0, none⟩ = some (.int .u32 a) := fun W hW => (hW.cell (by first | (simp; done) | (simp; omega))).trans (by go_simp)
  have d1 : ∀ W, Gr ((w.alloc (.cells #[.int .u32 a, .int .u32 b] 44)).alloc (.cells #[.int .u32 c, .int .u32 d] 44)) W → W.cell? ⟨w.heap.size, 1, none⟩ = some (.int .u32 b) := fun W hW => (hW.cell (by first | (simp; done) | (simp; omega))).trans (by go_simp)
  have d2 : ∀ W, Gr ((w.alloc (.cells #[.int .u32 a, .int .u32 b] 44)).alloc (.cells #[.int .u32 c, .int .u32 d] 44)) W → W.cell? ⟨w.heap.size + 1, 0, none⟩ = some (.int .u32 c) := fun W hW => (hW.cell (by first | (simp; done) | (simp; omega))).trans (by go_simp)
  have d3 : ∀ W, Gr ((w.alloc (.cells #[.int .u32 a, .int .u32 b] 44)).alloc (.cells #[.int .u32 c, .int .u32 d] 44)) W → W.cell? ⟨w.heap.size + 1, 1, none⟩ = some (.int .u32 d) := fun W hW => (hW.cell (by first | (simp; done) | (simp; omega))).trans (by go_simp)
  go_enter Tryz.func32, Tryz.ntmps32
  go_wp2_with fail
  generalize (w.alloc (.cells #[.int .u32 a, .int .u32 b] 44)).alloc (.cells #[.int .u32 c, .int .u32 d] 44) = w1 at *
  have hS := Gr.refl w1
  have e0 : ∀ u v t, (w1.alloc (.cells #[u, v] t)).drew.cell? ⟨w.heap.size + 2, 0, none⟩ = some u := fun u v t => by rw [← hz]; go_simp
  have e1 : ∀ u v t, (w1.alloc (.cells #[u, v] t)).drew.cell? ⟨w.heap.size + 2, 1, none⟩ = some v := fun u v t => by rw [← hz]; go_simp
  go_region_held3 (fun W => Gr w1 W) (first | exact hS.drew | with_reducible assumption | exact Gr.alloc (by with_reducible assumption) _ | exact (Gr.alloc (by with_reducible assumption) _).drew)
    (first
    | (go_at_call 59; refine (cmp_addr _ _ _).mono ?_; rintro e w2 ⟨rfl, rfl⟩)
    | (go_at_call 58; refine (or_two _ _ _ _ _ (e0 _ _ _) (e1 _ _ _)).mono ?_; rintro e w2 ⟨rfl, rfl⟩))
  go_wp2
  all_goals
    go_ret
    refine ⟨rfl, hG.trans ?_⟩
    with_reducible assumption
theorem kless_any (a b c d : Int) (w : World) : Calls Tryz.prog 14 #[.agg #[.int .u32 a, .int .u32 b], .agg #[.int .u32 c, .int .u32 d]] w fun e w' => e = .returned (.bool (decide (ordPK (a, b) (c, d) < 0))) ∧ Below w.heap.size w w' := by
  have HB : Hid (Below w.heap.size w ((w.alloc (.cells #[.int .u32 a, .int .u32 b] 44)).alloc (.cells #[.int .u32 c, .int .u32 d] 44))) := Lib.hid (((Below.refl _ _).alloc (Nat.le_refl _) _).alloc (by simp) _)
  go_enter Tryz.func14, Tryz.ntmps14
  go_wp2_with (go_at_call 32; refine (korder_any _ _ _ _ _).mono ?_; rintro e w1 ⟨rfl, hg⟩)
  go_ret
  exact ⟨rfl, below_next HB.out hg.below⟩
end Go.Proofs.YtgicmgljllaliaaGreatDoor

