/- Contract of the document's own header reader, over the seat's program. -/
import Derived.Test.YtgjpclmkjoghiaaDoorIpR2
namespace Go.Proofs.YtgjpclmkjoghiaaDoor
open Go.RowKit Sm
section
variable (A : Option Addr) (n c : Nat) (xs : List Int) (w : World)
theorem rread_end (hn : n < 20) :
    Calls Tryd.prog 12 #[.slice A n c] w fun e w' => e = .returned (.tuple #[hz, .int .i64 101]) ∧ Below w.heap.size w w' := by
  have hi : (n : Int) < 20 := by omega
  go_enter Tryd.func12, Tryd.ntmps12
  go_wp2
  exact bodyPost_ret (v := .tuple #[.agg #[.int .i64 0, .int .i64 0, .int .i64 0, .int .i64 0, .int .u32 0, .int .u32 0], .int .i64 101]) (by simp [results, Tryd.results12, go_sem]) rfl ⟨rfl, (Below.refl _ _).alloc (Nat.le_refl _) _⟩
set_option maxHeartbeats 1000000 in
theorem rread_shape (h : BR w A n xs) (hn : 20 ≤ n) (hc : n ≤ c) (hs : rsh xs = false) :
    Calls Tryd.prog 12 #[.slice A n c] w fun e w' => e = .returned (.tuple #[hz, .int .i64 102]) ∧ Below w.heap.size w w' := by
  obtain ⟨b, o, rfl, _, hc0⟩ := h.2.2 (by omega)
  have hB0 : Below w.heap.size w (w.alloc (.cells #[.int .i64 0, .int .i64 0, .int .i64 0, .int .i64 0, .int .u32 0, .int .u32 0] 34)) := (Below.refl _ _).alloc (Nat.le_refl _) _
  have c0 := keepc (hc0 0 (by omega)) hB0
  rw [Nat.add_zero] at c0
  have c1 := keepc (hc0 1 (by omega)) hB0
  have c6 := keepc (hc0 6 (by omega)) hB0
  have c7 := keepc (hc0 7 (by omega)) hB0
  have hd : (xs.getD 0 0 != 69) = true ∨ (xs.getD 0 0 != 69) = false ∧ ((xs.getD 1 0 != 0) = true ∨ (xs.getD 1 0 != 0) = false ∧ ((xs.getD 6 0 != 0) = true ∨ (xs.getD 6 0 != 0) = false ∧ (xs.getD 7 0 != 0) = true)) := by
    simp only [rsh, decide_eq_false_iff_not, bne_iff_ne, bne_eq_false_iff_eq] at hs ⊢
    omega
  have hi : ¬ (n : Int) < 20 := by omega
  have hi2 : (20 : Int) ≤ (c : Int) := by omega
  have HB := Lib.hid hB0
  clear h hs hc0 hB0
  generalize xs.getD 0 0 = u0 at *
  generalize xs.getD 1 0 = u1 at *
  generalize xs.getD 6 0 = u6 at *
  generalize xs.getD 7 0 = u7 at *
  rcases hd with h1 | ⟨h1, h2 | ⟨h2, h3 | ⟨h3, h4⟩⟩⟩
  all_goals
    go_enter Tryd.func12, Tryd.ntmps12
    go_wp2
    exact bodyPost_ret (v := .tuple #[.agg #[.int .i64 0, .int .i64 0, .int .i64 0, .int .i64 0, .int .u32 0, .int .u32 0], .int .i64 102]) (by simp [results, Tryd.results12, go_sem]) rfl ⟨rfl, HB.out⟩
/-- what the ways behind the shape hold on to -/
theorem rread_c (h : BR w A n xs) (hn : 20 ≤ n) (hs : rsh xs = true) : ∃ b o, A = some ⟨b, o, none⟩ ∧ (∀ W, Below w.heap.size w W → BR W (some ⟨b, o, none⟩) 20 (xs.take 20)) ∧ ∀ W, Below w.heap.size w W → W.cell? ⟨b, o, none⟩ = some (.int .u8 69) ∧ W.cell? ⟨b, o + 1, none⟩ = some (.int .u8 0) ∧ W.cell? ⟨b, o + 6, none⟩ = some (.int .u8 0) ∧ W.cell? ⟨b, o + 7, none⟩ = some (.int .u8 0) := by
  obtain ⟨b, o, rfl, _, hc0⟩ := h.2.2 (by omega)
  simp only [rsh, decide_eq_true_eq] at hs
  obtain ⟨s0, s1, s6, s7⟩ := hs
  refine ⟨b, o, rfl, fun W hW => (h.next hW).upto hn, fun W hW => ⟨?_, ?_, ?_, ?_⟩⟩
  · have := keepc (hc0 0 (by omega)) hW; rw [Nat.add_zero, s0] at this; exact this
  · have := keepc (hc0 1 (by omega)) hW; rw [s1] at this; exact this
  · have := keepc (hc0 6 (by omega)) hW; rw [s6] at this; exact this
  · have := keepc (hc0 7 (by omega)) hW; rw [s7] at this; exact this
theorem sum_zero {xs : List Int} : (sum xs != 0) = !decide (oc (tot xs) = 65535) := by
  unfold sum; rw [Bool.eq_iff_iff]; simp; omega
set_option maxHeartbeats 1000000 in
theorem rread_sum (h : BR w A n xs) (hn : 20 ≤ n) (hc : n ≤ c) (hs : rsh xs = true) (ho : oc (tot (xs.take 20)) ≠ 65535) :
    Calls Tryd.prog 12 #[.slice A n c] w fun e w' => e = .returned (.tuple #[hz, .int .i64 105]) ∧ Below w.heap.size w w' := by
  obtain ⟨b, o, rfl, HBR, HC⟩ := rread_c A n xs w h hn hs
  have hk : Keep w 34 6 (w.alloc (.cells #[.int .i64 0, .int .i64 0, .int .i64 0, .int .i64 0, .int .u32 0, .int .u32 0] 34)) := Keep.new _ _ _
  have hS := rsum_any _ 20 c _ _ (HBR _ hk.1) (by omega)
  have hd : (sum (xs.take 20) != 0) = true := by rw [sum_zero]; simp [ho]
  obtain ⟨c0, c1, c6, c7⟩ := HC _ hk.1
  have hi : ¬ (n : Int) < 20 := by omega
  have hi2 : (20 : Int) ≤ (c : Int) := by omega
  have HK := Lib.hid hk
  clear h hs ho hk HBR HC
  generalize sum (xs.take 20) = S at *
  go_enter Tryd.func12, Tryd.ntmps12
  go_wp2_with (go_at_call 30; refine hS.mono ?_; rintro e w1 ⟨rfl, hb⟩
               have hk1 := HK.out.next hb
               obtain ⟨⟨t0, t1, t2, t3, t4, t5⟩, f0, f1, f2, f3, f4, f5⟩ := keep6 hk1
               have HK1 := Lib.hid hk1
               clear hb hk1)
  exact bodyPost_ret (v := .tuple #[.agg #[.int .i64 0, .int .i64 0, .int .i64 0, .int .i64 0, .int .u32 0, .int .u32 0], .int .i64 105]) (by simp [results, Tryd.results12, go_sem, t0, t1, t2, t3, t4, t5]) rfl ⟨rfl, (HK1.out.all6 _ _ _ _ _ _).1⟩
theorem K12 : (12 : Int) = ((12 : Nat) : Int) := rfl
theorem K16 : (16 : Int) = ((16 : Nat) : Int) := rfl
theorem at_at (A : Option Addr) (n c : Nat) (xs : List Int) (w : World) (K : Int) (k : Nat) (hK : K = (k : Int)) (h : BR w A n xs) (hk : k + 4 ≤ n) (hn : n ≤ 1048576) :
    Calls Tryd.prog 20 #[.slice A n c, .int .i64 K] w fun e w' => e = .returned (.int .u32 (ra xs k)) ∧ Below w.heap.size w w' := hK ▸ at_any A n c k xs w h hk hn
theorem slot6 {W : World} {N : Nat} {t : TypeId} (h : Slot W N t 6) : (W.cell? ⟨N, 0, none⟩ = some (rd W ⟨N, 0, none⟩) ∧ W.cell? ⟨N, 1, none⟩ = some (rd W ⟨N, 1, none⟩) ∧ W.cell? ⟨N, 2, none⟩ = some (rd W ⟨N, 2, none⟩) ∧ W.cell? ⟨N, 3, none⟩ = some (rd W ⟨N, 3, none⟩) ∧ W.cell? ⟨N, 4, none⟩ = some (rd W ⟨N, 4, none⟩) ∧ W.cell? ⟨N, 5, none⟩ = some (rd W ⟨N, 5, none⟩)) ∧
    W.frozen? ⟨N, 0, none⟩ = false ∧ W.frozen? ⟨N, 1, none⟩ = false ∧ W.frozen? ⟨N, 2, none⟩ = false ∧ W.frozen? ⟨N, 3, none⟩ = false ∧ W.frozen? ⟨N, 4, none⟩ = false ∧ W.frozen? ⟨N, 5, none⟩ = false :=
  ⟨⟨h.cell (by omega), h.cell (by omega), h.cell (by omega), h.cell (by omega), h.cell (by omega), h.cell (by omega)⟩, h.frozen 0, h.frozen 1, h.frozen 2, h.frozen 3, h.frozen 4, h.frozen 5⟩
theorem slot_new {w w1 : World} {t : TypeId} {cs : Array Value} {B : Nat} (hB : B = (w.alloc (.cells cs t)).heap.size) (hb : Below B (w.alloc (.cells cs t)) w1) (hs : cs.size = 6) : Slot w1 w.heap.size t 6 := by
  subst hB
  exact hs ▸ (Blk.new w t cs).slot.next hb
theorem slot_newd {w w1 : World} {t : TypeId} {cs : Array Value} {B : Nat} (hB : B = (w.alloc (.cells cs t)).drew.heap.size) (hb : Below B (w.alloc (.cells cs t)).drew w1) (hs : cs.size = 6) : Slot w1 w.heap.size t 6 := by
  subst hB
  exact hs ▸ ((Blk.new w t cs).slot.next (Below.refl _ _).drew).next hb
end
end Go.Proofs.YtgjpclmkjoghiaaDoor
