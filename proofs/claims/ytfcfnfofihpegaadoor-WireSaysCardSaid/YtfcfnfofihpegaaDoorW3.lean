/- Contracts of wire.own and wire.Valid, over the seat's program. Condition: three errors of the project lie in their variables. -/
import Derived.Test.YtfcfnfofihpegaaDoorW2
import Derived.Test.YtfcfnfofihpegaaDoorSee
namespace Go.Proofs.YtfcfnfofihpegaaDoor
open Go.RowKit Sm
def EnvV (er : Int → Value) (w : World) : Prop :=
  er 0 = .nilIface ∧ (∀ c : Int, c = 113 ∨ c = 104 ∨ c = 103 → ∃ a, er c = ev a) ∧
  w.cell? ⟨0, 0, none⟩ = some (er 113) ∧ w.cell? ⟨1, 0, none⟩ = some (er 104) ∧ w.cell? ⟨2, 0, none⟩ = some (er 103)
theorem EnvV.below {er : Int → Value} {w w' : World} (h : EnvV er w) (hb : Below w.heap.size w w') : EnvV er w' := by
  obtain ⟨h0, h1, a1, a2, a3⟩ := h
  exact ⟨h0, h1, keepc a1 hb, keepc a2 hb, keepc a3 hb⟩
theorem owned_1 (f t s g r c : Int) (o : Bool) (l : List Int) : owned ⟨1, f, t, s, g, r, c, o, l⟩ = ⟨1, f, 0, 0, 0, r, 0, false, []⟩ := rfl
theorem owned_2 (f t s g r c : Int) (o : Bool) (l : List Int) : owned ⟨2, f, t, s, g, r, c, o, l⟩ = ⟨2, f, t, s, g, 0, 0, false, []⟩ := rfl
theorem owned_3 (f t s g r c : Int) (o : Bool) (l : List Int) : owned ⟨3, f, t, s, g, r, c, o, l⟩ = ⟨3, f, 0, s, g, 0, c, false, []⟩ := rfl
theorem owned_4 (f t s g r c : Int) (o : Bool) (l : List Int) : owned ⟨4, f, t, s, g, r, c, o, l⟩ = ⟨4, f, 0, 0, g, 0, 0, o, l⟩ := rfl
theorem owned_5 (f t s g r c : Int) (o : Bool) (l : List Int) : owned ⟨5, f, t, s, g, r, c, o, l⟩ = ⟨5, f, 0, 0, g, 0, 0, false, []⟩ := rfl
set_option maxHeartbeats 2000000 in
theorem own_any (m : Ms) (A : Option Addr) (n c : Nat) (w : World) (hA : AR w A n m.l) (hk : kOk m.k = true) :
    Calls Tryd.prog 34 #[mv m A n c] w fun e w' => ∃ A' n' c', e = .returned (mv (owned m) A' n' c') ∧ AR w' A' n' (owned m).l ∧ n' ≤ n ∧ Below w.heap.size w w' := by
  obtain ⟨k, f, t, s, g, r, c', o, l⟩ := m
  simp only [kOk, decide_eq_true_eq] at hk
  have hK : k = 1 ∨ k = 2 ∨ k = 3 ∨ k = 4 ∨ k = 5 := by omega
  clear hk
  unfold mv
  replace hA : AR w A n l := hA
  have HA := Lib.hid (fun W (hW : Below w.heap.size w W) => hA.next hW)
  have HN := Lib.hid (fun W => AR.none_ W none)
  clear hA
  have hB : ∀ (W : World) (x y z : Obj), Below W.heap.size W (((W.alloc x).alloc y).alloc z) := fun W x y z => ((((Below.refl _ _).alloc (Nat.le_refl _) _).alloc (by simp) _).alloc (by simp; omega) _)
  have HB := Lib.hid hB
  clear hB
  rcases hK with rfl | rfl | rfl | rfl | rfl
  · rw [owned_1]
    go_enter Tryd.func34, Tryd.ntmps34
    go_wp2
    try (go_region; go_wp2)
    exact bodyPost_ret (v := .agg #[.int .i64 1, .int .u32 f, .int .u32 0, .int .u32 0, .int .u32 0, .int .i64 r, .int .i64 0, .bool false, .slice none 0 0]) (by simp [results, Tryd.results34, go_sem]) rfl ⟨_, _, _, rfl, HN.out _, Nat.zero_le _, by first | exact (HB.out _ _ _ _).drew | exact HB.out _ _ _ _⟩
  · rw [owned_2]
    go_enter Tryd.func34, Tryd.ntmps34
    go_wp2
    try (go_region; go_wp2)
    exact bodyPost_ret (v := .agg #[.int .i64 2, .int .u32 f, .int .u32 t, .int .u32 s, .int .u32 g, .int .i64 0, .int .i64 0, .bool false, .slice none 0 0]) (by simp [results, Tryd.results34, go_sem]) rfl ⟨_, _, _, rfl, HN.out _, Nat.zero_le _, by first | exact (HB.out _ _ _ _).drew | exact HB.out _ _ _ _⟩
  · rw [owned_3]
    go_enter Tryd.func34, Tryd.ntmps34
    go_wp2
    try (go_region; go_wp2)
    exact bodyPost_ret (v := .agg #[.int .i64 3, .int .u32 f, .int .u32 0, .int .u32 s, .int .u32 g, .int .i64 0, .int .i64 c', .bool false, .slice none 0 0]) (by simp [results, Tryd.results34, go_sem]) rfl ⟨_, _, _, rfl, HN.out _, Nat.zero_le _, by first | exact (HB.out _ _ _ _).drew | exact HB.out _ _ _ _⟩
  · rw [owned_4]
    go_enter Tryd.func34, Tryd.ntmps34
    go_wp2
    try (go_region; go_wp2)
    exact bodyPost_ret (v := .agg #[.int .i64 4, .int .u32 f, .int .u32 0, .int .u32 0, .int .u32 g, .int .i64 0, .int .i64 0, .bool o, .slice A n c]) (by simp [results, Tryd.results34, go_sem]) rfl ⟨_, _, _, rfl, HA.out _ (by first | exact (HB.out _ _ _ _).drew | exact HB.out _ _ _ _), Nat.le_refl _, by first | exact (HB.out _ _ _ _).drew | exact HB.out _ _ _ _⟩
  · rw [owned_5]
    go_enter Tryd.func34, Tryd.ntmps34
    go_wp2
    try (go_region; go_wp2)
    exact bodyPost_ret (v := .agg #[.int .i64 5, .int .u32 f, .int .u32 0, .int .u32 0, .int .u32 g, .int .i64 0, .int .i64 0, .bool false, .slice none 0 0]) (by simp [results, Tryd.results34, go_sem]) rfl ⟨_, _, _, rfl, HN.out _, Nat.zero_le _, by first | exact (HB.out _ _ _ _).drew | exact HB.out _ _ _ _⟩
end Go.Proofs.YtfcfnfofihpegaaDoor
