/- cmp.Compare, cmp.Or of two, and the order of prefixes, over the seat's program: what they hand back, and that they only draw and lay new blocks. -/
import Derived.Test.YtgicmgljllaliaaGreatDoorKit
import Derived.Test.YtgicmgljllaliaaGreatDoorProg
import Derived.WalkKit
import Derived.BigQuiet
import Derived.Deep.QuietTactic
import Derived.Deep.RegionHeld3
namespace Go.Proofs.YtgicmgljllaliaaGreatDoor
open Go.RowKit
/-- so many draws and blocks behind -/
def Gr (w w' : World) : Prop := ∃ (q : Nat) (os : Array Obj), w' = Sort.grow (w.drewN q) os
section
variable {w w' w2 : World}
theorem Gr.refl (w : World) : Gr w w := ⟨0, #[], by simp [World.drewN]⟩
theorem Gr.drew (h : Gr w w') : Gr w w'.drew := by
  obtain ⟨q, os, rfl⟩ := h
  exact ⟨q + 1, os, rfl⟩
theorem Gr.drewN (h : Gr w w') (n : Nat) : Gr w (w'.drewN n) := by
  obtain ⟨q, os, rfl⟩ := h
  exact ⟨q + n, os, by simp [Sort.grow, World.drewN, Nat.add_assoc]⟩
theorem Gr.alloc (h : Gr w w') (o : Obj) : Gr w (w'.alloc o) := by
  obtain ⟨q, os, rfl⟩ := h
  exact ⟨q, os.push o, by simp [Sort.grow, World.drewN, World.alloc]⟩
theorem Gr.below (h : Gr w w') : Below w.heap.size w w' := by
  obtain ⟨q, os, rfl⟩ := h
  exact below_grow w q os
theorem Gr.cell (h : Gr w w') {p : Addr} (hp : p.block < w.heap.size) : w'.cell? p = w.cell? p := h.below.cell hp
theorem Gr.trans (h : Gr w w') (g : Gr w' w2) : Gr w w2 := by
  obtain ⟨q, os, rfl⟩ := h
  obtain ⟨q2, os2, rfl⟩ := g
  exact ⟨q + q2, os ++ os2, by simp [Sort.grow, World.drewN, Array.append_assoc, Nat.add_assoc]⟩
end
def cmpI (a b : Int) : Int := if a < b then -1 else if b < a then 1 else 0
theorem cmpI_lt {a b : Int} (h : a < b) : cmpI a b = -1 := by unfold cmpI; rw [if_pos h]
theorem cmpI_gt {a b : Int} (h : b < a) : cmpI a b = 1 := by unfold cmpI; rw [if_neg (by omega), if_pos h]
theorem cmpI_eq {a b : Int} (h : a = b) : cmpI a b = 0 := by unfold cmpI; rw [if_neg (by omega), if_neg (by omega)]
theorem nan_addr (a : Int) (w : World) : Calls Tryz.prog 112 #[.int .u32 a] w fun e w' => e = .returned (.bool false) ∧ w = w' := by
  have h : (a != a) = false := by simp
  go_enter Tryz.func112, Tryz.ntmps112
  go_wp2
  go_ret
  exact ⟨rfl, rfl⟩
theorem cmp_addr (a b : Int) (w : World) : Calls Tryz.prog 59 #[.int .u32 a, .int .u32 b] w fun e w' => e = .returned (.int .i64 (cmpI a b)) ∧ w = w' := by
  rcases Int.lt_trichotomy a b with h | h | h
  · go_enter Tryz.func59, Tryz.ntmps59
    go_wp2_with (go_at_call 112; refine (nan_addr _ _).mono ?_; rintro e w' ⟨rfl, rfl⟩)
    go_ret
    exact ⟨ret_int (cmpI_lt h).symm, rfl⟩
  · subst h
    go_enter Tryz.func59, Tryz.ntmps59
    go_wp2_with (go_at_call 112; refine (nan_addr _ _).mono ?_; rintro e w' ⟨rfl, rfl⟩)
    go_ret
    exact ⟨ret_int (cmpI_eq rfl).symm, rfl⟩
  · have h2 : ¬ a < b := by omega
    go_enter Tryz.func59, Tryz.ntmps59
    go_wp2_with (go_at_call 112; refine (nan_addr _ _).mono ?_; rintro e w' ⟨rfl, rfl⟩)
    go_ret
    exact ⟨ret_int (cmpI_gt h).symm, rfl⟩
/-- the first of two that is not 0 -/
def orI (x y : Int) : Int := if x = 0 then y else x
theorem or_two (g c : Nat) (x y : Int) (w : World) (h0 : w.cell? ⟨g, 0, none⟩ = some (.int .i64 x)) (h1 : w.cell? ⟨g, 1, none⟩ = some (.int .i64 y)) :
    Calls Tryz.prog 58 #[.slice (some ⟨g, 0, none⟩) 2 c] w fun e w' => e = .returned (.int .i64 (orI x y)) ∧ w = w' := by
  go_enter Tryz.func58, Tryz.ntmps58
  go_wp2_with fail
  go_loop [8] (fun i => ∃ k : Nat, k ≤ 2 ∧ i = .int .i64 k ∧ (0 < k → x = 0) ∧ (1 < k → y = 0)) (fun i => 2 - (intOf i).toNat)
  case atStart => exact ⟨0, by omega, rfl, by omega, by omega⟩
  case round =>
    obtain ⟨k, hk, rfl, hx, hy⟩ := hrel
    match k, hk with
    | 0, _ =>
      clear hx hy
      by_cases h : x = 0
      · subst h
        go_wp2
        go_round
        case rel => exact ⟨1, by omega, rfl, by simp, by simp⟩
        case measure => simp [intOf]
      · have hn : (x != 0) = true := by simpa using h
        have HE : Hid (orI x y = x) := Lib.hid (by unfold orI; rw [if_neg h])
        clear h
        go_wp2
        go_ret
        exact ⟨ret_int HE.out.symm, rfl⟩
    | 1, _ =>
      have HX := Lib.hid (hx (by omega))
      clear hx hy
      by_cases h : y = 0
      · subst h
        go_wp2
        go_round
        case rel => exact ⟨2, by omega, rfl, by simp [HX.out], by simp⟩
        case measure => simp [intOf]
      · have hn : (y != 0) = true := by simpa using h
        have HE : Hid (orI x y = y) := Lib.hid (by unfold orI; rw [if_pos HX.out])
        clear h
        go_wp2
        go_ret
        exact ⟨ret_int HE.out.symm, rfl⟩
    | 2, _ =>
      have HE : Hid (orI x y = 0) := Lib.hid (by unfold orI; rw [if_pos (hx (by omega)), hy (by omega)])
      clear hx hy
      go_wp2
      go_ret
      exact ⟨ret_int HE.out.symm, rfl⟩
def ordP (p q : Int × Int) : Int := orI (cmpI p.1 q.1) (cmpI p.2 q.2)
end Go.Proofs.YtgicmgljllaliaaGreatDoor

