/- Whether an error is the one of a number: where it is; a number below a bound. Condition: the fourteen errors lie in their variables, each a pointer of its own. -/
import Derived.Test.YthnchjmbjeooiaaDoorSeeN
namespace Go.Proofs.YthnchjmbjeooiaaDoor
open Go.RowKit
def erS (ads : List Addr) (c : Int) : Value := if c = 0 then .nilIface else ev (ads.getD (c - 101).toNat ⟨0, 0, none⟩)
def IsC (c : Int) : Prop := c = 0 ∨ ∃ j : Nat, j < 14 ∧ c = 101 + (j : Int)
theorem erS_at {ads : List Addr} {w : World} (hS : EnvS ads w) {j : Nat} (hj : j < 14) : ∃ a, ads[j]? = some a ∧ erS ads (101 + (j : Int)) = ev a := by
  have h3 : ads[j]? = some (ads[j]'(by rw [hS.1]; omega)) := by simp [hS.1, hj]
  refine ⟨_, h3, ?_⟩
  unfold erS
  rw [if_neg (by omega), show (101 + (j : Int) - 101).toNat = j by omega]
  simp [List.getD, hS.1, hj]
theorem erS_cell {ads : List Addr} {w : World} (hS : EnvS ads w) {j g : Nat} (hj : j < 14) (hg : errG[j]? = some g) : w.cell? ⟨g, 0, none⟩ = some (erS ads (101 + (j : Int))) := by
  obtain ⟨a, h1, h2⟩ := erS_at hS hj
  rw [h2]
  exact hS.2.2.1 j g a hg h1
theorem is_code (ads : List Addr) (c d : Int) (hc : IsC c) (w : World) (hS : EnvS ads w) :
    Calls Tryd.prog 11 #[erS ads c, .int .i64 d] w fun e w' => e = .returned (.bool (c == d)) ∧ Below w.heap.size w w' := by
  rcases hc with rfl | ⟨j, hj, rfl⟩
  · have h0 : erS ads 0 = .nilIface := rfl
    rw [h0]
    exact is_nil d w
  · obtain ⟨a, h1, h2⟩ := erS_at hS hj
    rw [h2]
    refine (is_any ads j _ d w hS hj h1).mono ?_
    rintro e w' ⟨rfl, hb⟩
    exact ⟨ret_bool (by simp), hb⟩
theorem number_any (x b : Int) (w : World) (hb : 0 < b) (hb1 : b ≤ 1000000000) :
    Calls Tryd.prog 17 #[.int .i64 x, .int .i64 b] w fun e w' => e = .returned (.int .i64 (x % b)) ∧ w = w' := by
  have hb0 : 0 ≤ x % b := Int.emod_nonneg _ (by omega)
  have hb2 : x % b < b := Int.emod_lt_of_pos _ hb
  have ht : x.tmod b = x % b ∨ (x.tmod b = x % b - b ∧ x.tmod b < 0) := by
    have e := Int.tmod_eq_emod (a := x) (b := b)
    split at e
    · exact .inl (by omega)
    · exact .inr (by omega)
  go_enter Tryd.func17, Tryd.ntmps17
  go_wp2
  all_goals
    go_ret
    refine ⟨ret_int ?_, rfl⟩
  · omega
  · omega
end Go.Proofs.YthnchjmbjeooiaaDoor
