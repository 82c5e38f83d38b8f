/- Whether an error is the one of a number: where it is. Condition: the fourteen errors lie in their variables, each a pointer of its own. -/
import Derived.Test.YtfcfnfofihpegaaDoorErrW
import Derived.Test.YtfcfnfofihpegaaDoorSeeN
namespace Go.Proofs.YtfcfnfofihpegaaDoor
open Go.RowKit Sm
def IsC (c : Int) : Prop := c = 0 ∨ ∃ j : Nat, j < 14 ∧ c = 101 + (j : Int)
theorem isC_m (m : Ms) : IsC (mcode m) := by
  rcases mcode_cases m with h | h | h | h
  · exact .inr ⟨12, by omega, by omega⟩
  · exact .inr ⟨3, by omega, by omega⟩
  · exact .inr ⟨2, by omega, by omega⟩
  · exact .inl h
theorem isC_r (xs : List Int) : IsC (mrc xs) := by
  rcases mrc_cases xs with h | h | h | h | h | h | h
  · exact .inr ⟨0, by omega, by omega⟩
  · exact .inr ⟨4, by omega, by omega⟩
  · exact .inr ⟨1, by omega, by omega⟩
  · exact .inr ⟨12, by omega, by omega⟩
  · exact .inr ⟨3, by omega, by omega⟩
  · exact .inr ⟨2, by omega, by omega⟩
  · exact .inl h
theorem is_code (ads : List Addr) (c : Int) (hc : IsC c) (w : World) (hS : EnvS ads w) :
    Calls Tryd.prog 12 #[erS ads c, .int .i64 c] w fun e w' => e = .returned (.bool true) ∧ Below w.heap.size w w' := by
  rcases hc with rfl | ⟨j, hj, rfl⟩
  · have h0 : erS ads 0 = .nilIface := rfl
    rw [h0]
    exact is_nil 0 w
  · have h3 : ads[j]? = some (ads[j]'(by rw [hS.1]; omega)) := by simp [hS.1, hj]
    have he : erS ads (101 + (j : Int)) = ev (ads[j]'(by rw [hS.1]; omega)) := by
      unfold erS
      rw [if_neg (by omega), show (101 + (j : Int) - 101).toNat = j by omega]
      simp [List.getD, hS.1, hj]
    rw [he]
    refine (is_any ads j _ _ w hS hj h3).mono ?_
    rintro e w' ⟨rfl, hb⟩
    exact ⟨ret_bool (by simp), hb⟩
end Go.Proofs.YtfcfnfofihpegaaDoor
