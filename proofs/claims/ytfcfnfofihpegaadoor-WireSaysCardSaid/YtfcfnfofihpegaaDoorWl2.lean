/- Read in two words: what is no message, what is one. -/
import Derived.Test.YtfcfnfofihpegaaDoorW14
import Derived.Test.YtfcfnfofihpegaaDoorWl
namespace Go.Proofs.YtfcfnfofihpegaaDoor
open Go.RowKit Sm
theorem wread_fail (er : Int → Value) (A : Option Addr) (n c : Nat) (xs : List Int) (w : World) (hE : EnvM er w) (h : BR w A n xs) (hn : n ≤ 1048576) (hcap : n ≤ c) (h0 : mrc xs ≠ 0) :
    Calls Tryd.prog 18 #[.slice A n c] w fun e w' => ∃ ea A' c', er (mrc xs) = ev ea ∧ e = .returned (.tuple #[mv mz A' 0 c', ev ea]) ∧ Below w.heap.size w w' := by
  obtain ⟨ea, hea⟩ := hE.ev (c := mrc xs) (by have := mrc_cases xs; omega)
  refine (wread_any er A n c xs w hE h hn hcap).mono ?_
  rintro e w' ⟨A', n', c', rfl, ha, hb⟩
  have hm : mres xs = mz := by unfold mres; rw [if_neg h0]
  rw [hm] at ha ⊢
  obtain rfl : n' = 0 := by have := ha.len; simp [mz] at this; omega
  exact ⟨ea, A', c', hea, by rw [hea], hb⟩
theorem wread_good (er : Int → Value) (A : Option Addr) (n c : Nat) (xs : List Int) (w : World) (hE : EnvM er w) (h : BR w A n xs) (hn : n ≤ 1048576) (hcap : n ≤ c) (h0 : mrc xs = 0) :
    Calls Tryd.prog 18 #[.slice A n c] w fun e w' => ∃ A' n' c', e = .returned (.tuple #[mv (mrd xs) A' n' c', .nilIface]) ∧ AR w' A' n' (mrd xs).l ∧ n' ≤ 4 ∧ Below w.heap.size w w' := by
  refine (wread_any er A n c xs w hE h hn hcap).mono ?_
  rintro e w' ⟨A', n', c', rfl, ha, hb⟩
  have hm : mres xs = mrd xs := by unfold mres; rw [if_pos h0]
  have h4 := (mcode_ok (mrc_ok h0).2.2.2.2.2.2.2).2.2.1
  rw [hm] at ha ⊢
  exact ⟨A', n', c', by rw [h0, hE.1.1], ha, by have := ha.len; omega, hb⟩
end Go.Proofs.YtfcfnfofihpegaaDoor
