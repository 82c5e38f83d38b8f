/- The helpers of chapter 4's statements, walked: the first example, what is light, a message's bytes in one word. -/
import Derived.Test.YtfcfnfofihpegaaDoorW9
import Derived.Test.YtfcfnfofihpegaaDoorBytes
namespace Go.Proofs.YtfcfnfofihpegaaDoor
open Go.RowKit Sm
def mbx (m : Ms) : List Int := if mcode m = 0 then mbs m else []
theorem mbx_b {m : Ms} (hw : wfm m) : IsB (mbx m) := by
  unfold mbx; split
  · exact mbs_b hw (by assumption)
  · exact fun x hx => by cases hx
theorem mbx_len (m : Ms) : (mbx m).length ≤ 30 := by
  unfold mbx; split
  · exact (mbs_len10 (by assumption)).2
  · simp
theorem wbytes_gen (er : Int → Value) (m : Ms) (A : Option Addr) (n c : Nat) (w : World) (hE : EnvV er w) (hw : wfm m) (hA : AR w A n m.l) :
    Calls Tryd.prog 11 #[mv m A n c] w fun e w' => ∃ A' n' c', e = .returned (.tuple #[.slice A' n' c', er (mcode m)]) ∧ n' ≤ c' ∧ BR w' A' n' (mbx m) ∧ Below w.heap.size w w' := by
  by_cases h : mcode m = 0
  · have e2 : mbx m = mbs m := if_pos h
    rw [h, e2, hE.1]
    refine (wbytes_yes er m A n c w hE hw hA h).mono ?_
    rintro e w1 ⟨A', c', rfl, hown, hb⟩
    have := own_br hown (mbs_b hw h)
    exact ⟨A', _, c', rfl, this.2, this.1, hb⟩
  · have e2 : mbx m = [] := if_neg h
    rw [e2]
    refine (wbytes_no er m A n c w hE hw hA h).mono ?_
    rintro e w1 ⟨rfl, hb⟩
    exact ⟨none, 0, 0, rfl, Nat.le_refl _, BR.none_ _ _, hb⟩
theorem light_any (m : Ms) (A : Option Addr) (n c : Nat) (w : World) :
    Calls Tryd.prog 9 #[mv m A n c] w fun e w' => e = .returned (.bool (decide (n ≤ 20))) ∧ Below w.heap.size w w' := by
  have HB := Lib.hid (fun o => (Below.refl w.heap.size w).alloc (Nat.le_refl _) o)
  have e : decide (n ≤ 20) = decide ((n : Int) ≤ 20) := by rw [Bool.eq_iff_iff]; simp; omega
  rw [e]
  clear e
  unfold mv
  go_enter Tryd.func9, Tryd.ntmps9
  go_wp2
  go_ret
  exact ⟨rfl, HB.out _⟩
def hello : Ms := ⟨1, 0, 0, 0, 0, 0, 0, false, []⟩
theorem hello_ok : mcode hello = 0 := by decide
theorem hello_wf : wfm hello := ⟨⟨by decide, by decide⟩, ⟨by decide, by decide⟩, ⟨by decide, by decide⟩, ⟨by decide, by decide⟩, fun x hx => by cases hx⟩
theorem first_any (er : Int → Value) (w : World) (hE : EnvV er w) :
    Calls Tryd.prog 8 #[] w fun e w' => e = .returned (.bool true) ∧ Below w.heap.size w w' := by
  have H1 := wbytes_yes er hello none 0 0 w hE hello_wf (AR.none_ _ _) hello_ok
  have hl : (mbs hello).length = 10 := by rw [mbs_len, mraw_len]; rfl
  unfold bytesOf at H1
  rw [hl] at H1
  unfold mv hello at H1
  clear hE hl
  go_enter Tryd.func8, Tryd.ntmps8
  go_wp2_with (go_at_call 11; refine H1.mono ?_; rintro e w1 ⟨A1, c1, rfl, hown, hb⟩; have HB := Lib.hid hb; clear hown hb)
  go_ret
  exact ⟨rfl, HB.out⟩
theorem twins_eq {m n : Ms} (hm : wfm m) (hn : wfm n) (cm : mcode m = 0) (cn : mcode n = 0) : decide (mbs m = mbs n) = sameB m n := by
  rw [Bool.eq_iff_iff, decide_eq_true_eq, sameB_eq]
  exact ⟨fun h => mbs_inj hm hn cm cn h, fun h => by rw [h]⟩
theorem sameB_symm (m n : Ms) : sameB n m = sameB m n := by
  rw [Bool.eq_iff_iff, sameB_eq, sameB_eq]
  exact ⟨fun h => h.symm, fun h => h.symm⟩
theorem sameB_self (m : Ms) : sameB m m = true := sameB_eq.2 rfl
end Go.Proofs.YtfcfnfofihpegaaDoor
