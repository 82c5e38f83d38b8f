/- Contract of wire's readHead, over the seat's program. Condition: six errors of the project lie in their variables. -/
import Derived.Test.YtfcfnfofihpegaaDoorW12
import Derived.Test.YtfcfnfofihpegaaDoorW5
namespace Go.Proofs.YtfcfnfofihpegaaDoor
open Go.RowKit Sm
def EnvM (er : Int → Value) (w : World) : Prop :=
  EnvV er w ∧ (∀ c : Int, c = 101 ∨ c = 102 ∨ c = 105 → ∃ a, er c = ev a) ∧
  w.cell? ⟨3, 0, none⟩ = some (er 101) ∧ w.cell? ⟨4, 0, none⟩ = some (er 102) ∧ w.cell? ⟨5, 0, none⟩ = some (er 105)
theorem EnvM.below {er : Int → Value} {w w' : World} (h : EnvM er w) (hb : Below w.heap.size w w') : EnvM er w' := by
  obtain ⟨h0, h1, a1, a2, a3⟩ := h
  exact ⟨h0.below hb, h1, keepc a1 hb, keepc a2 hb, keepc a3 hb⟩
theorem EnvM.ev {er : Int → Value} {w : World} (h : EnvM er w) {c : Int} (hc : c = 101 ∨ c = 105 ∨ c = 102 ∨ c = 113 ∨ c = 104 ∨ c = 103) : ∃ a, er c = ev a := by
  by_cases h1 : c = 101 ∨ c = 102 ∨ c = 105
  · exact h.2.1 c h1
  · exact h.1.2.1 c (by omega)
namespace Sm
def hdc (xs : List Int) : Int := if xs.length < 4 then 101 else if oc (tot xs) ≠ 65535 then 105 else if xs.getD 1 0 ≠ 0 then 102 else if kOk (rkind xs) = false then 113 else 0
theorem hdc_mrc {xs : List Int} (h : hdc xs ≠ 0) : mrc xs = hdc xs := by
  unfold hdc at h ⊢
  unfold mrc
  repeat' split at h
  all_goals simp_all
theorem hdc_cases (xs : List Int) : hdc xs = 101 ∨ hdc xs = 105 ∨ hdc xs = 102 ∨ hdc xs = 113 ∨ hdc xs = 0 := by
  unfold hdc; repeat' split
  all_goals simp
theorem hdc_ok {xs : List Int} (h : hdc xs = 0) : 4 ≤ xs.length ∧ 1 ≤ rkind xs ∧ rkind xs ≤ 5 ∧ mrc xs = if xs.length < msz xs then 101 else if msz xs < xs.length ∨ modd xs = true then 102 else mcode (mrd xs) := by
  unfold hdc at h
  repeat' split at h
  all_goals first | omega | skip
  rename_i h1 h2 h3 h4
  have h4' := h4
  simp only [kOk, decide_eq_false_iff_not, Decidable.not_not] at h4'
  refine ⟨by omega, h4'.1, h4'.2, ?_⟩
  unfold mrc
  rw [if_neg h1, if_neg h2, if_neg h3, if_neg h4]
def hdk (xs : List Int) : Int := if hdc xs = 0 then rkind xs else 0
end Sm
section
variable (er : Int → Value) (A : Option Addr) (n c : Nat) (xs : List Int) (w : World)
def headOf (er : Int → Value) (xs : List Int) (w : World) (e : Ending) (w' : World) : Prop :=
  e = .returned (.tuple #[.int .i64 (hdk xs), er (hdc xs)]) ∧ Below w.heap.size w w'
theorem head_post {er : Int → Value} {xs : List Int} {w : World} {k cd : Int} (h : hdc xs = cd) (hk : hdk xs = k) {e : Ending} {w' : World} (h2 : e = .returned (.tuple #[.int .i64 k, er cd]) ∧ Below w.heap.size w w') : headOf er xs w e w' := by
  subst h hk; exact h2
theorem readHead_any (hE : EnvM er w) (h : BR w A n xs) (hn : n ≤ 1048576) :
    Calls Tryd.prog 41 #[.slice A n c] w (headOf er xs w) := by
  have hl := h.len
  by_cases h4 : n < 4
  · have e : hdc xs = 101 := by unfold hdc; rw [if_pos (by omega)]
    have ek : hdk xs = 0 := by unfold hdk; rw [e, if_neg (by omega)]
    refine Calls.mono (R := fun e w' => e = .returned (.tuple #[.int .i64 0, er 101]) ∧ Below w.heap.size w w') ?_ (fun _ _ => head_post e ek)
    have hi : (n : Int) < 4 := by omega
    have hc := hE.2.2.1
    clear hE h hn h4 e ek hl
    go_enter Tryd.func41, Tryd.ntmps41
    go_wp2_with fail
    go_quiet (fail)
    go_wp2
    go_ret2
    exact ⟨rfl, below_drewN (Below.refl _ _) _⟩
  have hi : ¬ (n : Int) < 4 := by omega
  obtain ⟨b, o, rfl, hlt, hcell⟩ := h.2.2 (by omega)
  have HC := check_any _ n c xs w h hn
  by_cases ho : oc (tot xs) = 65535
  · rw [decide_eq_true ho] at HC
    by_cases h1 : xs.getD 1 0 = 0
    · cases hk : kOk (rkind xs)
      · have e : hdc xs = 113 := by unfold hdc; rw [if_neg (by omega), if_neg (by simp [ho]), if_neg (by rw [h1]; simp), if_pos hk]
        have ek : hdk xs = 0 := by unfold hdk; rw [e, if_neg (by omega)]
        refine Calls.mono (R := fun e w' => e = .returned (.tuple #[.int .i64 0, er 113]) ∧ Below w.heap.size w w') ?_ (fun _ _ => head_post e ek)
        have HK := Lib.hid (fun W => known_any (rkind xs) W)
        rw [hk] at HK
        have h0 := hcell 0 (by omega)
        have h1' := hcell 1 (by omega)
        rw [Nat.add_zero] at h0
        rw [h1] at h1'
        have B0 := h.isB.at_ 0
        have HE := Lib.hid hE
        unfold rkind at HK
        clear hE h hn h4 e ek hl hcell ho h1 hk
        generalize xs.getD 0 0 = u at *
        go_enter Tryd.func41, Tryd.ntmps41
        go_wp2_with fail
        refine HC.mono ?_
        rintro e w1 ⟨rfl, hb⟩
        have x0 := keepc h0 hb
        have x1 := keepc h1' hb
        have hi0 : (0 : Int) < (n : Int) := by omega
        have hi1 : (1 : Int) < (n : Int) := by omega
        have hc := (HE.out.below hb).1.2.2.1
        have HB := Lib.hid hb
        clear hb
        go_wp2_with (go_at_call 30; refine (HK.out _).mono ?_; rintro e w2 ⟨rfl, rfl⟩)
        go_quiet (fail)
        go_wp2
        go_ret2
        exact ⟨rfl, below_drewN HB.out _⟩
      · have e : hdc xs = 0 := by unfold hdc; rw [if_neg (by omega), if_neg (by simp [ho]), if_neg (by rw [h1]; simp), hk, if_neg (by simp)]
        have ek : hdk xs = rkind xs := by unfold hdk; rw [e, if_pos rfl]
        refine Calls.mono (R := fun e w' => e = .returned (.tuple #[.int .i64 (rkind xs), er 0]) ∧ Below w.heap.size w w') ?_ (fun _ _ => head_post e ek)
        rw [hE.1.1]
        have HK := Lib.hid (fun W => known_any (rkind xs) W)
        rw [hk] at HK
        have h0 := hcell 0 (by omega)
        have h1' := hcell 1 (by omega)
        rw [Nat.add_zero] at h0
        rw [h1] at h1'
        have B0 := h.isB.at_ 0
        unfold rkind at HK ⊢
        clear hE h hn h4 e ek hl hcell ho h1 hk
        generalize xs.getD 0 0 = u at *
        go_enter Tryd.func41, Tryd.ntmps41
        go_wp2_with fail
        refine HC.mono ?_
        rintro e w1 ⟨rfl, hb⟩
        have x0 := keepc h0 hb
        have x1 := keepc h1' hb
        have hi0 : (0 : Int) < (n : Int) := by omega
        have hi1 : (1 : Int) < (n : Int) := by omega
        have HB := Lib.hid hb
        clear hb
        go_wp2_with (go_at_call 30; refine (HK.out _).mono ?_; rintro e w2 ⟨rfl, rfl⟩)
        go_ret2
        exact ⟨rfl, HB.out⟩
    · have e : hdc xs = 102 := by unfold hdc; rw [if_neg (by omega), if_neg (by simp [ho]), if_pos h1]
      have ek : hdk xs = 0 := by unfold hdk; rw [e, if_neg (by omega)]
      refine Calls.mono (R := fun e w' => e = .returned (.tuple #[.int .i64 0, er 102]) ∧ Below w.heap.size w w') ?_ (fun _ _ => head_post e ek)
      have hd : (xs.getD 1 0 != 0) = true := by simpa using h1
      have h1' := hcell 1 (by omega)
      have HE := Lib.hid hE
      clear hE h hn h4 e ek hl hcell ho h1
      generalize xs.getD 1 0 = u at *
      go_enter Tryd.func41, Tryd.ntmps41
      go_wp2_with fail
      refine HC.mono ?_
      rintro e w1 ⟨rfl, hb⟩
      have x1 := keepc h1' hb
      have hi1 : (1 : Int) < (n : Int) := by omega
      have hc := (HE.out.below hb).2.2.2.1
      have HB := Lib.hid hb
      clear hb
      go_wp2_with fail
      go_quiet (fail)
      go_wp2
      go_ret2
      exact ⟨rfl, below_drewN HB.out _⟩
  · rw [decide_eq_false ho] at HC
    have e : hdc xs = 105 := by unfold hdc; rw [if_neg (by omega), if_pos ho]
    have ek : hdk xs = 0 := by unfold hdk; rw [e, if_neg (by omega)]
    refine Calls.mono (R := fun e w' => e = .returned (.tuple #[.int .i64 0, er 105]) ∧ Below w.heap.size w w') ?_ (fun _ _ => head_post e ek)
    have HE := Lib.hid hE
    clear hE h hn h4 e ek hl hcell ho
    go_enter Tryd.func41, Tryd.ntmps41
    go_wp2_with fail
    refine HC.mono ?_
    rintro e w1 ⟨rfl, hb⟩
    have hc := (HE.out.below hb).2.2.2.2
    have HB := Lib.hid hb
    clear hb
    go_wp2_with fail
    go_quiet (fail)
    go_wp2
    go_ret2
    exact ⟨rfl, below_drewN HB.out _⟩
end
end Go.Proofs.YtfcfnfofihpegaaDoor
