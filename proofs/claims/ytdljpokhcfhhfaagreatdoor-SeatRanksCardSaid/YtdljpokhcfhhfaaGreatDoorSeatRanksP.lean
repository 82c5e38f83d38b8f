/- The statement that the greatest rank on a link has its seat, as it is said. -/
import Derived.Test.YtdljpokhcfhhfaaGreatDoorSeatRanks
import Derived.Test.YtdljpokhcfhhfaaGreatDoorErC
import Derived.Test.YtdljpokhcfhhfaaGreatDoorOpenB
import Derived.Test.YtdljpokhcfhhfaaGreatDoorTie
import Derived.Test.YtdljpokhcfhhfaaGreatDoorCards
import Derived.ProofKit
import Derived.OpenShut
import Derived.LaidMore
import Derived.Lay
import Derived.ShapedOpen
import Derived.SevenTiedAt
import Derived.Stop.Joined
import Derived.Stop.LaidErr
import Derived.Lib.LaidTab
namespace Go.Proofs.YtdljpokhcfhhfaaGreatDoor.seatRanks
open Go.ChangeShapes Go.WideShapes Go.ChangeAt Go.RowKit
theorem own : ownKnob Tryz.prog.godebug = none := by kernel_rfl
theorem laidOut : laidOutB Tryz.prog = true := by kernel_rfl
set_option maxRecDepth 100000 in
theorem door_met (os : Os) (args : Array Value) : laidMetH Tryz.prog Rows.seatRanksRow.laid ((World.laidAll Tryz.prog os Rows.seatRanksRow.laid).forCall (fun _ _ => 0) ⟨#[], args, []⟩).memory := by
  rw [MakeChecks.laidMetH_plain _ _ _ (by kernel_rfl)]
  exact laidMet_laidAll _ (by kernel_rfl) (by kernel_rfl)
theorem env_of_laid {W : World} (h : laidMetH Tryz.prog Rows.seatRanksRow.laid W) (_hsh : W.ShapedOpen Tryz.prog) : ∃ ads, EnvC ads W := by
  rw [MakeChecks.laidMetH_plain _ _ _ (by kernel_rfl)] at h
  exact envC_of_laid (rest := []) h
set_option maxHeartbeats 800000 in
set_option maxRecDepth 100000 in
theorem lifted (os : Os) (started : os.Started) (H : Type) (enc : TypeId × Value → H) :
    ReturnsInHanded {} Tryz.checked os 5 .any (fun w args => (Rows.seatRanksSpec.pre enc Tryz.prog Tryz.f5 [] false w args ∧ laidMetH Tryz.prog Rows.seatRanksRow.laid w) ∧ sizedMet enc Tryz.prog Tryz.f5 (OpenSpec.ofChange Rows.seatRanksSpec) false w args)
      (Rows.seatRanksSpec.post enc Tryz.prog Tryz.f5 false true false false) := by
  refine rih_and_shaped (C := Tryz.checked) (X := fun w _ => laidMetH Tryz.prog Rows.seatRanksRow.laid w) (fun _ _ _ hh h => h.of_heap hh) own started (by kernel_rfl) Tryz.func5
    (ChangeSpec.witness_shaped (enc := enc) (C := Tryz.checked) (os := os) (X := fun w _ => laidMetH Tryz.prog Rows.seatRanksRow.laid w) false (World.laidAll Tryz.prog os Rows.seatRanksRow.laid) #[.slice none 0 0] 8 (World.laidAll_os _ _ _) (World.shaped_of_ZipB (by kernel_rfl) (by kernel_rfl)) (by kernel_rfl) (by kernel_rfl) (by kernel_rfl) (door_met os _)) ?_
  intro W base args ds gs before hval0 hW _ _ hL hsh
  have hval : ∀ (j : Nat) t v, Tryz.f5.params[j]? = some t → args[j]? = some v → Value.okWide Tryz.prog W .any base t v := hval0
  have hW' := hW
  obtain ⟨p, q, hA0, hV, rfl, _, _⟩ := hW
  have hA : DataW.TrodAll enc Tryz.prog W 0 (fun _ => true) true Tryz.f5.params.toList args.toList ds p := hA0
  rw [Tryz.params5] at hA hval
  obtain ⟨v0, vs0, d0, ds0, p0, q0, hargs, rfl, rfl, r0, t0⟩ := trodAll_cons hA
  obtain ⟨rfl, rfl, rfl⟩ := trodAll_nil t0
  obtain rfl : args = #[v0] := by cases args; simp_all
  obtain ⟨rfl, rfl⟩ := trodVars_none hV
  obtain ⟨A0, n0, c0, rfl⟩ := okWide_slice Tryz.underlying52 (hval 0 52 v0 rfl rfl)
  have hT := env_of_laid hL hsh
  obtain ⟨ads, hE⟩ := hT
  clear hA0 hval0
  simp only [List.append_nil] at hW'
  have hlt : ∀ x ∈ p0, x.block < W.heap.size := fun x hx => by simpa using hW'.lt x hx
  have harg0 : ∀ W', Below W.heap.size W W' → DataW.Trod enc Tryz.prog W' 0 (fun b => decide (b < W.heap.size)) true 52 _ d0 p0 := fun W' hb =>
    Below.trod laidOut (by kernel_rfl) (of_decide_eq_true (by kernel_rfl)) r0 hb (fun x hx => hlt x hx)
  obtain ⟨xs0, h0, hw0, hc0⟩ := opened_jr r0
  refine (law_sranks ads A0 n0 c0 xs0 W hE h0 hw0).mono fun e W' ⟨he, hb⟩ => ?_
  subst he
  exact ⟨_, rfl, _, _, _, [], (p0 ++ []), [], hW', trodAll_mk1 (shut_bool Tryz.underlying4 _), (trodAll_cons_mk (harg0 W' hb) trodAll_mk0), rfl, hb.frame _, fun h => by cases h⟩
set_option maxHeartbeats 8000000 in
theorem closed : joinedFacts Tryz.checked.prog 5 Tryz.f5 Rows.seatRanksSpec Rows.seatRanksRow = true := by
  unfold joinedFacts
  simp only [Bool.and_eq_true]
  repeat' apply And.intro
  all_goals as_aux_lemma => kernel_rfl
theorem over : Rows.seatRanksRow.holds Tryz.pinned (OpenSpec.ofChange Rows.seatRanksSpec) :=
  OpenClaim.holds_of_wide 5 Tryz.f5 rfl rfl rfl rfl rfl rfl rfl ⟨rfl, rfl, rfl, rfl, rfl⟩ rfl rfl rfl rfl rfl (by kernel_rfl) Tryz.func5 closed
    (of_decide_eq_true (by kernel_rfl)) (by unfold Func.isWrapper; first | (rw [if_pos (by decide +kernel)]; kernel_rfl) | (rw [if_neg (by decide +kernel)]; exact ⟨rfl, rfl⟩))
    (fun os started H enc _ => lifted os started H enc)
theorem p_main : Tryz.pinned.checked.prog.mainIs = some (Rows.seatRanksCard.stood.harness.fst, Rows.seatRanksCard.stood.harness.snd.toList) := by kernel_rfl
theorem p_fn : Tryz.prog.funcNamed "rivulet/rivuletlaw12.SeatRanks" = some 5 := by kernel_rfl
theorem p_look : Rows.seatRanksCard.stood.looks = Tryz.pinned.checked.prog.looks [] := by kernel_rfl
theorem p_goes : false = Rows.seatRanksRow.goesBy Tryz.pinned.checked.prog := by kernel_rfl
theorem p_wf : OpenClaim.wfByText (OpenSpec.ofChange Rows.seatRanksSpec) Rows.seatRanksRow = true := by kernel_rfl
theorem p_w0 : Tryz.prog.wantsStandIn 52 = false := by kernel_rfl
theorem p_all (t : TypeId) (h : t ∈ [52]) : Tryz.prog.wantsStandIn t = false := by
  simp only [List.mem_cons, List.not_mem_nil, or_false] at h
  rcases h with rfl
  · exact p_w0
theorem proved : Rows.SeatRanksCardSaid :=
  Claim7.holds_tied_plain_at .later [] Rows.seatRanksCard.laidKinds true Rows.seatRanksCard.stood.harness Rows.seatRanksCard.stood.looks
    over (fun _ h => by cases h) p_wf (fun _ h => by cases h) seatRanks_row_tie rfl ⟨rfl, rfl⟩ p_main rfl
    (fun f fn hf hfn => by
      obtain rfl : f = 5 := Option.some.inj (p_fn.symm.trans hf) |>.symm
      obtain rfl : fn = Tryz.f5 := (Option.some.inj (Tryz.func5.symm.trans hfn)).symm
      exact ⟨p_look, fun j t ht => by
        rw [Tryz.params5] at ht
        have hm : t ∈ [52] := by simpa using Array.mem_of_getElem? ht
        exact p_all t hm⟩)
    p_goes
#print axioms proved
end Go.Proofs.YtdljpokhcfhhfaaGreatDoor.seatRanks

