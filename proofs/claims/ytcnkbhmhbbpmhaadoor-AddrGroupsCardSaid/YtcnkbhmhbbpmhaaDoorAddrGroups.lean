/- AddrGroups: for every address the law returns true. -/
import Derived.Test.YtcnkbhmhbbpmhaaDoorBackP
import Derived.Test.YtcnkbhmhbbpmhaaDoorRef
namespace Go.Proofs.YtcnkbhmhbbpmhaaDoor
open Go.RowKit
theorem itoa_small (n : Int) (d : Nat) (h : n = (d : Int)) (hd : d < 10) : Lib.itoa n = [UInt8.ofNat (48 + d)] := by
  subst h
  rw [Ad.itoa_nat (Int.natCast_nonneg d), Int.toNat_natCast, Lib.decDigits_one hd]
theorem groups_text : Ad.pfx 3758096384 4 = ⟨#[50, 50, 52, 46, 48, 46, 48, 46, 48, 47, 52]⟩ := by
  have e0 : Lib.itoa (Ad.b0 3758096384) = [50, 50, 52] := by
    show Lib.itoa 224 = _
    rw [Ad.itoa_nat (by decide)]
    show Lib.decDigits 224 = _
    rw [Ad.dec_step (by decide), Ad.dec_step (by decide), Lib.decDigits_one (by decide)]; rfl
  have e1 : Lib.itoa (Ad.b1 3758096384) = [48] := itoa_small 0 0 rfl (by decide)
  have e2 : Lib.itoa (Ad.b2 3758096384) = [48] := itoa_small 0 0 rfl (by decide)
  have e3 : Lib.itoa (Ad.b3 3758096384) = [48] := itoa_small 0 0 rfl (by decide)
  have e4 : Lib.itoa 4 = [52] := itoa_small 4 4 rfl (by decide)
  unfold Ad.pfx Ad.pfxL
  rw [Ad.textL_eq, e0, e1, e2, e3, e4]
  rfl
theorem groups_pref : Ad.pref ⟨#[50, 50, 52, 46, 48, 46, 48, 46, 48, 47, 52]⟩ = some (3758096384, 4) := by
  rw [← groups_text, Ad.pref_pfx (by decide) (by decide) (by decide) (by decide), if_pos (by decide +kernel)]
theorem group_isIn (a : Int) : Ad.isIn 3758096384 4 a = Ad.group a := by
  unfold Ad.isIn Ad.group
  have e : Ad.valid 3758096384 4 = true := by decide +kernel
  have e2 : Ad.fr 4 = 28 := rfl
  rw [e, e2, Bool.true_and, Bool.eq_iff_iff]
  simp
  omega
set_option maxRecDepth 100000 in
set_option maxHeartbeats 4000000 in
theorem law_groups (a : Int) (T : TypeId) (A : Addr) (w : World) (hT : EnvT w) (hE : EnvP (.iface T (.pointer (some A))) w) (a0 : 0 ≤ a) (a1 : a ≤ 4294967295) :
    Calls Tryd.prog 8 #[.int .u32 a] w fun e w' => e = .returned (.bool true) ∧ Below w.heap.size w w' := by
  have HF := Lib.hid (first_any w hT)
  have HPp := Lib.hid (fun W h => pref_any ⟨#[50, 50, 52, 46, 48, 46, 48, 46, 48, 47, 52]⟩ T A W (by decide) h)
  rw [groups_pref] at HPp
  have HE := Lib.hid hE
  clear hT hE
  have HI := Lib.hid (fun W => (in_any 3758096384 4 a W (by decide) (by decide) a0 a1))
  rw [group_isIn a] at HI
  have HG := Lib.hid (fun W => group_any a W a0 a1)
  have HV := Lib.hid (fun W => rvalid_any 3758096384 4 W (by decide) (by decide))
  rw [show Ad.valid 3758096384 4 = true by decide +kernel] at HV
  obtain ⟨g, hg, hcases⟩ : ∃ g : Bool, Ad.group a = g ∧ ((g = true ∧ 3758096384 ≤ a ∧ a < 4026531840) ∨ (g = false ∧ (a < 3758096384 ∨ 4026531840 ≤ a))) := by
    refine ⟨_, rfl, ?_⟩
    unfold Ad.group
    by_cases h : a / 268435456 = 14
    · exact .inl ⟨by simp [h], by omega⟩
    · exact .inr ⟨by simp [h], by omega⟩
  rw [hg] at HI HG
  clear hg
  obtain ⟨rfl, h1⟩ | ⟨h1, hc⟩ : (g = false ∧ a < 3758096384) ∨ (3758096384 ≤ a ∧ ((g = true ∧ decide (a < 4026531840) = true) ∨ (g = false ∧ decide (a < 4026531840) = false))) := by
    rcases hcases with ⟨h, h1, h2⟩ | ⟨h, h1 | h1⟩
    · exact .inr ⟨h1, .inl ⟨h, by simpa using h2⟩⟩
    · exact .inl ⟨h, h1⟩
    · exact .inr ⟨by omega, .inr ⟨h, by simpa using h1⟩⟩
  · have hd : decide (3758096384 ≤ a) = false := by simp; omega
    go_enter Tryd.func8, Tryd.ntmps8
    go_wp2_with (first
      | (go_at_call 9; refine HF.out.mono ?_; rintro e w1 ⟨rfl, hb1⟩
         have HB1 := Lib.hid hb1
         clear hb1)
      | (go_at_call 12; refine (HPp.out _ (HE.out.below HB1.out)).mono ?_; rintro e w2 ⟨rfl, hb2⟩
         have hw2 := HB1.out.trans (hb2.mono HB1.out.size)
         have HB2 := Lib.hid hw2
         clear hb2 hw2
         simp only [prefV]))
    have hq := two_new (w := w2) w2.heap.size (.int .u32 3758096384) (.int .i64 4) 25 rfl
    first
    | go_region_with (first
        | (go_at_call 27; refine (HG.out _).mono ?_; rintro e w3 ⟨rfl, rfl⟩)
        | (go_at_call 23; refine (HI.out _).mono ?_; rintro e w3 ⟨rfl, hb3⟩
           obtain ⟨hc0, hc1, hc2, hc3⟩ := two_next hq hb3
           clear hb3)
        | (go_at_call 22; refine (HV.out _).mono ?_; rintro e w4 ⟨rfl, hb4⟩))
    | fail
    all_goals
      go_wp2
      go_ret
      exact ⟨rfl, HB2.out.trans ((hc3.trans (hb4.mono (Nat.le_of_lt hc2))).mono HB2.out.size)⟩
  rcases hc with ⟨rfl, hd2⟩ | ⟨rfl, hd2⟩
  all_goals
    have hd1 : decide (3758096384 ≤ a) = true := by simp; omega
    go_enter Tryd.func8, Tryd.ntmps8
    go_wp2_with (first
      | (go_at_call 9; refine HF.out.mono ?_; rintro e w1 ⟨rfl, hb1⟩
         have HB1 := Lib.hid hb1
         clear hb1)
      | (go_at_call 12; refine (HPp.out _ (HE.out.below HB1.out)).mono ?_; rintro e w2 ⟨rfl, hb2⟩
         have hw2 := HB1.out.trans (hb2.mono HB1.out.size)
         have HB2 := Lib.hid hw2
         clear hb2 hw2
         simp only [prefV]))
    go_region_held3 (fun w' => w'.cell? ⟨w2.heap.size, 0, none⟩ = some (.int .u32 3758096384) ∧ w'.cell? ⟨w2.heap.size, 1, none⟩ = some (.int .i64 4) ∧ w2.heap.size < w'.heap.size ∧ Below w2.heap.size w2 w')
        (first | exact two_new _ _ _ _ rfl | exact two_next (by assumption) (by assumption) | assumption)
        (first
        | (go_at_call 27; refine (HG.out _).mono ?_; rintro e w3 ⟨rfl, rfl⟩)
        | (go_at_call 23; refine (HI.out _).mono ?_; rintro e w3 ⟨rfl, hb3⟩)
        | (go_at_call 22; refine (HV.out _).mono ?_; rintro e w3 ⟨rfl, hb3⟩))
    go_wp2
    go_ret
    rename_i hS
    exact ⟨rfl, HB2.out.trans (hS.2.2.2.mono HB2.out.size)⟩
end Go.Proofs.YtcnkbhmhbbpmhaaDoor
