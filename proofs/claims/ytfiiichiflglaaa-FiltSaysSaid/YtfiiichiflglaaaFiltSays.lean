/- P14.1: what a link listens to, whether it lets any source, whether each member admits it, the keys that it wants, are what the document says; walked. -/
import Derived.Test.YtfiiichiflglaaaFs
import Derived.Test.YtfiiichiflglaaaFiltOnes
namespace Go.Proofs.Ytfiiichiflglaaa
open Go.ChangeShapes Go.WideShapes Go.ChangeAt Go.RowKit Sm Go.Maps
set_option maxRecDepth 100000 in
set_option maxHeartbeats 8000000 in
theorem law_says (A : Option Addr) (n c : Nat) (ms : List Mb) (bf : Bool) (Af : Option Addr) (nf cf : Nat) (fs : List Int) (a g : Int) (w : World) (h : MR w A n ms) (hn : n ≤ 9223372036854775807) (hf : AR w Af nf fs) (hnf : nf ≤ 9223372036854775807) :
    Calls Try.prog 3 #[.slice A n c, .agg #[.bool bf, .slice Af nf cf], .int .u32 a, .int .u32 g] w fun e w' => e = .returned (.bool true) ∧ Below w.heap.size w w' := by
  have hb0 := (Below.refl w.heap.size w).alloc (Nat.le_refl _) (.cells #[.bool bf, .slice Af nf cf] 25)
  have hk0 := Blk.new w 25 #[.bool bf, .slice Af nf cf]
  have hf0 := hf.next hb0
  have hM0 := h.next hb0
  clear hf h
  go_enter Try.func3, Try.ntmps3
  go_upto_region 1 with fail
  generalize w.alloc (.cells #[.bool bf, .slice Af nf cf] 25) = w0 at *
  have hz0 := hb0.size
  generalize hN : w.heap.size = N at *
  go_upto_region 4 with (go_at_call 8; (with_reducible refine (first14_any w0).mono ?_); rintro e w1 ⟨rfl, hb1⟩)
  have HM := Lib.hid (hM0.next hb1)
  have HF := Lib.hid (hf0.next hb1)
  have HK := Lib.hid (hk0.next hb1)
  have HB := Lib.hid (hb0.trans (hb1.mono hz0))
  have HZ : Hid (N ≤ w1.heap.size) := Lib.hid (Nat.le_trans hz0 hb1.size)
  clear hb1 hM0 hf0 hk0 hb0 hz0
  have z1 : w1.cell? ⟨N, 1, none⟩ = some (.slice Af nf cf) := HK.out.cell 1
  have HLT := Lib.hid (light_any A n c ms w1 HM.out hn)
  cases hl : ltP ms with
  | false =>
    rw [hl] at HLT
    go_wp2_with (go_at_call 9; (with_reducible refine HLT.out.mono ?_); rintro e w2 ⟨rfl, rfl⟩)
    go_ret
    exact ⟨rfl, by rw [hN]; exact HB.out⟩
  | true =>
    rw [hl] at HLT
    obtain ⟨hn12, hms⟩ := all_small HM.out hl
    by_cases h12 : 12 < nf
    · have d12 : decide ((12 : Int) < (nf : Int)) = true := by simp; omega
      go_wp2_with (go_at_call 9; (with_reducible refine HLT.out.mono ?_); rintro e w2 ⟨rfl, rfl⟩)
      go_ret
      exact ⟨rfl, by rw [hN]; exact HB.out⟩
    have d12 : decide ((12 : Int) < (nf : Int)) = false := by simp; omega
    go_upto_region 6 with (go_at_call 9; (with_reducible refine HLT.out.mono ?_); rintro e w2 ⟨rfl, rfl⟩)
    clear HLT hl hn hnf d12 z1
    have HO := Lib.hid (of_any' A n c ms w1 HM.out (by omega) (fun m hm => by have := hms m hm; omega))
    have HS : Hid ((ofL ms).length ≤ 1000) := Lib.hid (of_small (by rw [HM.out.r.len]; exact hn12) (fun m hm => by rw [(HM.out.a m hm).len]; exact hms m hm))
    have HMS := Lib.hid hms
    clear hms
    obtain ⟨b, hb⟩ : ∃ b, anyM ms = b := ⟨_, rfl⟩
    obtain ⟨xs, hxs⟩ : ∃ xs, ofL ms = xs := ⟨_, rfl⟩
    have HBX := Lib.hid (And.intro hb hxs)
    rw [hb, hxs] at HO
    rw [hxs] at HS
    clear hb hxs
    go_upto_region 7 with (go_at_call 10; (with_reducible refine HO.out.mono ?_); rintro e w6 ⟨A8, c8, rfl, har8, hb6⟩)
    have hba := (Below.refl w6.heap.size w6).alloc (Nat.le_refl _) (.cells #[.bool b, .slice A8 xs.length c8] 25)
    have hb67 := hb6.trans (hba.mono hb6.size)
    have K8 := Lib.hid (Blk.new w6 25 #[.bool b, .slice A8 xs.length c8])
    have R8 := Lib.hid (har8.next hba)
    replace HM := Lib.hid (HM.out.next hb67)
    replace HF := Lib.hid (HF.out.next hb67)
    replace HK := Lib.hid (HK.out.next hb67)
    replace HB := Lib.hid (HB.out.trans (hb67.mono HZ.out))
    replace HZ := Lib.hid (Nat.le_trans HZ.out hb67.size)
    clear hb6 hba hb67 HO har8
    generalize w6.alloc (.cells #[.bool b, .slice A8 xs.length c8] 25) = w7 at *
    generalize w6.heap.size = N8 at *
    clear w6
    have HFd := Lib.hid (filtered_any A n c ms w7 HM.out (by omega) (fun m hm => by have := HMS.out m hm; omega))
    rw [HBX.out.1, HBX.out.2] at HFd
    go_upto_region 8 with (go_at_call 11; (with_reducible refine HFd.out.mono ?_); rintro e w6 ⟨A9, c9, rfl, har9, hb6⟩)
    have hba := (Below.refl w6.heap.size w6).alloc (Nat.le_refl _) (.cells #[.bool b, .slice A9 xs.length c9] 31)
    have hb67 := hb6.trans (hba.mono hb6.size)
    have K9 := Lib.hid (Blk.new w6 31 #[.bool b, .slice A9 xs.length c9])
    have R9 := Lib.hid (har9.next hba)
    replace HM := Lib.hid (HM.out.next hb67)
    replace HF := Lib.hid (HF.out.next hb67)
    replace HK := Lib.hid (HK.out.next hb67)
    replace K8 := Lib.hid (K8.out.next hb67)
    replace R8 := Lib.hid (R8.out.next hb67)
    replace HB := Lib.hid (HB.out.trans (hb67.mono HZ.out))
    replace HZ := Lib.hid (Nat.le_trans HZ.out hb67.size)
    clear hb6 hba hb67 HFd har9 w7
    generalize w6.alloc (.cells #[.bool b, .slice A9 xs.length c9] 31) = w7 at *
    generalize w6.heap.size = N9 at *
    clear w6
    have hxl := HS.out
    -- region 8
    have KP : Hid (∀ p : Snc w7, (p.W.cell? ⟨N8, 0, none⟩ = some (.bool b) ∧ p.W.cell? ⟨N8, 1, none⟩ = some (.slice A8 xs.length c8)) ∧ (p.W.cell? ⟨N9, 0, none⟩ = some (.bool b) ∧ p.W.cell? ⟨N9, 1, none⟩ = some (.slice A9 xs.length c9)) ∧ (p.W.cell? ⟨N, 0, none⟩ = some (.bool bf) ∧ p.W.cell? ⟨N, 1, none⟩ = some (.slice Af nf cf))) := Lib.hid fun p =>
      ⟨⟨(K8.out.next p.b).cell 0, (K8.out.next p.b).cell 1⟩, ⟨(K9.out.next p.b).cell 0, (K9.out.next p.b).cell 1⟩, ⟨(HK.out.next p.b).cell 0, (HK.out.next p.b).cell 1⟩⟩
    have k80 := fun p => (KP.out p).1.1
    have k81 := fun p => (KP.out p).1.2
    have k90 := fun p => (KP.out p).2.1.1
    have k91 := fun p => (KP.out p).2.1.2
    have kf0 := fun p => (KP.out p).2.2.1
    have kf1 := fun p => (KP.out p).2.2.2
    obtain ⟨V, hV⟩ : ∃ V, fs.contains a = V := ⟨_, rfl⟩
    have G1 : ∀ p : Snc w7, Calls Try.prog 12 #[.slice A8 xs.length c8, .slice A9 xs.length c9] p.W fun e w' => e = .returned (.bool true) ∧ ∃ Q : Snc w7, w' = Q.W := fun p => Calls.since ((sameA_any A8 A9 xs.length xs.length c8 c9 xs xs p.W (R8.out.next p.b) (R9.out.next p.b) (by omega) (by omega)).mono fun e w' h => ⟨by rw [h.1]; simp, h.2⟩)
    have G2 : ∀ p : Snc w7, Calls Try.prog 13 #[.agg #[.bool bf, .slice Af nf cf], .int .u32 a] p.W fun e w' => e = .returned (.bool (V != bf)) ∧ ∃ Q : Snc w7, w' = Q.W := fun p => Calls.since ((lets_any bf Af nf cf fs a p.W (HF.out.next p.b) (by omega)).mono fun e w' h => ⟨by rw [h.1, hV], h.2⟩)
    have G3 : ∀ p : Snc w7, Calls Try.prog 14 #[.slice Af nf cf, .int .u32 a] p.W fun e w' => e = .returned (.bool V) ∧ ∃ Q : Snc w7, w' = Q.W := fun p => Calls.since ((hasA_any Af nf cf fs a p.W (HF.out.next p.b) (by omega)).mono fun e w' h => ⟨by rw [h.1, hV], h.2⟩)
    clear hV KP
    go_cut [56] from 31 to 56 (fun s56 wc => s56 = .bool false ∧ Hid (Below w7.heap.size w7 wc))
    case first =>
      cases V <;> cases bf <;> cases b
      all_goals
        refine wp_region_since (by kernel_rfl) (by kernel_rfl) ?_
        repeat (go_big_quiet_step (first | (go_at_call 12; with_reducible exact G1 _) | (go_at_call 13; with_reducible exact G2 _) | (go_at_call 14; with_reducible exact G3 _)))
        refine wpQuiet_nil ?_
        rintro w5 ⟨P5, rfl⟩
        have HP5 := Lib.hid P5.b
        clear G1 G2 G3 k80 k81 k90 k91 kf0 kf1
        go_wp2_with fail
        go_meet
        case rel => exact ⟨rfl, HP5⟩
    case rest =>
      clear G1 G2 G3 k80 k81 k90 k91 kf0 kf1
      obtain ⟨rfl, HP⟩ := hcut
      go_wp2
      go_loopw [12] (fun iv wr => ∃ k : Nat, k ≤ n ∧ iv = .int .i64 (k : Int) ∧ Hid (Below w7.heap.size w7 wr)) (fun iv _ => n - (intOf iv).toNat)
      case atStart => exact ⟨0, Nat.zero_le _, rfl, HP⟩
      case round =>
        clear HP
        obtain ⟨k, hk, rfl, HP⟩ := hrel
        rcases Nat.lt_or_ge k n with hlt | hge
        · obtain ⟨b5, o5, ⟨l1, g1, o1, A1, n1, c1, ys1⟩, hA, hb5, hm, hr, k0, k1, k2, k3⟩ := (HM.out.next HP.out).cell hlt
          have hn1 : n1 ≤ 10 := HMS.out _ (List.mem_of_getElem? hm)
          have hi0 : (k : Int) < (n : Int) := by omega
          have hi1 : (0 : Int) ≤ (k : Int) := by omega
          obtain ⟨U, hU⟩ : ∃ U, (ys1.contains a == o1) = U := ⟨_, rfl⟩
          have q0 : ∀ p : Snc wr, p.W.cell? ⟨b5, o5 + k * 4, none⟩ = some (.int .i64 l1) := fun p => (p.b.cell (p := ⟨b5, o5 + k * 4, none⟩) hb5).trans k0
          have q1 : ∀ p : Snc wr, p.W.cell? ⟨b5, o5 + k * 4 + 1, none⟩ = some (.int .u32 g1) := fun p => (p.b.cell (p := ⟨b5, o5 + k * 4 + 1, none⟩) hb5).trans k1
          have q2 : ∀ p : Snc wr, p.W.cell? ⟨b5, o5 + k * 4 + 2, none⟩ = some (.bool o1) := fun p => (p.b.cell (p := ⟨b5, o5 + k * 4 + 2, none⟩) hb5).trans k2
          have q3 : ∀ p : Snc wr, p.W.cell? ⟨b5, o5 + k * 4 + 3, none⟩ = some (.slice A1 n1 c1) := fun p => (p.b.cell (p := ⟨b5, o5 + k * 4 + 3, none⟩) hb5).trans k3
          have G1 : ∀ p : Snc wr, Calls Try.prog 15 #[.agg #[.int .i64 l1, .int .u32 g1, .bool o1, .slice A1 n1 c1], .int .u32 a] p.W fun e w' => e = .returned (.bool U) ∧ ∃ Q : Snc wr, w' = Q.W := fun p => Calls.since ((admits_any l1 g1 o1 A1 n1 c1 ys1 a p.W (hr.next p.b) (by omega)).mono fun e w' h => ⟨by rw [h.1, hU], h.2⟩)
          have G2 : ∀ p : Snc wr, Calls Try.prog 16 #[.agg #[.int .i64 l1, .int .u32 g1, .bool o1, .slice A1 n1 c1], .int .u32 a] p.W fun e w' => e = .returned (.bool U) ∧ ∃ Q : Snc wr, w' = Q.W := fun p => Calls.since ((radmits_any l1 g1 o1 A1 n1 c1 ys1 a p.W (hr.next p.b) (by omega)).mono fun e w' h => ⟨by rw [h.1, hU], h.2⟩)
          clear k0 k1 k2 k3 hm hr hU
          subst hA
          cases U
          all_goals
            go_upto_region 13 with fail
            refine wp_region_since (by kernel_rfl) (by kernel_rfl) ?_
            repeat (go_big_quiet_step (first | (go_at_call 15; with_reducible exact G1 _) | (go_at_call 16; with_reducible exact G2 _)))
            refine wpQuiet_nil ?_
            rintro w5 ⟨P5, rfl⟩
            have HP5 := Lib.hid (HP.out.trans (P5.b.mono HP.out.size))
            clear q0 q1 q2 q3 G1 G2 HP
            generalize P5.W = W5 at *
            go_wp2
            go_roundw
            case rel => exact ⟨k + 1, by omega, by go_num, HP5⟩
            case measure => simp [intOf]; omega
        · have q1 : ¬ (k : Int) < (n : Int) := by omega
          replace HF := Lib.hid (HF.out.next HP.out)
          replace HK := Lib.hid (HK.out.next HP.out)
          replace K8 := Lib.hid (K8.out.next HP.out)
          replace R8 := Lib.hid (R8.out.next HP.out)
          replace HB := Lib.hid (HB.out.trans (HP.out.mono HZ.out))
          replace HZ : Hid (N ≤ wr.heap.size) := Lib.hid (Nat.le_trans HZ.out HP.out.size)
          have hkl : (keysL bf fs g).length ≤ 1000 := by
            have := HF.out.len
            unfold keysL
            cases bf with
            | true => simp
            | false => simp; have := grp_len fs; omega
          have HK1 := Lib.hid fun W (hW : Below wr.heap.size wr W) => keys_any bf Af nf cf fs g W (HF.out.next hW) (by omega)
          have HK2 := Lib.hid fun W (hW : Below wr.heap.size wr W) => fkeys_any bf Af nf cf fs g W (HF.out.next hW) (by omega)
          generalize keysL bf fs g = ks at *
          have kf0 : wr.cell? ⟨N, 0, none⟩ = some (.bool bf) := HK.out.cell 0
          have kf1 : wr.cell? ⟨N, 1, none⟩ = some (.slice Af nf cf) := HK.out.cell 1
          clear HP
          go_upto_region 16 with (go_at_call 17; (with_reducible refine (HK1.out wr (Below.refl _ _)).mono ?_); rintro e w8 ⟨A10, c10, rfl, hr10, hb8⟩)
          clear kf0 kf1 q1 HK1
          have kf0 : w8.cell? ⟨N, 0, none⟩ = some (.bool bf) := (HK.out.next hb8).cell 0
          have kf1 : w8.cell? ⟨N, 1, none⟩ = some (.slice Af nf cf) := (HK.out.next hb8).cell 1
          have HB8 := Lib.hid hb8
          have HR10 := Lib.hid hr10
          clear hb8 hr10
          go_upto_region 17 with (go_at_call 18; (with_reducible refine (HK2.out w8 HB8.out).mono ?_); rintro e w9 ⟨A11, c11, rfl, hr11, hb9⟩)
          have HB9 := Lib.hid (HB8.out.trans (hb9.mono HB8.out.size))
          replace HR10 := Lib.hid (HR10.out.next hb9)
          have HR11 := Lib.hid hr11
          clear kf0 kf1 hb9 hr11 HK2 HB8
          have KP : Hid (∀ p : Snc w9, (p.W.cell? ⟨N8, 0, none⟩ = some (.bool b) ∧ p.W.cell? ⟨N8, 1, none⟩ = some (.slice A8 xs.length c8)) ∧ (p.W.cell? ⟨N, 0, none⟩ = some (.bool bf) ∧ p.W.cell? ⟨N, 1, none⟩ = some (.slice Af nf cf))) := Lib.hid fun p =>
            ⟨⟨((K8.out.next HB9.out).next p.b).cell 0, ((K8.out.next HB9.out).next p.b).cell 1⟩, ⟨((HK.out.next HB9.out).next p.b).cell 0, ((HK.out.next HB9.out).next p.b).cell 1⟩⟩
          have k80 := fun p => (KP.out p).1.1
          have k81 := fun p => (KP.out p).1.2
          have kf0 := fun p => (KP.out p).2.1
          have kf1 := fun p => (KP.out p).2.2
          obtain ⟨D, hD⟩ : ∃ D, decide (fs = xs) = D := ⟨_, rfl⟩
          have G1 : ∀ p : Snc w9, Calls Try.prog 19 #[.slice A10 ks.length c10, .slice A11 ks.length c11] p.W fun e w' => e = .returned (.bool true) ∧ ∃ Q : Snc w9, w' = Q.W := fun p => Calls.since (skeys_any A10 A11 ks.length c10 c11 ks p.W (HR10.out.next p.b) (HR11.out.next p.b) (by omega))
          have G2 : ∀ p : Snc w9, Calls Try.prog 20 #[.agg #[.bool bf, .slice Af nf cf], .agg #[.bool bf, .slice Af nf cf]] p.W fun e w' => e = .returned (.bool true) ∧ ∃ Q : Snc w9, w' = Q.W := fun p => Calls.since ((fsame_any bf bf Af Af nf cf nf cf fs fs p.W ((HF.out.next HB9.out).next p.b) ((HF.out.next HB9.out).next p.b) (by omega) (by omega)).mono fun e w' h => ⟨by rw [h.1]; simp, h.2⟩)
          have G3 : ∀ p : Snc w9, Calls Try.prog 20 #[.agg #[.bool bf, .slice Af nf cf], .agg #[.bool b, .slice A8 xs.length c8]] p.W fun e w' => e = .returned (.bool (bf == b && D)) ∧ ∃ Q : Snc w9, w' = Q.W := fun p => Calls.since ((fsame_any bf b Af A8 nf cf xs.length c8 fs xs p.W ((HF.out.next HB9.out).next p.b) ((R8.out.next HB9.out).next p.b) (by omega) (by omega)).mono fun e w' h => ⟨by rw [h.1, hD], h.2⟩)
          have G4 : ∀ p : Snc w9, Calls Try.prog 12 #[.slice Af nf cf, .slice A8 xs.length c8] p.W fun e w' => e = .returned (.bool D) ∧ ∃ Q : Snc w9, w' = Q.W := fun p => Calls.since ((sameA_any Af A8 nf xs.length cf c8 fs xs p.W ((HF.out.next HB9.out).next p.b) ((R8.out.next HB9.out).next p.b) (by omega) (by omega)).mono fun e w' h => ⟨by rw [h.1, hD], h.2⟩)
          clear KP hD
          cases bf <;> cases b <;> cases D
          all_goals
            refine wp_region_since (by kernel_rfl) (by kernel_rfl) ?_
            repeat (go_big_quiet_step (first | (go_at_call 19; with_reducible exact G1 _) | (go_at_call 20; with_reducible exact G2 _) | (go_at_call 20; with_reducible exact G3 _) | (go_at_call 12; with_reducible exact G4 _)))
            refine wpQuiet_nil ?_
            rintro w5 ⟨P5, rfl⟩
            have HBE := Lib.hid (HB.out.trans ((HB9.out.trans (P5.b.mono HB9.out.size)).mono HZ.out))
            clear G1 G2 G3 G4 k80 k81 kf0 kf1
            go_wp2
            go_ret
            exact ⟨rfl, by rw [hN]; exact HBE.out⟩
end Go.Proofs.Ytfiiichiflglaaa

