/- slices.Sort at addresses, of any length (up to a thousand million): pdqsortOrdered, the recursion; over the seat's program. The sort by insertion, plainly: it sorts; of lists of the same numbers, each once, it makes the same. slices.Sort at addresses, of any length: what it makes is the plain insertion sort's; over the seat's program. -/
import Derived.Test.YtdljpokhcfhhfaaGreatDoorPc
import Derived.Test.YtdljpokhcfhhfaaGreatDoorPd
import Derived.Test.YtdljpokhcfhhfaaGreatDoorPe
import Derived.Test.YtdljpokhcfhhfaaGreatDoorPg
import Derived.Sort.LotD3
import Derived.Deep.Cut
import Derived.Deep.CutRange
import Derived.Sort.LotB
import Derived.Sort.LotA
import Derived.Sort.LotC
import Derived.Test.YtdljpokhcfhhfaaGreatDoorPa
namespace Go.Proofs.YtdljpokhcfhhfaaGreatDoor
open Go.RowKit Sm

/-- where a round of the sort stands -/
structure LI (a b : Nat) (d : Array Int) (a' b' : Nat) (dk : Array Int) : Prop where
  le1 : a ≤ a'
  le2 : b' ≤ b
  bel : Sort.Below Sort.ltInt a' b' dk
  go : ∀ R, Sort.PermIn a' b' dk R → Sort.SortedIn Sort.ltInt a' b' R → Sort.PermIn a b d R ∧ Sort.SortedIn Sort.ltInt a b R
section
variable {a b a' b' pv mid : Nat} {d dk d1 d4 : Array Int} {ap : Bool}
theorem LI.perm (h : LI a b d a' b' dk) (hb : b' ≤ dk.size) (hp : Sort.PermIn a' b' dk d1) : LI a b d a' b' d1 :=
  ⟨h.le1, h.le2, h.bel.perm hb hp, fun R hR hs => h.go R (Sort.permIn_trans _ _ _ _ _ hp hR) hs⟩
theorem LI.eq_ (h : LI a b d a' b' dk) (hb : b' ≤ dk.size) (h0 : 0 < a') (h1 : a' ≤ pv) (h2 : pv < b') (hnl : Sort.ltInt dk[a' - 1]! dk[pv]! = false) (hx : Sort.partitionEqual Sort.ltInt dk a' b' pv = (mid, d4)) :
    a' < mid ∧ mid ≤ b' ∧ LI a b d mid b' d4 := by
  obtain ⟨e1, e2, _, e4, e5⟩ := Sort.round_eq Sort.swo_ltInt (Sort.partitionEqual_holds _) h0 h1 h2 hb h.bel hnl hx
  exact ⟨e1, e2, ⟨by have := h.le1; omega, h.le2, e4, fun R hR hs => h.go R (e5 R hR hs).1 (e5 R hR hs).2⟩⟩
theorem LI.part (h : LI a b d a' b' dk) (hb : b' ≤ dk.size) (h1 : a' ≤ pv) (h2 : pv < b') (hx : Sort.partition Sort.ltInt dk a' b' pv = (mid, ap, d4)) :
    a' ≤ mid ∧ mid < b' ∧ Sort.Below Sort.ltInt a' mid d4 ∧ Sort.Below Sort.ltInt (mid + 1) b' d4 ∧ (∀ L, Sort.PermIn a' mid d4 L → Sort.SortedIn Sort.ltInt a' mid L → LI a b d (mid + 1) b' L) ∧
    (∀ L, Sort.PermIn (mid + 1) b' d4 L → Sort.SortedIn Sort.ltInt (mid + 1) b' L → LI a b d a' mid L) := by
  obtain ⟨e1, e2, _, e4, e5, e6, e7⟩ := Sort.round_part Sort.swo_ltInt (Sort.partition_holds _) h1 h2 hb h.bel hx
  exact ⟨e1, e2, e4, e5, fun L hL hs => ⟨by have := h.le1; omega, h.le2, (e6 L hL hs).1, fun R hR hsR => h.go R ((e6 L hL hs).2 R hR hsR).1 ((e6 L hL hs).2 R hR hsR).2⟩,
    fun L hL hs => ⟨h.le1, by have := h.le2; omega, (e7 L hL hs).1, fun R hR hsR => h.go R ((e7 L hL hs).2 R hR hsR).1 ((e7 L hL hs).2 R hR hsR).2⟩⟩
end
/-- what the sort of a part comes to -/
structure SPost (w : World) (base g n c a b : Nat) (d : Array Int) (e : Ending) (w' : World) : Prop where
  e : e = .returned (.tuple #[])
  h : ∃ d', Sd w base g n c d' w' ∧ Sort.PermIn a b d d' ∧ Sort.SortedIn Sort.ltInt a b d'

set_option maxRecDepth 100000 in
set_option maxHeartbeats 32000000 in
theorem ppdq_any (base g n c : Nat) (hn : n ≤ 1000000000) : ∀ (k a b lim : Nat) (d : Array Int) (w : World), b - a = k → Sd w base g n c d w → a ≤ b → b ≤ n → lim ≤ 100 → Sort.Below Sort.ltInt a b d →
    Calls Tryz.prog 190 #[.slice (some ⟨g, 0, none⟩) n c, .int .i64 (a : Int), .int .i64 (b : Int), .int .i64 (lim : Int)] w (SPost w base g n c a b d) := by
  intro k
  induction k using Nat.strongRecOn with
  | ind k ih =>
  intro a b lim d w hk h hab hbn hlim hbel
  have HIH := Lib.hid ih
  have H0 := Lib.hid h
  have HL0 : Hid (LI a b d a b d) := Lib.hid ⟨Nat.le_refl _, Nat.le_refl _, hbel, fun R h1 h2 => ⟨h1, h2⟩⟩
  have HK := Lib.hid hk
  clear h ih hbel hk
  go_enter Tryz.func190, Tryz.ntmps190
  go_wp2
  go_loopw [1, 2, 3, 8, 9] (fun va vb vl x y wr => ∃ (a' b' lm : Nat) (wb wp : Bool) (dk : Array Int), a' ≤ b' ∧ b' ≤ n ∧ lm ≤ 100 ∧ va = .int .i64 (a' : Int) ∧ vb = .int .i64 (b' : Int) ∧ vl = .int .i64 (lm : Int) ∧ x = .bool wb ∧ y = .bool wp ∧ Hid (LI a b d a' b' dk) ∧ Hid (Sd w base g n c dk wr)) (fun va vb _ _ _ _ => (intOf vb).toNat - (intOf va).toNat)
  case atStart => exact ⟨a, b, lim, true, true, d, hab, hbn, hlim, rfl, rfl, rfl, rfl, rfl, HL0, H0⟩
  case round =>
    clear H0 HL0
    obtain ⟨a', b', lm, wb, wp, dk, hab', hbn', hlm, rfl, rfl, rfl, rfl, rfl, HL, HS⟩ := hrel
    have HK2 : Hid (b - a = k) := HK
    rcases Nat.lt_or_ge (a' + 12) b' with hlen | hlen
    · have r1 : ¬ (b' : Int) - (a' : Int) ≤ 12 := by omega
      rcases Nat.eq_zero_or_pos lm with hl0 | hl0
      · subst hl0
        rw [show ((0 : Nat) : Int) = 0 from rfl]
        have HC := Lib.hid (pheap_any base g n c a' b' dk wr HS.out.again (by omega) hbn' hn)
        have HH := Lib.hid (Sort.heapSort_holds Sort.swo_ltInt dk a' b' (by omega) (by rw [HS.out.size]; exact hbn'))
        go_wp2_with (go_at_call 227; (with_reducible refine HC.out.mono ?_); rintro e w8 ⟨rfl, hs8⟩)
        go_returns
        exact ⟨rfl, _, HS.out.then hs8, HL.out.go _ HH.out.1 HH.out.2⟩
      · have r2 : ((lm : Int) == 0) = false := by simp; omega
        have r3 : ¬ (lm : Int) = 0 := by omega
        go_upto_if 35 with fail
        go_cut [3, 8] from 19 to 133 (fun s3 s8 wc => ∃ (l1 : Nat) (d1 : Array Int), l1 ≤ 100 ∧ s3 = .int .i64 (l1 : Int) ∧ s8 = .bool wb ∧ Hid (LI a b d a' b' d1) ∧ Hid (Sd w base g n c d1 wc))
        case first =>
          cases wb with
          | false =>
            have HC := Lib.hid (pbreak_any base g n c a' b' dk w wr HS.out hbn' hn hlen)
            go_wp2_with (go_at_call 228; (with_reducible refine HC.out.mono ?_); rintro e w1 ⟨rfl, hs1⟩)
            obtain ⟨d1, hd1, hp1⟩ := hs1
            have HS1 := Lib.hid hd1
            have HL1 := Lib.hid (HL.out.perm (by rw [HS.out.size]; exact hbn') hp1)
            go_meet
            case rel => exact ⟨lm - 1, d1, by omega, by go_num, rfl, HL1, HS1⟩
          | true =>
            go_wp2_with fail
            go_meet
            case rel => exact ⟨lm, dk, hlm, rfl, rfl, HL, HS⟩
        case rest =>
          clear HL HS r2 r3 hl0 hlm
          obtain ⟨lm1, d1, hlm, rfl, rfl, HL, HS⟩ := hcut
          generalize lm1 = lm at *
          have HV := Lib.hid (ppivot_any base g n c a' b' d1 w wc HS.out hn hbn' hlen)
          go_upto_if 50 with (go_at_call 229; (with_reducible refine HV.out.mono ?_); rintro e w2 ⟨⟨q, kk, rfl, hq1, hq2, hkk⟩, hb2⟩)
          have HS2 := Lib.hid (HS.out.since hb2)
          clear hb2 HV HS
          generalize wc = wc0 at *
          go_cut [11, 12] from 19 to 133 (fun s11 s12 wc => ∃ (pv h : Nat) (d2 : Array Int), a' ≤ pv ∧ pv < b' ∧ s11 = .int .i64 (pv : Int) ∧ s12 = .int .i64 (h : Int) ∧ Hid (LI a b d a' b' d2) ∧ Hid (Sd w base g n c d2 wc))
          case first =>
            rcases (show kk = 2 ∨ (kk ≠ 2 ∧ kk ≤ 1) by omega) with rfl | ⟨hk2, hk3⟩
            · rw [show ((2 : Nat) : Int) = 2 from rfl]
              have HV2 := Lib.hid (prev_any base g n c a' b' d1 w2 HS2.out.again (by omega) hbn' hn)
              go_wp2_with (go_at_call 230; (with_reducible refine HV2.out.mono ?_); rintro e w3 ⟨rfl, hs3⟩)
              have HS3 := Lib.hid (HS2.out.then hs3)
              have HLr := Lib.hid (HL.out.perm (by rw [HS2.out.size]; exact hbn') (Sort.reverseRange_holds d1 a' b' (by omega) (by rw [HS2.out.size]; exact hbn')))
              go_meet
              case rel => exact ⟨b' - 1 - (q - a'), 1, _, by omega, by omega, by go_num, rfl, HLr, HS3⟩
            · have t1 : ¬ (kk : Int) = 2 := by omega
              have t2 : ((kk : Int) == 2) = false := by simp; omega
              go_wp2_with fail
              go_meet
              case rel => exact ⟨q, kk, d1, hq1, hq2, rfl, rfl, HL, HS2⟩
          case rest =>
            clear HL HS2 hq1 hq2 hkk
            obtain ⟨pv, hh, d2, hpv1, hpv2, rfl, rfl, HL, HS⟩ := hcut
            generalize wc = wd at *
            go_upto_region 15 with fail
            go_cut [68] from 19 to 133 (fun s68 wc => ∃ V : Bool, s68 = .bool V ∧ wc = wd)
            case first =>
              cases wb with
              | false =>
                go_wp2_with fail
                go_meet
                case rel => exact ⟨_, rfl, rfl⟩
              | true =>
                cases wp with
                | false =>
                  go_wp2_with fail
                  go_meet
                  case rel => exact ⟨_, rfl, rfl⟩
                | true =>
                  go_wp2_with fail
                  go_meet
                  case rel => exact ⟨_, rfl, rfl⟩
            case rest =>
              obtain ⟨V, rfl, rfl⟩ := hcut
              go_upto_if 68 with fail
              generalize wc = wd at *
              go_cut [11, 12] from 19 to 133 (fun s11 s12 wc => ∃ (d3 : Array Int), s11 = .int .i64 (pv : Int) ∧ s12 = .int .i64 (hh : Int) ∧ Hid (LI a b d a' b' d3) ∧ Hid (Sd w base g n c d3 wc))
              case first =>
                cases V with
                | false =>
                  go_wp2_with fail
                  go_meet
                  case rel => exact ⟨d2, rfl, rfl, HL, HS⟩
                | true =>
                  obtain ⟨d3, ok, hx⟩ : ∃ d3 ok, Sort.partialInsertionSort Sort.ltInt d2 a' b' = (d3, ok) := ⟨_, _, rfl⟩
                  have HC : Hid (Calls Tryz.prog 231 #[.slice (some ⟨g, 0, none⟩) n c, .int .i64 (a' : Int), .int .i64 (b' : Int)] wd fun e w' => e = .returned (.bool ok) ∧ Sd wd base g n c d3 w') := Lib.hid ((hx ▸ ppartial_any base g n c a' b' d2 wd HS.out.again (by omega) hbn' hn).mono fun e w' h => ⟨h.e, h.s⟩)
                  have hpi := Sort.partialInsertionSort_holds Sort.swo_ltInt d2 a' b' (by omega) (by rw [HS.out.size]; exact hbn') HL.out.bel
                  rw [hx] at hpi
                  have HPI := Lib.hid hpi
                  have HL3 := Lib.hid (HL.out.perm (by rw [HS.out.size]; exact hbn') hpi.1)
                  clear hx hpi
                  cases ok with
                  | true =>
                    go_wp2_with (go_at_call 231; (with_reducible refine HC.out.mono ?_); rintro e w8 ⟨rfl, hs8⟩)
                    go_returns
                    exact ⟨rfl, d3, HS.out.then hs8, HL.out.go d3 HPI.out.1 (HPI.out.2 (by first | rfl | trivial))⟩
                  | false =>
                    go_wp2_with (go_at_call 231; (with_reducible refine HC.out.mono ?_); rintro e w8 ⟨rfl, hs8⟩)
                    have HS8 := Lib.hid (HS.out.then hs8)
                    go_meet
                    case rel => exact ⟨d3, rfl, rfl, HL3, HS8⟩
              case rest =>
                clear HL HS
                obtain ⟨d3, rfl, rfl, HL, HS⟩ := hcut
                generalize wc = we at *
                go_upto_region 17 with fail
                go_cut [87] from 19 to 133 (fun s87 wc => ∃ E : Bool, s87 = .bool E ∧ (E = true → 0 < a' ∧ Sort.ltInt d3[a' - 1]! d3[pv]! = false) ∧ Hid (Sd w base g n c d3 wc))
                case first =>
                  rcases Nat.eq_zero_or_pos a' with ha0 | ha0
                  · have r0 : ¬ (0 : Int) < (a' : Int) := by omega
                    have r01 : decide (0 < a') = false := by simp; omega
                    have r02 : (0 < a') = False := by simp; omega
                    clear ha0
                    refine wp_region_since (by kernel_rfl) (by kernel_rfl) ?_
                    repeat (go_big_quiet_step (fail))
                    refine wpQuiet_nil ?_
                    rintro w7 ⟨P7, rfl⟩
                    have HS7 := Lib.hid (HS.out.since P7.b)
                    clear HS r0 r01 r02
                    generalize P7.W = W7 at *
                    go_wp2_with fail
                    go_meet
                    case rel => exact ⟨false, rfl, (by intro h; cases h), HS7⟩
                  · have r0 : (0 : Int) < (a' : Int) := by omega
                    have r1 : (a' : Int) - 1 < (n : Int) := by omega
                    have r2 : (pv : Int) < (n : Int) := by omega
                    obtain ⟨x, hx'⟩ : ∃ x, d3[a' - 1]! = x := ⟨_, rfl⟩
                    have hx := Lib.hid hx'
                    clear hx'
                    obtain ⟨y, hy'⟩ : ∃ y, d3[pv]! = y := ⟨_, rfl⟩
                    have hy := Lib.hid hy'
                    clear hy'
                    have k0 : ∀ p' : Snc we, p'.W.cell? ⟨g, a' - 1, none⟩ = some (.int .u32 x) := fun p' => by rw [← hx.out]; exact (HS.out.since p'.b).cell (by omega)
                    have k1 : ∀ p' : Snc we, p'.W.cell? ⟨g, pv, none⟩ = some (.int .u32 y) := fun p' => by rw [← hy.out]; exact (HS.out.since p'.b).cell (by omega)
                    cases hV : decide (x < y) with
                    | true =>
                      have R0 := lessV (w0 := we) hV
                      refine wp_region_since (by kernel_rfl) (by kernel_rfl) ?_
                      repeat (go_big_quiet_step ((go_at_call 232; with_reducible exact R0 _)))
                      refine wpQuiet_nil ?_
                      rintro w7 ⟨P7, rfl⟩
                      have HS7 := Lib.hid (HS.out.since P7.b)
                      clear HS k0 k1 R0 hV hx hy r0 r1 r2
                      generalize P7.W = W7 at *
                      go_wp2_with fail
                      go_meet
                      case rel => exact ⟨false, rfl, (by intro h; cases h), HS7⟩
                    | false =>
                      have R0 := lessV (w0 := we) hV
                      have hnl : Sort.ltInt d3[a' - 1]! d3[pv]! = false := by unfold Sort.ltInt; rw [hx.out, hy.out]; exact hV
                      refine wp_region_since (by kernel_rfl) (by kernel_rfl) ?_
                      repeat (go_big_quiet_step ((go_at_call 232; with_reducible exact R0 _)))
                      refine wpQuiet_nil ?_
                      rintro w7 ⟨P7, rfl⟩
                      have HS7 := Lib.hid (HS.out.since P7.b)
                      clear HS k0 k1 R0 hV hx hy r0 r1 r2
                      generalize P7.W = W7 at *
                      go_wp2_with fail
                      go_meet
                      case rel => exact ⟨true, rfl, (fun _ => ⟨ha0, hnl⟩), HS7⟩
                case rest =>
                  clear HS
                  obtain ⟨E, rfl, hE, HS7⟩ := hcut
                  cases E with
                  | false =>
                    clear hE
                    obtain ⟨mid, ap, d4, hx⟩ : ∃ mid ap d4, Sort.partition Sort.ltInt d3 a' b' pv = (mid, ap, d4) := ⟨_, _, _, rfl⟩
                    have HC : Hid (Calls Tryz.prog 234 #[.slice (some ⟨g, 0, none⟩) n c, .int .i64 (a' : Int), .int .i64 (b' : Int), .int .i64 (pv : Int)] wc fun e w' => e = .returned (.tuple #[.int .i64 (mid : Int), .bool ap]) ∧ Sd wc base g n c d4 w') := Lib.hid ((hx ▸ ppart_any base g n c a' b' pv d3 wc HS7.out.again hpv1 hpv2 hbn' hn).mono fun e w' h => ⟨h.e, h.s⟩)
                    have HPT := Lib.hid (HL.out.part (by rw [HS7.out.size]; exact hbn') hpv1 hpv2 hx)
                    have hm1 : a' ≤ mid := HPT.out.1
                    have hm2 : mid < b' := HPT.out.2.1
                    clear hx
                    go_upto_region 21 with (go_at_call 234; (with_reducible refine HC.out.mono ?_); rintro e w8 ⟨rfl, hs8⟩)
                    have HS8 := Lib.hid (HS7.out.then hs8)
                    clear hs8 HC HS7
                    rcases Nat.lt_or_ge (mid - a') (b' - mid) with hlr | hlr
                    · have r1 : (mid : Int) - (a' : Int) < (b' : Int) - (mid : Int) := by omega
                      have HR := Lib.hid (HIH.out (mid - a') (by have := HK.out; have := HL.out.le1; have := HL.out.le2; omega) a' mid lm d4 w8 rfl HS8.out.again hm1 (by omega) hlm HPT.out.2.2.1)
                      go_upto_region 27 with (go_at_call 190; (with_reducible refine HR.out.mono ?_); rintro e w9 ⟨rfl, hs9⟩)
                      obtain ⟨L, hL1, hL2, hL3⟩ := hs9
                      have HS9 := Lib.hid (HS8.out.then hL1)
                      have HL9 := Lib.hid (HPT.out.2.2.2.2.1 L hL2 hL3)
                      clear hL1 hL2 hL3 HR HPT HS8 HL
                      go_wp2
                      go_roundw
                      case rel => exact ⟨mid + 1, b', lm, _, _, L, by omega, hbn', hlm, by go_num, rfl, rfl, rfl, rfl, HL9, HS9⟩
                      case measure => simp [intOf]; omega
                    · have r1 : ¬ (mid : Int) - (a' : Int) < (b' : Int) - (mid : Int) := by omega
                      have HR := Lib.hid (HIH.out (b' - (mid + 1)) (by have := HK.out; have := HL.out.le1; have := HL.out.le2; omega) (mid + 1) b' lm d4 w8 rfl HS8.out.again (by omega) hbn' hlm HPT.out.2.2.2.1)
                      rw [show ((mid + 1 : Nat) : Int) = (mid : Int) + 1 by omega] at HR
                      go_upto_region 30 with (go_at_call 190; (with_reducible refine HR.out.mono ?_); rintro e w9 ⟨rfl, hs9⟩)
                      obtain ⟨L, hL1, hL2, hL3⟩ := hs9
                      have HS9 := Lib.hid (HS8.out.then hL1)
                      have HL9 := Lib.hid (HPT.out.2.2.2.2.2 L hL2 hL3)
                      clear hL1 hL2 hL3 HR HPT HS8 HL
                      go_wp2
                      go_roundw
                      case rel => exact ⟨a', mid, lm, _, _, L, by omega, by omega, hlm, rfl, rfl, rfl, rfl, rfl, HL9, HS9⟩
                      case measure => simp [intOf]; omega
                  | true =>
                    obtain ⟨ha0, hnl⟩ := hE rfl
                    clear hE
                    obtain ⟨mid, d4, hx⟩ : ∃ mid d4, Sort.partitionEqual Sort.ltInt d3 a' b' pv = (mid, d4) := ⟨_, _, rfl⟩
                    have HC : Hid (Calls Tryz.prog 233 #[.slice (some ⟨g, 0, none⟩) n c, .int .i64 (a' : Int), .int .i64 (b' : Int), .int .i64 (pv : Int)] wc fun e w' => e = .returned (.int .i64 (mid : Int)) ∧ Sd wc base g n c d4 w') := Lib.hid ((hx ▸ ppeq_any base g n c a' b' pv d3 wc HS7.out.again hpv1 hpv2 hbn' hn).mono fun e w' h => ⟨h.e, h.s⟩)
                    have HPT := Lib.hid (HL.out.eq_ (by rw [HS7.out.size]; exact hbn') ha0 hpv1 hpv2 hnl hx)
                    have hm1 : a' < mid := HPT.out.1
                    have hm2 : mid ≤ b' := HPT.out.2.1
                    have HL9 := Lib.hid HPT.out.2.2
                    clear hx hnl
                    go_upto_region 19 with (go_at_call 233; (with_reducible refine HC.out.mono ?_); rintro e w8 ⟨rfl, hs8⟩)
                    have HS9 := Lib.hid (HS7.out.then hs8)
                    clear hs8 HC HS7 HPT HL
                    go_wp2
                    go_roundw
                    case rel => exact ⟨mid, b', lm, wb, wp, d4, hm2, hbn', hlm, rfl, rfl, rfl, rfl, rfl, HL9, HS9⟩
                    case measure => simp [intOf]; omega
    · have r1 : (b' : Int) - (a' : Int) ≤ 12 := by omega
      have HC := Lib.hid (pinsert_any base g n c a' b' dk wr HS.out.again hab' hbn' hn)
      have HH := Lib.hid (Sort.insertionSort_holds Sort.swo_ltInt dk a' b' (by omega) (by rw [HS.out.size]; exact hbn'))
      go_wp2_with (go_at_call 226; (with_reducible refine HC.out.mono ?_); rintro e w8 ⟨rfl, hs8⟩)
      go_returns
      exact ⟨rfl, _, HS.out.then hs8, HL.out.go _ HH.out.1 HH.out.2⟩
end Go.Proofs.YtdljpokhcfhhfaaGreatDoor
namespace Go.Proofs.YtdljpokhcfhhfaaGreatDoor
open Go.RowKit Sm
theorem getD_set {xs : List Int} {i k : Nat} {v : Int} (hi : i < xs.length) : (xs.set i v).getD k 0 = if i = k then v else xs.getD k 0 := by
  rw [List.getD_eq_getElem?_getD, List.getElem?_set]
  by_cases h : i = k
  · subst h; simp [hi]
  · simp [h, List.getD_eq_getElem?_getD]
theorem sink_sorts : ∀ (j K : Nat) (xs : List Int), j ≤ K → K < xs.length → (∀ i i', i < i' → i' ≤ K → i ≠ j → i' ≠ j → xs.getD i 0 ≤ xs.getD i' 0) → (∀ i', j < i' → i' ≤ K → xs.getD j 0 ≤ xs.getD i' 0) →
    ∀ i i', i < i' → i' ≤ K → (sinkA xs j).getD i 0 ≤ (sinkA xs j).getD i' 0
  | 0, K, xs, _, _, h1, h2, i, i', hi, hk => by
    unfold sinkA
    by_cases e : i = 0
    · subst e; exact h2 i' hi hk
    · exact h1 i i' hi hk e (by omega)
  | j + 1, K, xs, hj, hK, h1, h2, i, i', hi, hk => by
    unfold sinkA
    split
    · rename_i hlt
      refine sink_sorts j K _ (by omega) (by simpa using hK) ?_ ?_ i i' hi hk
      · intro a b hab hbK ha hb
        rw [getD_set (by simp; omega), getD_set (by omega), getD_set (by simp; omega), getD_set (by omega), if_neg (Ne.symm ha), if_neg (Ne.symm hb)]
        by_cases ea : j + 1 = a
        · rw [if_pos ea, if_neg (by omega)]
          exact h1 j b (by omega) hbK (by omega) (by omega)
        · rw [if_neg ea]
          by_cases eb : j + 1 = b
          · rw [if_pos eb]
            exact h1 a j (by omega) (by omega) (by omega) (by omega)
          · rw [if_neg eb]
            exact h1 a b hab hbK (Ne.symm ea) (Ne.symm eb)
      · intro b hjb hbK
        rw [getD_set (by simp; omega), getD_set (by omega), getD_set (by simp; omega), getD_set (by omega), if_pos rfl, if_neg (show j ≠ b by omega)]
        by_cases eb : j + 1 = b
        · rw [if_pos eb]; omega
        · rw [if_neg eb]
          exact h2 b (by omega) hbK
    · rename_i hge
      by_cases ea : i = j + 1
      · subst ea; exact h2 i' hi hk
      · by_cases eb : i' = j + 1
        · subst eb
          by_cases ec : i = j
          · subst ec; omega
          · have := h1 i j (by omega) (by omega) ea (by omega)
            omega
        · exact h1 i i' hi hk ea eb
theorem ins_sorts (xs : List Int) : ∀ k, k < xs.length → ∀ i i', i < i' → i' ≤ k → (insA xs k).getD i 0 ≤ (insA xs k).getD i' 0
  | 0, _, i, i', hi, hk => by omega
  | k + 1, h, i, i', hi, hk => by
    unfold insA
    refine sink_sorts (k + 1) (k + 1) (insA xs k) (Nat.le_refl _) (by rw [insA_len]; exact h) ?_ ?_ i i' hi hk
    · intro a b hab hb _ hb2
      exact ins_sorts xs k (by omega) a b hab (by omega)
    · intro b h1 h2; omega
theorem sortA_sorts (xs : List Int) : (sortA xs).Pairwise (· ≤ ·) := by
  rw [List.pairwise_iff_getElem]
  intro i j hi hj hij
  have hl : (sortA xs).length = xs.length := by unfold sortA; rw [insA_len]
  have := ins_sorts xs (xs.length - 1) (by omega) i j hij (by omega)
  have e1 : (sortA xs).getD i 0 = (sortA xs)[i] := by simp [List.getD_eq_getElem?_getD, hi]
  have e2 : (sortA xs).getD j 0 = (sortA xs)[j] := by simp [List.getD_eq_getElem?_getD, hj]
  rw [← e1, ← e2]
  exact this
theorem sink_perm : ∀ (j : Nat) (xs : List Int), j < xs.length → (sinkA xs j).Perm xs
  | 0, xs, _ => List.Perm.refl _
  | j + 1, xs, h => by
    unfold sinkA
    split
    · refine (sink_perm j _ (by simp; omega)).trans ?_
      have e1 : xs.getD j 0 = xs[j] := by simp [List.getD_eq_getElem?_getD, show j < xs.length by omega]
      have e2 : xs.getD (j + 1) 0 = xs[j + 1] := by simp [List.getD_eq_getElem?_getD, h]
      rw [e1, e2]
      exact List.set_set_perm h (by omega)
    · exact List.Perm.refl _
theorem ins_perm (xs : List Int) : ∀ k, k < xs.length ∨ k = 0 → (insA xs k).Perm xs
  | 0, _ => List.Perm.refl _
  | k + 1, h => by
    unfold insA
    exact (sink_perm (k + 1) _ (by rw [insA_len]; omega)).trans (ins_perm xs k (by omega))
theorem sortA_perm (xs : List Int) : (sortA xs).Perm xs := by
  unfold sortA
  exact ins_perm xs _ (by omega)
theorem sortA_len (xs : List Int) : (sortA xs).length = xs.length := (sortA_perm xs).length_eq
theorem sortA_same {xs ys : List Int} (h : xs.Perm ys) : sortA xs = sortA ys :=
  List.Perm.eq_of_pairwise (le := (· ≤ ·)) (fun a b _ _ h1 h2 => by omega) (sortA_sorts xs) (sortA_sorts ys) (((sortA_perm xs).trans h).trans (sortA_perm ys).symm)
/-- each number once -/
def nubA : List Int → List Int
  | [] => []
  | a :: l => if nubA l |>.contains a then nubA l else a :: nubA l
theorem nub_mem : ∀ (l : List Int) (a : Int), a ∈ nubA l ↔ a ∈ l
  | [], a => Iff.rfl
  | b :: l, a => by
    unfold nubA
    have ih := nub_mem l
    split
    · rename_i h
      have hb : b ∈ nubA l := by simpa using h
      rw [ih, List.mem_cons]
      constructor
      · exact .inr
      · rintro (rfl | h)
        · exact (ih a).1 hb
        · exact h
    · rw [List.mem_cons, List.mem_cons, ih]
theorem nub_nodup : ∀ l : List Int, (nubA l).Nodup
  | [] => List.nodup_nil
  | b :: l => by
    unfold nubA
    split
    · exact nub_nodup l
    · rename_i h
      exact List.nodup_cons.2 ⟨by simpa using h, nub_nodup l⟩
theorem same_once {ss l : List Int} (h : ss.Nodup) (hm : ∀ a, a ∈ ss ↔ a ∈ l) : ss.Perm (nubA l) :=
  (List.perm_ext_iff_of_nodup h (nub_nodup l)).2 fun a => by rw [hm, nub_mem]
/-- the numbers of a list, each once, rising -/
def groupsL (L : List Int) : List Int := sortA (nubA L)
theorem grp_mem (L : List Int) (a : Int) : a ∈ groupsL L ↔ a ∈ L := by
  unfold groupsL; rw [(sortA_perm _).mem_iff, nub_mem]
theorem grp_lt (L : List Int) : (groupsL L).Pairwise (· < ·) := by
  have h1 := sortA_sorts (nubA L)
  have h2 : (groupsL L).Nodup := (sortA_perm (nubA L)).nodup_iff.2 (nub_nodup L)
  exact (h1.and h2).imp fun ⟨h, h'⟩ => by omega
theorem lt_nodup {l : List Int} (h : l.Pairwise (· < ·)) : l.Nodup := h.imp fun {a b} h => by show a ≠ b; omega
theorem lt_unique {l l' : List Int} (h : l.Pairwise (· < ·)) (h' : l'.Pairwise (· < ·)) (hm : ∀ a, a ∈ l ↔ a ∈ l') : l = l' :=
  List.Perm.eq_of_pairwise (le := (· < ·)) (fun a b _ _ h1 h2 => by omega) h h' ((List.perm_ext_iff_of_nodup (lt_nodup h) (lt_nodup h')).2 hm)
theorem grp_ext {L L' : List Int} (h : ∀ a, a ∈ L ↔ a ∈ L') : groupsL L = groupsL L' :=
  lt_unique (grp_lt L) (grp_lt L') fun a => by rw [grp_mem, grp_mem, h]
theorem grp_self {L : List Int} (h : L.Pairwise (· < ·)) : groupsL L = L := lt_unique (grp_lt L) h (grp_mem L)
theorem grp_len (L : List Int) : (groupsL L).length ≤ L.length := by
  unfold groupsL; rw [sortA_len]
  induction L with
  | nil => exact Nat.le_refl _
  | cons b l ih => unfold nubA; split <;> simp <;> omega
end Go.Proofs.YtdljpokhcfhhfaaGreatDoor
namespace Go.Proofs.YtdljpokhcfhhfaaGreatDoor
open Go.RowKit Sm

theorem of_sorted {d : Array Int} {xs : List Int} (hp : Sort.PermIn 0 xs.length xs.toArray d) (hs : Sort.SortedIn Sort.ltInt 0 xs.length d) : d.toList = sortA xs := by
  have hz : d.size = xs.length := by have := hp.1; simpa using this
  have hperm : d.toList.Perm xs := by
    have := hp.2.2
    rw [Array.extract_eq_self_of_le (by omega), Array.extract_eq_self_of_le (by simp)] at this
    simpa using this
  refine List.Perm.eq_of_pairwise (le := (· ≤ ·)) (fun a b _ _ h1 h2 => by omega) ?_ (sortA_sorts xs) (hperm.trans (sortA_perm xs).symm)
  rw [List.pairwise_iff_getElem]
  intro i j hi hj hij
  have hj' : j < d.size := by simpa using hj
  have h := hs i j (Nat.zero_le _) hij (by omega)
  have h2 : ¬ d[j]! < d[i]! := by simpa [Sort.ltInt] using h
  rw [← bang, ← bang, List.getD_eq_getElem?_getD, List.getD_eq_getElem?_getD, List.getElem?_eq_getElem hi, List.getElem?_eq_getElem hj] at h2
  simpa using h2
theorem sort_any (base g n c : Nat) (xs : List Int) (w : World) (h : w.ownsRow base 42 1 (.slice (some ⟨g, 0, none⟩) n c) n (A32 xs)) (hn : 0 < n) (hn2 : n ≤ 1000000000) :
    Calls Tryz.prog 119 #[.slice (some ⟨g, 0, none⟩) n c] w fun e w' => e = .returned (.tuple #[]) ∧ Sr w base g n c (sortA xs) w' := by
  have HL := Lib.hid (fun W => Tryz.bits_Len (n : Int) W (by omega) (by omega))
  have hp := pow_len n n (Nat.le_refl _) hn (by omega)
  have h40 : Lib.bitLen n ≤ 100 := by
    rcases Nat.lt_or_ge (Lib.bitLen n) 40 with h4 | h4
    · omega
    · have := Nat.pow_le_pow_right (show 0 < 2 by omega) h4
      omega
  have HP := Lib.hid (ppdq_any base g n c hn2 (n - 0) 0 n (Lib.bitLen n) xs.toArray w rfl (Sd.start h) (Nat.zero_le _) (Nat.le_refl _) h40 (.inl rfl))
  have hx : Hid (xs.length = n) := Lib.hid (by have := h.1; rw [A32_len] at this; omega)
  rw [show ((0 : Nat) : Int) = 0 from rfl] at HP
  clear h hp h40
  go_enter Tryz.func119, Tryz.ntmps119
  go_wp2_with (first
    | (go_at_call 191; refine (HL.out _).mono ?_; rintro e w1 ⟨rfl, rfl⟩)
    | (go_at_call 190; (with_reducible refine HP.out.mono ?_); rintro e w1 ⟨rfl, hb⟩))
  go_returns
  obtain ⟨d', h1, h2, h3⟩ := hb
  rw [← hx.out] at h2 h3
  exact ⟨rfl, of_sorted h2 h3 ▸ h1.s⟩
end Go.Proofs.YtdljpokhcfhhfaaGreatDoor

