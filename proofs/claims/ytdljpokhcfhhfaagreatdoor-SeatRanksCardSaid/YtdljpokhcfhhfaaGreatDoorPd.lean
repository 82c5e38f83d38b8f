/- partitionEqualOrdered at addresses; over the seat's program. -/
import Derived.Test.YtdljpokhcfhhfaaGreatDoorPc
namespace Go.Proofs.YtdljpokhcfhhfaaGreatDoor
open Go.RowKit Sm

set_option maxRecDepth 100000 in
set_option maxHeartbeats 8000000 in
theorem ppeq_any (base g n c a b pivot : Nat) (d : Array Int) (w : World) (h : Sd w base g n c d w) (hap : a ≤ pivot) (hpb : pivot < b) (hb : b ≤ n) (hn2 : n ≤ 1000000000) :
    Calls Tryz.prog 233 #[.slice (some ⟨g, 0, none⟩) n c, .int .i64 (a : Int), .int .i64 (b : Int), .int .i64 (pivot : Int)] w (QPost w base g n c (Sort.partitionEqual Sort.ltInt d a b pivot)) := by
  have H0 := Lib.hid h
  clear h
  go_enter Tryz.func233, Tryz.ntmps233
  go_wp2_with fail
  have q1 : (a : Int) < (n : Int) := by omega
  have q2 : (pivot : Int) < (n : Int) := by omega
  have bx : a < n := by omega
  have by_ : pivot < n := by omega
  obtain ⟨vx, hvx'⟩ : ∃ vx, (d)[a]! = vx := ⟨_, rfl⟩
  obtain ⟨vy, hvy'⟩ : ∃ vy, (d)[pivot]! = vy := ⟨_, rfl⟩
  have cx : w.cell? ⟨g, a, none⟩ = some (.int .u32 vx) := by rw [← hvx']; exact H0.out.cell bx
  have cy : w.cell? ⟨g, pivot, none⟩ = some (.int .u32 vy) := by rw [← hvy']; exact H0.out.cell by_
  have fx : w.frozen? ⟨g, a, none⟩ = false := H0.out.frozen _
  have fy : w.frozen? ⟨g, pivot, none⟩ = false := H0.out.frozen _
  obtain ⟨vz, cz⟩ := Go.RowKit.cell?_setCell_some (w := w) (p := ⟨g, a, none⟩) (x := .int .u32 vy) (q := ⟨g, pivot, none⟩) cy
  have HS6 : Hid (Sd w base g n c (Sort.swp (d) a pivot) ((w.setCell ⟨g, a, none⟩ (.int .u32 vy)).setCell ⟨g, pivot, none⟩ (.int .u32 vx)).drew) := Lib.hid (by
    rw [← hvx', ← hvy']
    exact (H0.out.swap a pivot).drew)
  clear hvx' hvy'
  go_upto_region 1 with fail
  go_region
  clear cx cy fx fy cz q1 q2
  all_goals go_wp2_with fail
  go_loopw [9, 10] (fun iv jv wr => ∃ (i0 j0 : Nat) (dk : Array Int), a < i0 ∧ i0 ≤ j0 + 1 ∧ j0 < b ∧ iv = .int .i64 (i0 : Int) ∧ jv = .int .i64 (j0 : Int) ∧ Hid (Sort.partEqLoop Sort.ltInt a i0 j0 dk = Sort.partitionEqual Sort.ltInt d a b pivot) ∧ Hid (Sd w base g n c dk wr)) (fun iv jv _ => (intOf jv).toNat + 1 - (intOf iv).toNat)
  case atStart => exact ⟨a + 1, b - 1, _, by omega, by omega, by omega, by go_num, by go_num, Lib.hid rfl, HS6⟩
  case round =>
    clear HS6 H0
    obtain ⟨i0, j0, dk, hai, hij0, hjb, rfl, rfl, HE, H1⟩ := hrel
    obtain ⟨pv, hpv'⟩ : ∃ pv, (dk)[a]! = pv := ⟨_, rfl⟩
    have hpv := Lib.hid hpv'
    clear hpv'
    go_wp2_with fail
    go_loopw [9] (fun iv wr => ∃ i : Nat, i0 ≤ i ∧ i ≤ j0 + 1 ∧ iv = .int .i64 (i : Int) ∧ Hid (Sort.scanUp (fun x => !Sort.ltInt (dk)[a]! x) (dk) j0 i = Sort.scanUp (fun x => !Sort.ltInt (dk)[a]! x) (dk) j0 i0) ∧ Hid (Sd w base g n c (dk) wr)) (fun iv _ => j0 + 1 - (intOf iv).toNat)
    case atStart => exact ⟨i0, Nat.le_refl _, by omega, by go_num, Lib.hid rfl, H1⟩
    case round =>
      clear H1
      obtain ⟨i, hi0, hij, rfl, HU, HS⟩ := hrel
      rcases Nat.lt_or_ge j0 i with hji | hji
      · have q1 : ¬ (i : Int) ≤ (j0 : Int) := by omega
        have HI : Hid (i = Sort.scanUp (fun x => !Sort.ltInt (dk)[a]! x) (dk) j0 i0) := Lib.hid ((su_end (.inl (by omega))).symm.trans HU.out)
        go_upto_region 3 with fail
        refine wp_region_since (by kernel_rfl) (by kernel_rfl) ?_
        repeat (go_big_quiet_step (fail))
        refine wpQuiet_nil ?_
        rintro w5 ⟨P5, rfl⟩
        have HS5 := Lib.hid (HS.out.since P5.b)
        generalize P5.W = W5 at *
        clear HS HU
        go_wp2_with fail
        go_loopw [10] (fun jv wr => jv = .int .i64 (j0 : Int) ∧ Hid (Sd w base g n c (dk) wr)) (fun _ _ => 0)
        case atStart => exact ⟨rfl, HS5⟩
        case round =>
          clear HS5
          obtain ⟨rfl, HS⟩ := hrel
          clear q1
          have q1 : ¬ (i : Int) ≤ (j0 : Int) := by omega
          have HJ : Hid (j0 = Sort.scanDown (fun x => Sort.ltInt (dk)[a]! x) (dk) i j0) := Lib.hid (sd_end (.inl (by omega))).symm
          go_upto_region 5 with fail
          refine wp_region_since (by kernel_rfl) (by kernel_rfl) ?_
          repeat (go_big_quiet_step (fail))
          refine wpQuiet_nil ?_
          rintro w5 ⟨P5, rfl⟩
          have HS5 := Lib.hid (HS.out.since P5.b)
          generalize P5.W = W5 at *
          clear HS
          have HL := Lib.hid ((pe_break HI.out HJ.out (by omega)).symm.trans HE.out)
          have q9 : ((j0 : Nat) : Int) < (i : Int) := by omega
          go_wp2
          go_returns
          exact ⟨by rw [← HL.out]; try rfl, by rw [← HL.out]; exact HS5.out⟩
      · have q1 : (i : Int) ≤ (j0 : Int) := by omega
        have q2 : (i : Int) < (n : Int) := by omega
        have q3 : (0 : Int) ≤ (i : Int) := by omega
        have q4 : (a : Int) < (n : Int) := by omega
        obtain ⟨x, hx'⟩ : ∃ x, (dk)[i]! = x := ⟨_, rfl⟩
        have hx := Lib.hid hx'
        clear hx'
        have k0 : ∀ p' : Snc wr, p'.W.cell? ⟨g, i, none⟩ = some (.int .u32 x) := fun p' => by rw [← hx.out]; exact (HS.out.since p'.b).cell (by omega)
        have k1 : ∀ p' : Snc wr, p'.W.cell? ⟨g, a, none⟩ = some (.int .u32 pv) := fun p' => by rw [← hpv.out]; exact (HS.out.since p'.b).cell (by omega)
        cases hV : decide (pv < x) with
        | false =>
          have R0 := lessV (w0 := wr) hV
          have HU2 := Lib.hid ((su_go (p := (fun x => !Sort.ltInt (dk)[a]! x)) (d := dk) hji (by simp only [Sort.ltInt]; rw [hx.out, hpv.out, hV]; try rfl)).symm.trans HU.out)
          go_upto_region 3 with fail
          refine wp_region_since (by kernel_rfl) (by kernel_rfl) ?_
          repeat (go_big_quiet_step ((go_at_call 232; with_reducible exact R0 _)))
          refine wpQuiet_nil ?_
          rintro w5 ⟨P5, rfl⟩
          have HS5 := Lib.hid (HS.out.since P5.b)
          clear k0 k1 R0 hV HS HU hx
          generalize P5.W = W5 at *
          go_wp2
          go_roundw
          case rel => exact ⟨i + 1, by omega, by omega, by go_num, HU2, HS5⟩
          case measure => simp [intOf]; omega
        | true =>
          have R0 := lessV (w0 := wr) hV
          have HI : Hid (i = Sort.scanUp (fun x => !Sort.ltInt (dk)[a]! x) (dk) j0 i0) := Lib.hid ((su_end (.inr (by simp only [Sort.ltInt]; rw [hx.out, hpv.out, hV]; try rfl))).symm.trans HU.out)
          have HX := Lib.hid (And.intro hx.out hV)
          go_upto_region 3 with fail
          refine wp_region_since (by kernel_rfl) (by kernel_rfl) ?_
          repeat (go_big_quiet_step ((go_at_call 232; with_reducible exact R0 _)))
          refine wpQuiet_nil ?_
          rintro w5 ⟨P5, rfl⟩
          have HS5 := Lib.hid (HS.out.since P5.b)
          clear k0 k1 R0 hV HS HU hx q1 q2 q3 q4
          generalize P5.W = W5 at *
          go_wp2_with fail
          go_loopw [10] (fun jv wr => ∃ j : Nat, j ≤ j0 ∧ i ≤ j + 1 ∧ jv = .int .i64 (j : Int) ∧ Hid (Sort.scanDown (fun x => Sort.ltInt (dk)[a]! x) (dk) i j = Sort.scanDown (fun x => Sort.ltInt (dk)[a]! x) (dk) i j0) ∧ Hid (Sd w base g n c (dk) wr)) (fun jv _ => (intOf jv).toNat)
          case atStart => exact ⟨j0, Nat.le_refl _, by omega, rfl, Lib.hid rfl, HS5⟩
          case round =>
            clear HS5
            obtain ⟨j, hj0, hji2, rfl, HD, HS⟩ := hrel
            rcases Nat.lt_or_ge j i with hlt | hlt
            · have q1 : ¬ (i : Int) ≤ (j : Int) := by omega
              have HJ : Hid (j = Sort.scanDown (fun x => Sort.ltInt (dk)[a]! x) (dk) i j0) := Lib.hid ((sd_end (.inl (by omega))).symm.trans HD.out)
              go_upto_region 5 with fail
              refine wp_region_since (by kernel_rfl) (by kernel_rfl) ?_
              repeat (go_big_quiet_step (fail))
              refine wpQuiet_nil ?_
              rintro w5 ⟨P5, rfl⟩
              have HS5 := Lib.hid (HS.out.since P5.b)
              generalize P5.W = W5 at *
              clear HS HX HD
              have HL := Lib.hid ((pe_break HI.out HJ.out (by omega)).symm.trans HE.out)
              have q9 : ((j : Nat) : Int) < (i : Int) := by omega
              go_wp2
              go_returns
              exact ⟨by rw [← HL.out]; try rfl, by rw [← HL.out]; exact HS5.out⟩
            · obtain ⟨j, rfl⟩ : ∃ j', j = j' + 1 := ⟨j - 1, by omega⟩
              rw [show ((j + 1 : Nat) : Int) = (j : Int) + 1 by omega]
              have q1 : (i : Int) ≤ (j : Int) + 1 := by omega
              have q2 : (j : Int) + 1 < (n : Int) := by omega
              have q3 : (0 : Int) ≤ (j : Int) + 1 := by omega
              have q4 : (a : Int) < (n : Int) := by omega
              obtain ⟨y, hy'⟩ : ∃ y, (dk)[j + 1]! = y := ⟨_, rfl⟩
              have hy := Lib.hid hy'
              clear hy'
              have k0 : ∀ p' : Snc wr, p'.W.cell? ⟨g, j + 1, none⟩ = some (.int .u32 y) := fun p' => by rw [← hy.out]; exact (HS.out.since p'.b).cell (by omega)
              have k1 : ∀ p' : Snc wr, p'.W.cell? ⟨g, a, none⟩ = some (.int .u32 pv) := fun p' => by rw [← hpv.out]; exact (HS.out.since p'.b).cell (by omega)
              cases hV : decide (pv < y) with
              | true =>
                have R0 := lessV (w0 := wr) hV
                have HD2 := Lib.hid ((sd_go (p := (fun x => Sort.ltInt (dk)[a]! x)) (d := dk) hlt (by simp only [Sort.ltInt]; rw [hy.out, hpv.out, hV]; try rfl)).symm.trans HD.out)
                go_upto_region 5 with fail
                refine wp_region_since (by kernel_rfl) (by kernel_rfl) ?_
                repeat (go_big_quiet_step ((go_at_call 232; with_reducible exact R0 _)))
                refine wpQuiet_nil ?_
                rintro w5 ⟨P5, rfl⟩
                have HS5 := Lib.hid (HS.out.since P5.b)
                clear k0 k1 R0 hV HS HD hy HX
                generalize P5.W = W5 at *
                go_wp2
                go_roundw
                case rel => exact ⟨j, by omega, by omega, by go_num, HD2, HS5⟩
                case measure => simp [intOf]
              | false =>
                have R0 := lessV (w0 := wr) hV
                have HJ : Hid (j + 1 = Sort.scanDown (fun x => Sort.ltInt (dk)[a]! x) (dk) i j0) := Lib.hid ((sd_end (.inr (by simp only [Sort.ltInt]; rw [hy.out, hpv.out, hV]; try rfl))).symm.trans HD.out)
                have hij2 : i < j + 1 := by
                  rcases Nat.lt_or_ge i (j + 1) with h | h
                  · exact h
                  · exfalso
                    have e : i = j + 1 := by omega
                    have h1 := HX.out.1
                    rw [e, hy.out] at h1
                    have h2 := HX.out.2
                    rw [← h1, hV] at h2
                    cases h2
                go_upto_region 5 with fail
                refine wp_region_since (by kernel_rfl) (by kernel_rfl) ?_
                repeat (go_big_quiet_step ((go_at_call 232; with_reducible exact R0 _)))
                refine wpQuiet_nil ?_
                rintro w5 ⟨P5, rfl⟩
                have HS5 := Lib.hid (HS.out.since P5.b)
                clear k0 k1 R0 hV HS HD hy HX
                generalize P5.W = W5 at *
                have HL := Lib.hid ((pe_go HI.out HJ.out hij2).symm.trans HE.out)
                have q9 : ¬ ((j : Int) + 1 < (i : Int)) := by omega
                have q10 : (i : Int) < (n : Int) := by omega
                have bx : i < n := by omega
                have by_ : (j + 1) < n := by omega
                obtain ⟨vx, hvx'⟩ : ∃ vx, (dk)[i]! = vx := ⟨_, rfl⟩
                obtain ⟨vy, hvy'⟩ : ∃ vy, (dk)[(j + 1)]! = vy := ⟨_, rfl⟩
                have cx : W5.cell? ⟨g, i, none⟩ = some (.int .u32 vx) := by rw [← hvx']; exact HS5.out.cell bx
                have cy : W5.cell? ⟨g, (j + 1), none⟩ = some (.int .u32 vy) := by rw [← hvy']; exact HS5.out.cell by_
                have fx : W5.frozen? ⟨g, i, none⟩ = false := HS5.out.frozen _
                have fy : W5.frozen? ⟨g, (j + 1), none⟩ = false := HS5.out.frozen _
                obtain ⟨vz, cz⟩ := Go.RowKit.cell?_setCell_some (w := W5) (p := ⟨g, i, none⟩) (x := .int .u32 vy) (q := ⟨g, (j + 1), none⟩) cy
                have HS6 : Hid (Sd w base g n c (Sort.swp (dk) i (j + 1)) ((W5.setCell ⟨g, i, none⟩ (.int .u32 vy)).setCell ⟨g, (j + 1), none⟩ (.int .u32 vx)).drew) := Lib.hid (by
                  rw [← hvx', ← hvy']
                  exact (HS5.out.swap i (j + 1)).drew)
                clear hvx' hvy'
                go_upto_region 8 with fail
                go_region
                clear cx cy fx fy cz
                all_goals go_wp2
                all_goals go_roundw
                case rel => exact ⟨i + 1, j, _, by omega, by omega, by omega, by go_num, by go_num, HL, HS6⟩
                case measure => simp [intOf]; omega
end Go.Proofs.YtdljpokhcfhhfaaGreatDoor

