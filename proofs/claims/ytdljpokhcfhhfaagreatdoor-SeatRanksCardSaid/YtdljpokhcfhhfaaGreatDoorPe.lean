/- partialInsertionSortOrdered at addresses; over the seat's program. -/
import Derived.Test.YtdljpokhcfhhfaaGreatDoorPa
import Derived.Sort.LotA
namespace Go.Proofs.YtdljpokhcfhhfaaGreatDoor
open Go.RowKit Sm

section
variable {a b i j q s : Nat} {d : Array Int} {x y : Int}
theorem ss_go (h : q + 1 < b) (hx : d[q + 1]! = x) (hy : d[q]! = y) (hV : decide (x < y) = false) : Sort.scanSorted Sort.ltInt d b (q + 1) = Sort.scanSorted Sort.ltInt d b (q + 2) := by
  conv => lhs; rw [Sort.scanSorted]
  rw [if_pos (by unfold Sort.ltInt; rw [Nat.add_sub_cancel, hx, hy, hV]; simpa using h)]
theorem ss_end (h : ¬ i < b) : Sort.scanSorted Sort.ltInt d b i = i := by
  rw [Sort.scanSorted, if_neg (by simp [h])]
theorem ss_stop (hx : d[q + 1]! = x) (hy : d[q]! = y) (hV : decide (x < y) = true) : Sort.scanSorted Sort.ltInt d b (q + 1) = q + 1 := by
  rw [Sort.scanSorted, if_neg (by unfold Sort.ltInt; rw [Nat.add_sub_cancel, hx, hy, hV]; simp)]
theorem pi_true {i2 : Nat} (h : Sort.scanSorted Sort.ltInt d b i = i2) (hb : i2 = b) : Sort.partialIns Sort.ltInt a b (s + 1) i d = (d, true) := by
  rw [Sort.partialIns]
  simp only [h, hb, if_true]
theorem pi_short {i2 : Nat} (h : Sort.scanSorted Sort.ltInt d b i = i2) (hb : i2 ≠ b) (hs : b - a < 50) : Sort.partialIns Sort.ltInt a b (s + 1) i d = (d, false) := by
  rw [Sort.partialIns]
  simp only [h, if_neg hb, if_pos hs]
theorem pi_go {i2 : Nat} (h : Sort.scanSorted Sort.ltInt d b i = i2) (hb : i2 ≠ b) (hs : ¬ b - a < 50) : Sort.partialIns Sort.ltInt a b (s + 1) i d = Sort.partialIns Sort.ltInt a b s i2 (Sort.fixUp Sort.ltInt b i2 (Sort.fixDown Sort.ltInt a i2 (Sort.swp d i2 (i2 - 1)))) := by
  conv => lhs; rw [Sort.partialIns]
  simp only [h, if_neg hb, if_neg hs]
  rfl
theorem fd_yes (h : a < q) : Sort.fixDown Sort.ltInt a (q + 1) d = Sort.shiftDown Sort.ltInt q d := by
  unfold Sort.fixDown; rw [if_pos (by omega)]; rfl
theorem fd_no (h : ¬ a < q) : Sort.fixDown Sort.ltInt a (q + 1) d = d := by
  unfold Sort.fixDown; rw [if_neg (by omega)]
theorem fu_yes (h : q + 2 < b) : Sort.fixUp Sort.ltInt b (q + 1) d = Sort.shiftUp Sort.ltInt b (q + 2) d := by
  unfold Sort.fixUp; rw [if_pos (by omega)]
theorem fu_no (h : b ≤ q + 2) : Sort.fixUp Sort.ltInt b (q + 1) d = d := by
  unfold Sort.fixUp; rw [if_neg (by omega)]
theorem sdn_go (hx : d[j + 1]! = x) (hy : d[j]! = y) (hV : decide (x < y) = true) : Sort.shiftDown Sort.ltInt (j + 1) d = Sort.shiftDown Sort.ltInt j (Sort.swp d (j + 1) j) := by
  conv => lhs; rw [Sort.shiftDown]
  rw [if_neg (by unfold Sort.ltInt; rw [hx, hy, hV]; simp)]
theorem sdn_stop (hx : d[j + 1]! = x) (hy : d[j]! = y) (hV : decide (x < y) = false) : Sort.shiftDown Sort.ltInt (j + 1) d = d := by
  rw [Sort.shiftDown, if_pos (by unfold Sort.ltInt; rw [hx, hy, hV]; simp)]
theorem sup_go (h : j + 1 < b) (hx : d[j + 1]! = x) (hy : d[j]! = y) (hV : decide (x < y) = true) : Sort.shiftUp Sort.ltInt b (j + 1) d = Sort.shiftUp Sort.ltInt b (j + 1 + 1) (Sort.swp d (j + 1) j) := by
  conv => lhs; rw [Sort.shiftUp]
  rw [if_pos h, if_neg (by unfold Sort.ltInt; rw [Nat.add_sub_cancel, hx, hy, hV]; simp), Nat.add_sub_cancel]
theorem sup_stop (hx : d[j + 1]! = x) (hy : d[j]! = y) (hV : decide (x < y) = false) : Sort.shiftUp Sort.ltInt b (j + 1) d = d := by
  rw [Sort.shiftUp]
  split
  · rw [if_pos (by unfold Sort.ltInt; rw [Nat.add_sub_cancel, hx, hy, hV]; simp)]
  · rfl
theorem sup_end (h : ¬ j + 1 < b) : Sort.shiftUp Sort.ltInt b (j + 1) d = d := by
  rw [Sort.shiftUp, if_neg h]
end
structure IPost (w : World) (base g n c : Nat) (r : Array Int × Bool) (e : Ending) (w' : World) : Prop where
  e : e = .returned (.bool r.2)
  s : Sd w base g n c r.1 w'
set_option maxRecDepth 100000 in
set_option maxHeartbeats 16000000 in
theorem ppartial_any (base g n c a b : Nat) (d : Array Int) (w : World) (h : Sd w base g n c d w) (hab : a < b) (hb : b ≤ n) (hn2 : n ≤ 1000000000) :
    Calls Tryz.prog 231 #[.slice (some ⟨g, 0, none⟩) n c, .int .i64 (a : Int), .int .i64 (b : Int)] w (IPost w base g n c (Sort.partialInsertionSort Sort.ltInt d a b)) := by
  have H0 := Lib.hid h
  clear h
  go_enter Tryz.func231, Tryz.ntmps231
  go_wp2_with fail
  go_loopw [7, 8] (fun iv jv wr => ∃ (t q : Nat) (dk : Array Int), t ≤ 5 ∧ a ≤ q ∧ q < b ∧ iv = .int .i64 ((q : Int) + 1) ∧ jv = .int .i64 (t : Int) ∧ Hid (Sort.partialIns Sort.ltInt a b (5 - t) (q + 1) dk = Sort.partialInsertionSort Sort.ltInt d a b) ∧ Hid (Sd w base g n c dk wr)) (fun _ jv _ => 5 - (intOf jv).toNat)
  case atStart => exact ⟨0, a, d, by omega, by omega, by omega, by go_num, rfl, Lib.hid rfl, H0⟩
  case round =>
    clear H0
    obtain ⟨t, q0, dk, ht5, haq0, hqb0, rfl, rfl, HP, HS0⟩ := hrel
    rcases Nat.lt_or_ge t 5 with ht | ht
    · have r0 : (t : Int) < 5 := by omega
      have HP1 : Hid (Sort.partialIns Sort.ltInt a b (5 - (t + 1) + 1) (q0 + 1) dk = Sort.partialInsertionSort Sort.ltInt d a b) := Lib.hid (by rw [show 5 - (t + 1) + 1 = 5 - t by omega]; exact HP.out)
      clear HP
      go_wp2_with fail
      go_loopw [7] (fun iv wr => ∃ q : Nat, a ≤ q ∧ q < b ∧ iv = .int .i64 ((q : Int) + 1) ∧ Hid (Sort.scanSorted Sort.ltInt dk b (q + 1) = Sort.scanSorted Sort.ltInt dk b (q0 + 1)) ∧ Hid (Sd w base g n c dk wr)) (fun iv _ => b + 1 - (intOf iv).toNat)
      case atStart => exact ⟨q0, haq0, hqb0, rfl, Lib.hid rfl, HS0⟩
      case round =>
        clear HS0
        obtain ⟨q, haq, hqb, rfl, HE, HS⟩ := hrel
        rcases Nat.lt_or_ge (q + 1) b with hq1 | hq1
        · have r1 : (q : Int) + 1 < (b : Int) := by omega
          have r2 : (q : Int) + 1 < (n : Int) := by omega
          have r3 : (q : Int) < (n : Int) := by omega
          have r4 : (0 : Int) ≤ (q : Int) := by omega
          obtain ⟨x, hx'⟩ : ∃ x, dk[q + 1]! = x := ⟨_, rfl⟩
          have hx := Lib.hid hx'
          clear hx'
          obtain ⟨y, hy'⟩ : ∃ y, dk[q]! = y := ⟨_, rfl⟩
          have hy := Lib.hid hy'
          clear hy'
          have k0 : ∀ p' : Snc wr, p'.W.cell? ⟨g, q + 1, none⟩ = some (.int .u32 x) := fun p' => by rw [← hx.out]; exact (HS.out.since p'.b).cell (by omega)
          have k1 : ∀ p' : Snc wr, p'.W.cell? ⟨g, q, none⟩ = some (.int .u32 y) := fun p' => by rw [← hy.out]; exact (HS.out.since p'.b).cell (by omega)
          cases hV : decide (x < y) with
          | false =>
            have R0 := lessV (w0 := wr) hV
            have HE2 := Lib.hid ((ss_go hq1 hx.out hy.out hV).symm.trans HE.out)
            go_upto_region 5 with fail
            refine wp_region_since (by kernel_rfl) (by kernel_rfl) ?_
            repeat (go_big_quiet_step ((go_at_call 232; with_reducible exact R0 _)))
            refine wpQuiet_nil ?_
            rintro w5 ⟨P5, rfl⟩
            have HS5 := Lib.hid (HS.out.since P5.b)
            clear k0 k1 R0 hV HS HE hx hy
            generalize P5.W = W5 at *
            go_wp2
            go_roundw
            case rel => exact ⟨q + 1, by omega, by omega, by go_num, HE2, HS5⟩
            case measure => simp [intOf]; omega
          | true =>
            have R0 := lessV (w0 := wr) hV
            have HI := Lib.hid (HE.out.symm.trans (ss_stop (b := b) hx.out hy.out hV))
            go_upto_region 5 with fail
            refine wp_region_since (by kernel_rfl) (by kernel_rfl) ?_
            repeat (go_big_quiet_step ((go_at_call 232; with_reducible exact R0 _)))
            refine wpQuiet_nil ?_
            rintro w5 ⟨P5, rfl⟩
            have HS5 := Lib.hid (HS.out.since P5.b)
            clear k0 k1 R0 hV HS HE hx hy
            generalize P5.W = W5 at *
            have r5 : ¬ ((q : Int) + 1 = (b : Int)) := by omega
            have r6 : (((q : Int) + 1) == (b : Int)) = false := by simpa using r5
            rcases Nat.lt_or_ge (b - a) 50 with hs | hs
            · have r7 : (b : Int) - (a : Int) < 50 := by omega
              have HL := Lib.hid ((pi_short HI.out (by omega) hs).symm.trans HP1.out)
              go_wp2
              go_returns
              exact ⟨by rw [← HL.out]; try rfl, by rw [← HL.out]; exact HS5.out⟩
            · have r7 : ¬ (b : Int) - (a : Int) < 50 := by omega
              have HL := Lib.hid ((pi_go HI.out (by omega) (by omega)).symm.trans HP1.out)
              rw [Nat.add_sub_cancel] at HL
              have bx : (q + 1) < n := by omega
              have by_ : q < n := by omega
              obtain ⟨vx, hvx'⟩ : ∃ vx, (dk)[(q + 1)]! = vx := ⟨_, rfl⟩
              obtain ⟨vy, hvy'⟩ : ∃ vy, (dk)[q]! = vy := ⟨_, rfl⟩
              have cx : W5.cell? ⟨g, (q + 1), none⟩ = some (.int .u32 vx) := by rw [← hvx']; exact HS5.out.cell bx
              have cy : W5.cell? ⟨g, q, none⟩ = some (.int .u32 vy) := by rw [← hvy']; exact HS5.out.cell by_
              have fx : W5.frozen? ⟨g, (q + 1), none⟩ = false := HS5.out.frozen _
              have fy : W5.frozen? ⟨g, q, none⟩ = false := HS5.out.frozen _
              obtain ⟨vz, cz⟩ := Go.RowKit.cell?_setCell_some (w := W5) (p := ⟨g, (q + 1), none⟩) (x := .int .u32 vy) (q := ⟨g, q, none⟩) cy
              have HS6 : Hid (Sd w base g n c (Sort.swp (dk) (q + 1) q) ((W5.setCell ⟨g, (q + 1), none⟩ (.int .u32 vy)).setCell ⟨g, q, none⟩ (.int .u32 vx)).drew) := Lib.hid (by
                rw [← hvx', ← hvy']
                exact (HS5.out.swap (q + 1) q).drew)
              clear hvx' hvy'
              go_upto_region 11 with fail
              go_region
              clear cx cy fx fy cz HS5 HI HP1
              all_goals generalize hW7 : ((W5.setCell _ _).setCell _ _).drew = W7 at HS6 ⊢
              all_goals clear hW7
              all_goals obtain ⟨d1, hd1⟩ : ∃ d1, Sort.swp dk (q + 1) q = d1 := ⟨_, rfl⟩
              all_goals rw [hd1] at HL HS6
              all_goals clear hd1 r1 r2 r3 r5 r6 r7
              rcases Nat.lt_or_ge a q with hq2 | hq2
              · have r8 : (2 : Int) ≤ ((q : Int) + 1) - (a : Int) := by omega
                have HL2 := Lib.hid ((congrArg (fun z => Sort.partialIns Sort.ltInt a b (5 - (t + 1)) (q + 1) (Sort.fixUp Sort.ltInt b (q + 1) z)) (fd_yes (d := d1) hq2)).symm.trans HL.out)
                clear HL
                go_wp2_with fail
                go_loopw [9] (fun jv wr => ∃ (j : Nat) (ys : Array Int), j ≤ q ∧ jv = .int .i64 (j : Int) ∧ Hid (Sort.shiftDown Sort.ltInt j ys = Sort.shiftDown Sort.ltInt q d1) ∧ Hid (Sd w base g n c ys wr)) (fun jv _ => (intOf jv).toNat)
                case atStart => exact ⟨q, d1, Nat.le_refl _, by go_num, Lib.hid rfl, HS6⟩
                case round =>
                  clear HS6 r8
                  obtain ⟨j, ys, hjq, rfl, HE, HS⟩ := hrel
                  rcases j with _ | j
                  · have HF : Hid (Sort.partialIns Sort.ltInt a b (5 - (t + 1)) (q + 1) (Sort.fixUp Sort.ltInt b (q + 1) ys) = Sort.partialInsertionSort Sort.ltInt d a b) := Lib.hid (by have := HL2.out; rw [← HE.out] at this; exact this)
                    have HS5 := HS
                    clear HS HE HL2
                    generalize wr = W5 at *
                    rcases Nat.lt_or_ge (q + 2) b with hb2 | hb2
                    · have r1 : (2 : Int) ≤ (b : Int) - ((q : Int) + 1) := by omega
                      have HF2 := Lib.hid ((congrArg (fun z => Sort.partialIns Sort.ltInt a b (5 - (t + 1)) (q + 1) z) (fu_yes (d := ys) hb2)).symm.trans HF.out)
                      go_wp2_with fail
                      go_loopw [10] (fun jv wr => ∃ (j : Nat) (zs : Array Int), q < j ∧ j < b ∧ jv = .int .i64 ((j : Int) + 1) ∧ Hid (Sort.shiftUp Sort.ltInt b (j + 1) zs = Sort.shiftUp Sort.ltInt b (q + 2) (ys)) ∧ Hid (Sd w base g n c zs wr)) (fun jv _ => b + 1 - (intOf jv).toNat)
                      case atStart => exact ⟨q + 1, ys, by omega, by omega, by go_num, Lib.hid rfl, HS5⟩
                      case round =>
                        clear HS5
                        obtain ⟨j, zs, hqj, hjb, rfl, HE, HS⟩ := hrel
                        rcases Nat.lt_or_ge (j + 1) b with hj1 | hj1
                        · have r2 : (j : Int) + 1 < (b : Int) := by omega
                          have r3 : (j : Int) + 1 < (n : Int) := by omega
                          have r4 : (j : Int) < (n : Int) := by omega
                          have r5 : (0 : Int) ≤ (j : Int) := by omega
                          obtain ⟨x, hx'⟩ : ∃ x, zs[j + 1]! = x := ⟨_, rfl⟩
                          have hx := Lib.hid hx'
                          clear hx'
                          obtain ⟨y, hy'⟩ : ∃ y, zs[j]! = y := ⟨_, rfl⟩
                          have hy := Lib.hid hy'
                          clear hy'
                          have k0 : ∀ p' : Snc wr, p'.W.cell? ⟨g, j + 1, none⟩ = some (.int .u32 x) := fun p' => by rw [← hx.out]; exact (HS.out.since p'.b).cell (by omega)
                          have k1 : ∀ p' : Snc wr, p'.W.cell? ⟨g, j, none⟩ = some (.int .u32 y) := fun p' => by rw [← hy.out]; exact (HS.out.since p'.b).cell (by omega)
                          cases hV : decide (x < y) with
                          | true =>
                            have R0 := lessV (w0 := wr) hV
                            have HE2 := Lib.hid ((sup_go hj1 hx.out hy.out hV).symm.trans HE.out)
                            go_upto_region 22 with fail
                            refine wp_region_since (by kernel_rfl) (by kernel_rfl) ?_
                            repeat (go_big_quiet_step ((go_at_call 232; with_reducible exact R0 _)))
                            refine wpQuiet_nil ?_
                            rintro w9 ⟨P9, rfl⟩
                            have HS9 := Lib.hid (HS.out.since P9.b)
                            clear k0 k1 R0 hV HS HE hx hy
                            generalize P9.W = W9 at *
                            have bx : (j + 1) < n := by omega
                            have by_ : j < n := by omega
                            obtain ⟨vx, hvx'⟩ : ∃ vx, (zs)[(j + 1)]! = vx := ⟨_, rfl⟩
                            obtain ⟨vy, hvy'⟩ : ∃ vy, (zs)[j]! = vy := ⟨_, rfl⟩
                            have cx : W9.cell? ⟨g, (j + 1), none⟩ = some (.int .u32 vx) := by rw [← hvx']; exact HS9.out.cell bx
                            have cy : W9.cell? ⟨g, j, none⟩ = some (.int .u32 vy) := by rw [← hvy']; exact HS9.out.cell by_
                            have fx : W9.frozen? ⟨g, (j + 1), none⟩ = false := HS9.out.frozen _
                            have fy : W9.frozen? ⟨g, j, none⟩ = false := HS9.out.frozen _
                            obtain ⟨vz, cz⟩ := Go.RowKit.cell?_setCell_some (w := W9) (p := ⟨g, (j + 1), none⟩) (x := .int .u32 vy) (q := ⟨g, j, none⟩) cy
                            have HS6 : Hid (Sd w base g n c (Sort.swp (zs) (j + 1) j) ((W9.setCell ⟨g, (j + 1), none⟩ (.int .u32 vy)).setCell ⟨g, j, none⟩ (.int .u32 vx)).drew) := Lib.hid (by
                              rw [← hvx', ← hvy']
                              exact (HS9.out.swap (j + 1) j).drew)
                            clear hvx' hvy'
                            go_upto_region 23 with fail
                            go_region
                            clear cx cy fx fy cz
                            all_goals go_wp2
                            all_goals go_roundw
                            case rel => exact ⟨j + 1, _, by omega, by omega, by go_num, HE2, HS6⟩
                            case measure => simp [intOf]; omega
                          | false =>
                            have R0 := lessV (w0 := wr) hV
                            have HE2 := Lib.hid ((sup_stop hx.out hy.out hV).symm.trans HE.out)
                            go_upto_region 22 with fail
                            refine wp_region_since (by kernel_rfl) (by kernel_rfl) ?_
                            repeat (go_big_quiet_step ((go_at_call 232; with_reducible exact R0 _)))
                            refine wpQuiet_nil ?_
                            rintro w9 ⟨P9, rfl⟩
                            have HS8 := Lib.hid (HS.out.since P9.b)
                            clear k0 k1 R0 hV HS HE hx hy
                            generalize P9.W = W9 at *
                            have HF3 : Hid (Sort.partialIns Sort.ltInt a b (5 - (t + 1)) (q + 1) zs = Sort.partialInsertionSort Sort.ltInt d a b) := Lib.hid (by have := HF2.out; rw [← HE2.out] at this; exact this)
                            go_wp2
                            go_roundw
                            case rel => exact ⟨t + 1, q, zs, by omega, by omega, by omega, by go_num, by go_num, HF3, HS8⟩
                            case measure => simp [intOf]; omega
                        · have r2 : ¬ (j : Int) + 1 < (b : Int) := by omega
                          have HE2 := Lib.hid ((sup_end (by omega)).symm.trans HE.out)
                          have HF3 : Hid (Sort.partialIns Sort.ltInt a b (5 - (t + 1)) (q + 1) zs = Sort.partialInsertionSort Sort.ltInt d a b) := Lib.hid (by have := HF2.out; rw [← HE2.out] at this; exact this)
                          have HS8 := HS
                          go_wp2
                          go_roundw
                          case rel => exact ⟨t + 1, q, zs, by omega, by omega, by omega, by go_num, by go_num, HF3, HS8⟩
                          case measure => simp [intOf]; omega
                    · have r1 : ¬ (2 : Int) ≤ (b : Int) - ((q : Int) + 1) := by omega
                      have HF2 := Lib.hid ((congrArg (fun z => Sort.partialIns Sort.ltInt a b (5 - (t + 1)) (q + 1) z) (fu_no (d := ys) hb2)).symm.trans HF.out)
                      have HS8 := HS5
                      go_wp2
                      go_roundw
                      case rel => exact ⟨t + 1, q, ys, by omega, by omega, by omega, by go_num, by go_num, HF2, HS8⟩
                      case measure => simp [intOf]; omega
                  · rw [show ((j + 1 : Nat) : Int) = (j : Int) + 1 by omega]
                    have r1 : (1 : Int) ≤ (j : Int) + 1 := by omega
                    have r2 : (j : Int) + 1 < (n : Int) := by omega
                    have r3 : (j : Int) < (n : Int) := by omega
                    have r4 : (0 : Int) ≤ (j : Int) := by omega
                    obtain ⟨x, hx'⟩ : ∃ x, ys[j + 1]! = x := ⟨_, rfl⟩
                    have hx := Lib.hid hx'
                    clear hx'
                    obtain ⟨y, hy'⟩ : ∃ y, ys[j]! = y := ⟨_, rfl⟩
                    have hy := Lib.hid hy'
                    clear hy'
                    have k0 : ∀ p' : Snc wr, p'.W.cell? ⟨g, j + 1, none⟩ = some (.int .u32 x) := fun p' => by rw [← hx.out]; exact (HS.out.since p'.b).cell (by omega)
                    have k1 : ∀ p' : Snc wr, p'.W.cell? ⟨g, j, none⟩ = some (.int .u32 y) := fun p' => by rw [← hy.out]; exact (HS.out.since p'.b).cell (by omega)
                    cases hV : decide (x < y) with
                    | true =>
                      have R0 := lessV (w0 := wr) hV
                      have HE2 := Lib.hid ((sdn_go hx.out hy.out hV).symm.trans HE.out)
                      go_upto_region 16 with fail
                      refine wp_region_since (by kernel_rfl) (by kernel_rfl) ?_
                      repeat (go_big_quiet_step ((go_at_call 232; with_reducible exact R0 _)))
                      refine wpQuiet_nil ?_
                      rintro w5 ⟨P5, rfl⟩
                      have HS5 := Lib.hid (HS.out.since P5.b)
                      clear k0 k1 R0 hV HS HE hx hy
                      generalize P5.W = W5 at *
                      have bx : (j + 1) < n := by omega
                      have by_ : j < n := by omega
                      obtain ⟨vx, hvx'⟩ : ∃ vx, (ys)[(j + 1)]! = vx := ⟨_, rfl⟩
                      obtain ⟨vy, hvy'⟩ : ∃ vy, (ys)[j]! = vy := ⟨_, rfl⟩
                      have cx : W5.cell? ⟨g, (j + 1), none⟩ = some (.int .u32 vx) := by rw [← hvx']; exact HS5.out.cell bx
                      have cy : W5.cell? ⟨g, j, none⟩ = some (.int .u32 vy) := by rw [← hvy']; exact HS5.out.cell by_
                      have fx : W5.frozen? ⟨g, (j + 1), none⟩ = false := HS5.out.frozen _
                      have fy : W5.frozen? ⟨g, j, none⟩ = false := HS5.out.frozen _
                      obtain ⟨vz, cz⟩ := Go.RowKit.cell?_setCell_some (w := W5) (p := ⟨g, (j + 1), none⟩) (x := .int .u32 vy) (q := ⟨g, j, none⟩) cy
                      have HS6 : Hid (Sd w base g n c (Sort.swp (ys) (j + 1) j) ((W5.setCell ⟨g, (j + 1), none⟩ (.int .u32 vy)).setCell ⟨g, j, none⟩ (.int .u32 vx)).drew) := Lib.hid (by
                        rw [← hvx', ← hvy']
                        exact (HS5.out.swap (j + 1) j).drew)
                      clear hvx' hvy'
                      go_upto_region 17 with fail
                      go_region
                      clear cx cy fx fy cz
                      all_goals go_wp2
                      all_goals go_roundw
                      case rel => exact ⟨j, _, by omega, by go_num, HE2, HS6⟩
                      case measure => simp [intOf]
                    | false =>
                      have R0 := lessV (w0 := wr) hV
                      have HE2 := Lib.hid ((sdn_stop hx.out hy.out hV).symm.trans HE.out)
                      go_upto_region 16 with fail
                      refine wp_region_since (by kernel_rfl) (by kernel_rfl) ?_
                      repeat (go_big_quiet_step ((go_at_call 232; with_reducible exact R0 _)))
                      refine wpQuiet_nil ?_
                      rintro w5 ⟨P5, rfl⟩
                      have HS5 := Lib.hid (HS.out.since P5.b)
                      clear k0 k1 R0 hV HS HE hx hy r1 r2 r3 r4
                      generalize P5.W = W5 at *
                      have HF : Hid (Sort.partialIns Sort.ltInt a b (5 - (t + 1)) (q + 1) (Sort.fixUp Sort.ltInt b (q + 1) ys) = Sort.partialInsertionSort Sort.ltInt d a b) := Lib.hid (by have := HL2.out; rw [← HE2.out] at this; exact this)
                      clear HL2 HE2
                      rcases Nat.lt_or_ge (q + 2) b with hb2 | hb2
                      · have r1 : (2 : Int) ≤ (b : Int) - ((q : Int) + 1) := by omega
                        have HF2 := Lib.hid ((congrArg (fun z => Sort.partialIns Sort.ltInt a b (5 - (t + 1)) (q + 1) z) (fu_yes (d := ys) hb2)).symm.trans HF.out)
                        go_wp2_with fail
                        go_loopw [10] (fun jv wr => ∃ (j : Nat) (zs : Array Int), q < j ∧ j < b ∧ jv = .int .i64 ((j : Int) + 1) ∧ Hid (Sort.shiftUp Sort.ltInt b (j + 1) zs = Sort.shiftUp Sort.ltInt b (q + 2) (ys)) ∧ Hid (Sd w base g n c zs wr)) (fun jv _ => b + 1 - (intOf jv).toNat)
                        case atStart => exact ⟨q + 1, ys, by omega, by omega, by go_num, Lib.hid rfl, HS5⟩
                        case round =>
                          clear HS5
                          obtain ⟨j, zs, hqj, hjb, rfl, HE, HS⟩ := hrel
                          rcases Nat.lt_or_ge (j + 1) b with hj1 | hj1
                          · have r2 : (j : Int) + 1 < (b : Int) := by omega
                            have r3 : (j : Int) + 1 < (n : Int) := by omega
                            have r4 : (j : Int) < (n : Int) := by omega
                            have r5 : (0 : Int) ≤ (j : Int) := by omega
                            obtain ⟨x, hx'⟩ : ∃ x, zs[j + 1]! = x := ⟨_, rfl⟩
                            have hx := Lib.hid hx'
                            clear hx'
                            obtain ⟨y, hy'⟩ : ∃ y, zs[j]! = y := ⟨_, rfl⟩
                            have hy := Lib.hid hy'
                            clear hy'
                            have k0 : ∀ p' : Snc wr, p'.W.cell? ⟨g, j + 1, none⟩ = some (.int .u32 x) := fun p' => by rw [← hx.out]; exact (HS.out.since p'.b).cell (by omega)
                            have k1 : ∀ p' : Snc wr, p'.W.cell? ⟨g, j, none⟩ = some (.int .u32 y) := fun p' => by rw [← hy.out]; exact (HS.out.since p'.b).cell (by omega)
                            cases hV : decide (x < y) with
                            | true =>
                              have R0 := lessV (w0 := wr) hV
                              have HE2 := Lib.hid ((sup_go hj1 hx.out hy.out hV).symm.trans HE.out)
                              go_upto_region 22 with fail
                              refine wp_region_since (by kernel_rfl) (by kernel_rfl) ?_
                              repeat (go_big_quiet_step ((go_at_call 232; with_reducible exact R0 _)))
                              refine wpQuiet_nil ?_
                              rintro w9 ⟨P9, rfl⟩
                              have HS9 := Lib.hid (HS.out.since P9.b)
                              clear k0 k1 R0 hV HS HE hx hy
                              generalize P9.W = W9 at *
                              have bx : (j + 1) < n := by omega
                              have by_ : j < n := by omega
                              obtain ⟨vx, hvx'⟩ : ∃ vx, (zs)[(j + 1)]! = vx := ⟨_, rfl⟩
                              obtain ⟨vy, hvy'⟩ : ∃ vy, (zs)[j]! = vy := ⟨_, rfl⟩
                              have cx : W9.cell? ⟨g, (j + 1), none⟩ = some (.int .u32 vx) := by rw [← hvx']; exact HS9.out.cell bx
                              have cy : W9.cell? ⟨g, j, none⟩ = some (.int .u32 vy) := by rw [← hvy']; exact HS9.out.cell by_
                              have fx : W9.frozen? ⟨g, (j + 1), none⟩ = false := HS9.out.frozen _
                              have fy : W9.frozen? ⟨g, j, none⟩ = false := HS9.out.frozen _
                              obtain ⟨vz, cz⟩ := Go.RowKit.cell?_setCell_some (w := W9) (p := ⟨g, (j + 1), none⟩) (x := .int .u32 vy) (q := ⟨g, j, none⟩) cy
                              have HS6 : Hid (Sd w base g n c (Sort.swp (zs) (j + 1) j) ((W9.setCell ⟨g, (j + 1), none⟩ (.int .u32 vy)).setCell ⟨g, j, none⟩ (.int .u32 vx)).drew) := Lib.hid (by
                                rw [← hvx', ← hvy']
                                exact (HS9.out.swap (j + 1) j).drew)
                              clear hvx' hvy'
                              go_upto_region 23 with fail
                              go_region
                              clear cx cy fx fy cz
                              all_goals go_wp2
                              all_goals go_roundw
                              case rel => exact ⟨j + 1, _, by omega, by omega, by go_num, HE2, HS6⟩
                              case measure => simp [intOf]; omega
                            | false =>
                              have R0 := lessV (w0 := wr) hV
                              have HE2 := Lib.hid ((sup_stop hx.out hy.out hV).symm.trans HE.out)
                              go_upto_region 22 with fail
                              refine wp_region_since (by kernel_rfl) (by kernel_rfl) ?_
                              repeat (go_big_quiet_step ((go_at_call 232; with_reducible exact R0 _)))
                              refine wpQuiet_nil ?_
                              rintro w9 ⟨P9, rfl⟩
                              have HS8 := Lib.hid (HS.out.since P9.b)
                              clear k0 k1 R0 hV HS HE hx hy
                              generalize P9.W = W9 at *
                              have HF3 : Hid (Sort.partialIns Sort.ltInt a b (5 - (t + 1)) (q + 1) zs = Sort.partialInsertionSort Sort.ltInt d a b) := Lib.hid (by have := HF2.out; rw [← HE2.out] at this; exact this)
                              go_wp2
                              go_roundw
                              case rel => exact ⟨t + 1, q, zs, by omega, by omega, by omega, by go_num, by go_num, HF3, HS8⟩
                              case measure => simp [intOf]; omega
                          · have r2 : ¬ (j : Int) + 1 < (b : Int) := by omega
                            have HE2 := Lib.hid ((sup_end (by omega)).symm.trans HE.out)
                            have HF3 : Hid (Sort.partialIns Sort.ltInt a b (5 - (t + 1)) (q + 1) zs = Sort.partialInsertionSort Sort.ltInt d a b) := Lib.hid (by have := HF2.out; rw [← HE2.out] at this; exact this)
                            have HS8 := HS
                            go_wp2
                            go_roundw
                            case rel => exact ⟨t + 1, q, zs, by omega, by omega, by omega, by go_num, by go_num, HF3, HS8⟩
                            case measure => simp [intOf]; omega
                      · have r1 : ¬ (2 : Int) ≤ (b : Int) - ((q : Int) + 1) := by omega
                        have HF2 := Lib.hid ((congrArg (fun z => Sort.partialIns Sort.ltInt a b (5 - (t + 1)) (q + 1) z) (fu_no (d := ys) hb2)).symm.trans HF.out)
                        have HS8 := HS5
                        go_wp2
                        go_roundw
                        case rel => exact ⟨t + 1, q, ys, by omega, by omega, by omega, by go_num, by go_num, HF2, HS8⟩
                        case measure => simp [intOf]; omega
              · have r8 : ¬ (2 : Int) ≤ ((q : Int) + 1) - (a : Int) := by omega
                have HF := Lib.hid ((congrArg (fun z => Sort.partialIns Sort.ltInt a b (5 - (t + 1)) (q + 1) (Sort.fixUp Sort.ltInt b (q + 1) z)) (fd_no (d := d1) (by omega))).symm.trans HL.out)
                have HS5 := HS6
                clear HS6 HL
                generalize W7 = W5 at *
                rcases Nat.lt_or_ge (q + 2) b with hb2 | hb2
                · have r1 : (2 : Int) ≤ (b : Int) - ((q : Int) + 1) := by omega
                  have HF2 := Lib.hid ((congrArg (fun z => Sort.partialIns Sort.ltInt a b (5 - (t + 1)) (q + 1) z) (fu_yes (d := d1) hb2)).symm.trans HF.out)
                  go_wp2_with fail
                  go_loopw [10] (fun jv wr => ∃ (j : Nat) (zs : Array Int), q < j ∧ j < b ∧ jv = .int .i64 ((j : Int) + 1) ∧ Hid (Sort.shiftUp Sort.ltInt b (j + 1) zs = Sort.shiftUp Sort.ltInt b (q + 2) (d1)) ∧ Hid (Sd w base g n c zs wr)) (fun jv _ => b + 1 - (intOf jv).toNat)
                  case atStart => exact ⟨q + 1, d1, by omega, by omega, by go_num, Lib.hid rfl, HS5⟩
                  case round =>
                    clear HS5
                    obtain ⟨j, zs, hqj, hjb, rfl, HE, HS⟩ := hrel
                    rcases Nat.lt_or_ge (j + 1) b with hj1 | hj1
                    · have r2 : (j : Int) + 1 < (b : Int) := by omega
                      have r3 : (j : Int) + 1 < (n : Int) := by omega
                      have r4 : (j : Int) < (n : Int) := by omega
                      have r5 : (0 : Int) ≤ (j : Int) := by omega
                      obtain ⟨x, hx'⟩ : ∃ x, zs[j + 1]! = x := ⟨_, rfl⟩
                      have hx := Lib.hid hx'
                      clear hx'
                      obtain ⟨y, hy'⟩ : ∃ y, zs[j]! = y := ⟨_, rfl⟩
                      have hy := Lib.hid hy'
                      clear hy'
                      have k0 : ∀ p' : Snc wr, p'.W.cell? ⟨g, j + 1, none⟩ = some (.int .u32 x) := fun p' => by rw [← hx.out]; exact (HS.out.since p'.b).cell (by omega)
                      have k1 : ∀ p' : Snc wr, p'.W.cell? ⟨g, j, none⟩ = some (.int .u32 y) := fun p' => by rw [← hy.out]; exact (HS.out.since p'.b).cell (by omega)
                      cases hV : decide (x < y) with
                      | true =>
                        have R0 := lessV (w0 := wr) hV
                        have HE2 := Lib.hid ((sup_go hj1 hx.out hy.out hV).symm.trans HE.out)
                        go_upto_region 22 with fail
                        refine wp_region_since (by kernel_rfl) (by kernel_rfl) ?_
                        repeat (go_big_quiet_step ((go_at_call 232; with_reducible exact R0 _)))
                        refine wpQuiet_nil ?_
                        rintro w9 ⟨P9, rfl⟩
                        have HS9 := Lib.hid (HS.out.since P9.b)
                        clear k0 k1 R0 hV HS HE hx hy
                        generalize P9.W = W9 at *
                        have bx : (j + 1) < n := by omega
                        have by_ : j < n := by omega
                        obtain ⟨vx, hvx'⟩ : ∃ vx, (zs)[(j + 1)]! = vx := ⟨_, rfl⟩
                        obtain ⟨vy, hvy'⟩ : ∃ vy, (zs)[j]! = vy := ⟨_, rfl⟩
                        have cx : W9.cell? ⟨g, (j + 1), none⟩ = some (.int .u32 vx) := by rw [← hvx']; exact HS9.out.cell bx
                        have cy : W9.cell? ⟨g, j, none⟩ = some (.int .u32 vy) := by rw [← hvy']; exact HS9.out.cell by_
                        have fx : W9.frozen? ⟨g, (j + 1), none⟩ = false := HS9.out.frozen _
                        have fy : W9.frozen? ⟨g, j, none⟩ = false := HS9.out.frozen _
                        obtain ⟨vz, cz⟩ := Go.RowKit.cell?_setCell_some (w := W9) (p := ⟨g, (j + 1), none⟩) (x := .int .u32 vy) (q := ⟨g, j, none⟩) cy
                        have HS6 : Hid (Sd w base g n c (Sort.swp (zs) (j + 1) j) ((W9.setCell ⟨g, (j + 1), none⟩ (.int .u32 vy)).setCell ⟨g, j, none⟩ (.int .u32 vx)).drew) := Lib.hid (by
                          rw [← hvx', ← hvy']
                          exact (HS9.out.swap (j + 1) j).drew)
                        clear hvx' hvy'
                        go_upto_region 23 with fail
                        go_region
                        clear cx cy fx fy cz
                        all_goals go_wp2
                        all_goals go_roundw
                        case rel => exact ⟨j + 1, _, by omega, by omega, by go_num, HE2, HS6⟩
                        case measure => simp [intOf]; omega
                      | false =>
                        have R0 := lessV (w0 := wr) hV
                        have HE2 := Lib.hid ((sup_stop hx.out hy.out hV).symm.trans HE.out)
                        go_upto_region 22 with fail
                        refine wp_region_since (by kernel_rfl) (by kernel_rfl) ?_
                        repeat (go_big_quiet_step ((go_at_call 232; with_reducible exact R0 _)))
                        refine wpQuiet_nil ?_
                        rintro w9 ⟨P9, rfl⟩
                        have HS8 := Lib.hid (HS.out.since P9.b)
                        clear k0 k1 R0 hV HS HE hx hy
                        generalize P9.W = W9 at *
                        have HF3 : Hid (Sort.partialIns Sort.ltInt a b (5 - (t + 1)) (q + 1) zs = Sort.partialInsertionSort Sort.ltInt d a b) := Lib.hid (by have := HF2.out; rw [← HE2.out] at this; exact this)
                        go_wp2
                        go_roundw
                        case rel => exact ⟨t + 1, q, zs, by omega, by omega, by omega, by go_num, by go_num, HF3, HS8⟩
                        case measure => simp [intOf]; omega
                    · have r2 : ¬ (j : Int) + 1 < (b : Int) := by omega
                      have HE2 := Lib.hid ((sup_end (by omega)).symm.trans HE.out)
                      have HF3 : Hid (Sort.partialIns Sort.ltInt a b (5 - (t + 1)) (q + 1) zs = Sort.partialInsertionSort Sort.ltInt d a b) := Lib.hid (by have := HF2.out; rw [← HE2.out] at this; exact this)
                      have HS8 := HS
                      go_wp2
                      go_roundw
                      case rel => exact ⟨t + 1, q, zs, by omega, by omega, by omega, by go_num, by go_num, HF3, HS8⟩
                      case measure => simp [intOf]; omega
                · have r1 : ¬ (2 : Int) ≤ (b : Int) - ((q : Int) + 1) := by omega
                  have HF2 := Lib.hid ((congrArg (fun z => Sort.partialIns Sort.ltInt a b (5 - (t + 1)) (q + 1) z) (fu_no (d := d1) hb2)).symm.trans HF.out)
                  have HS8 := HS5
                  go_wp2
                  go_roundw
                  case rel => exact ⟨t + 1, q, d1, by omega, by omega, by omega, by go_num, by go_num, HF2, HS8⟩
                  case measure => simp [intOf]; omega
        · have r1 : ¬ (q : Int) + 1 < (b : Int) := by omega
          have r2 : (((q : Int) + 1) == (b : Int)) = true := by simp; omega
          have hqb1 : q + 1 = b := by omega
          have HQ := Lib.hid hqb1
          have HI := Lib.hid (HE.out.symm.trans (ss_end (d := dk) (by omega)))
          have HL := Lib.hid ((pi_true HI.out hqb1).symm.trans HP1.out)
          clear hqb1
          go_upto_region 5 with fail
          refine wp_region_since (by kernel_rfl) (by kernel_rfl) ?_
          repeat (go_big_quiet_step (fail))
          refine wpQuiet_nil ?_
          rintro w5 ⟨P5, rfl⟩
          have HS5 := Lib.hid (HS.out.since P5.b)
          clear HS HE
          go_wp2
          go_returns
          exact ⟨by rw [← HL.out]; try rfl, by rw [← HL.out]; exact HS5.out⟩
    · have hE : t = 5 := by omega
      subst hE
      go_wp2
      go_returns
      exact ⟨by rw [← HP.out]; try rfl, by rw [← HP.out]; exact HS0.out⟩
end Go.Proofs.YtdljpokhcfhhfaaGreatDoor

