/- In a line each router is on two links, each link but the ends has two ports, each address is found. -/
import Derived.Test.YtkghcahghmpeiaaGreatDoorFi
import Derived.Test.YtkghcahghmpeiaaGreatDoorMe
import Derived.Test.YtkghcahghmpeiaaGreatDoorLi
import Derived.Test.YtkghcahghmpeiaaGreatDoorLp
namespace Go.Proofs.YtkghcahghmpeiaaGreatDoor
open Go.RowKit Lx Sm Go.Maps
theorem jr_two (w : World) (x y : Int) (t : TypeId) : JR (w.alloc (.cells #[.int .i64 x, .int .i64 y] t)) (some ⟨w.heap.size, 0, none⟩) 2 [x, y] :=
  ⟨rfl, fun _ => ⟨_, 0, rfl, by simp, fun i hi => by
    rcases i with _ | _ | i
    · simp
    · simp
    · omega⟩⟩
theorem line_row {m k : Nat} {x' : Cfg} (hm : m ≤ 8) (hk : k < m) (h : Alike (lineCfg m 0) x') : rowIn (tabs x' x'.ps.length x'.ps.length x'.ms.length 1) x'.rs.length (k : Int) = [2 * (k : Int), 2 * (k : Int) + 1] := by
  have h1 : x'.ps.length = 2 * m := by rw [h.p]; exact psK_len m
  have h2 : x'.ms.length = 0 := by rw [alike_ms h]; rfl
  have h3 : x'.rs.length = m := by rw [h.r]; exact rsK_len m
  rw [alike_tabs h, h1, h2, h3]
  unfold rowIn
  rw [if_pos ⟨by omega, by omega⟩, Int.toNat_natCast]
  exact line_of ⟨m, by omega⟩ ⟨k, by omega⟩ hk
theorem line_links {m k : Nat} {x' : Cfg} (hm : m ≤ 8) (h0 : 0 < m) (hk : k ≤ m) (h : Alike (lineCfg m 0) x') : (rowIn (tabs x' x'.ps.length x'.ps.length x'.ms.length 0) x'.ls.length (k : Int)).length = if k = 0 ∨ k = m then 1 else 2 := by
  have h1 : x'.ps.length = 2 * m := by rw [h.p]; exact psK_len m
  have h2 : x'.ms.length = 0 := by rw [alike_ms h]; rfl
  have h3 : x'.ls.length = m + 1 := by rw [h.l]; exact lsK_len (m + 1)
  rw [alike_tabs h, h1, h2, h3]
  unfold rowIn
  rw [if_pos ⟨by omega, by omega⟩, Int.toNat_natCast]
  exact line_on ⟨m, by omega⟩ ⟨k, by omega⟩ h0 hk
set_option maxHeartbeats 8000000 in
set_option maxRecDepth 100000 in
theorem law_lines (ads : List Addr) (a0 : Int) (w : World) (hE : EnvC ads w) (ha : -9223372036854775808 ≤ a0) (hb : a0 ≤ 9223372036854775807) :
    Calls Tryz.prog 5 #[.int .i64 a0] w fun e w' => e = .returned (.bool true) ∧ Below w.heap.size w w' := by
  have HF := Lib.hid (first8_any ads w hE)
  have HE := Lib.hid hE
  clear hE
  by_cases hn : a0 < 0
  · have hd : decide (a0 < 0) = true := by simpa using hn
    go_enter Tryz.func5, Tryz.ntmps5
    go_wp2_with (go_at_call 7; refine HF.out.mono ?_; rintro e w1 ⟨rfl, hb1⟩)
    have hw1 : ∃ m : Nat, 1 ≤ m ∧ m ≤ 8 ∧ wrap64 (-(a0 + 1).tmod 8 + 1) = (m : Int) := by
      have h1 : (a0 + 1).tmod 8 = -((-(a0 + 1)) % 8) := by rw [← Int.neg_neg (a0 + 1), Int.neg_tmod, Int.tmod_eq_emod_of_nonneg (by omega), Int.neg_neg]
      rw [h1]
      refine ⟨(-(a0 + 1) % 8 + 1).toNat, by omega, by omega, ?_⟩
      rw [show - -(-(a0 + 1) % 8) = (-(a0 + 1)) % 8 by omega]
      have : wrap64 (-(a0 + 1) % 8 + 1) = -(a0 + 1) % 8 + 1 := by unfold wrap64; omega
      rw [this]; omega
    obtain ⟨m, hm1, hm8, hmm⟩ := hw1
    rw [hmm]
    clear hmm
    have hL := line_any m 0 (by omega) (by decide) w1
    rw [show ((0 : Nat) : Int) = 0 from rfl] at hL
    refine hL.mono ?_
    rintro e w2 ⟨M, rfl, hcw, hb2⟩
    clear hL
    have HCW := Lib.hid hcw
    have HB2 := Lib.hid (below_next hb1 hb2)
    clear hcw hb1 hb2
    have HB3 := Lib.hid ((Below.refl w2.heap.size w2).alloc (Nat.le_refl _) (.cells #[.slice M.r.A M.r.n M.r.c, .slice M.l.A M.l.n M.l.c, .slice M.p.A M.p.n M.p.c, .slice M.o.A M.o.n M.o.c, .slice M.g.A M.g.n M.g.c, .slice M.s.A M.s.n M.s.c, .slice M.m.A M.m.n M.m.c] 30))
    have hs0 : M.s.n = 0 := HCW.out.s.len.symm
    have hm0 : M.m.n = 0 := HCW.out.m.len.symm
    have HN := Lib.hid (new_ok ads M (lineCfg m 0) [] (w2.alloc (.cells #[.slice M.r.A M.r.n M.r.c, .slice M.l.A M.l.n M.l.c, .slice M.p.A M.p.n M.p.c, .slice M.o.A M.o.n M.o.c, .slice M.g.A M.g.n M.g.c, .slice M.s.A M.s.n M.s.c, .slice M.m.A M.m.n M.m.c] 30)) (HE.out.below (below_next HB2.out HB3.out)) (HCW.out.next HB3.out) (line_valid ⟨m, by omega⟩) (line_rn m 0) (line_ln m 0) (fun W _ => groups0_any M W hs0 hm0) (line_ports m 0) (fun y hy => (by cases hy)))
    clear hs0 hm0
    go_wp2_with (go_at_call 9; refine HN.out.mono ?_; rintro e w4 ⟨T, x', rfl, hT, hal, hb4⟩)
    have HT := Lib.hid hT
    have HAL := Lib.hid hal
    have HB4 := Lib.hid ((below_next HB2.out HB3.out).trans (hb4.mono (below_next HB2.out HB3.out).size))
    have HC4 := Lib.hid hb4
    clear hT hal hb4 HN
    go_loopw [7] (fun i wr => ∃ k : Nat, k ≤ m ∧ i = .int .i64 k ∧ Hid (Below w4.heap.size w4 wr)) (fun i _ => m - (intOf i).toNat)
    case atStart => exact ⟨0, Nat.zero_le _, rfl, Lib.hid (Below.refl _ _)⟩
    case round =>
      obtain ⟨k, hk, rfl, HBK⟩ := hrel
      rcases Nat.lt_or_ge k m with hlt | hge
      · have HOF := Lib.hid (tof_any (k : Int) wr (HT.out.next HBK.out))
        rw [line_row hm8 hlt HAL.out] at HOF
        have HOT := Lib.hid fun W (hW : Below w4.heap.size w4 W) => tothers_any (2 * k) k (k : Int) (adr k (k + 1)) (by rw [HAL.out.p]; exact line_p2 ⟨m, by omega⟩ ⟨k, by omega⟩ hlt) (by rw [HAL.out.l]; show k < (lsK (m + 1)).length; rw [lsK_len]; omega) W (HT.out.next hW)
        have hol : (oth x'.ps (k : Int) (k : Int)).length = min k 1 := by rw [HAL.out.p]; exact line_oth ⟨m, by omega⟩ ⟨k, by omega⟩ hlt
        rw [hol, show ((2 * k : Nat) : Int) = 2 * (k : Int) by omega] at HOT
        clear hol
        have hi0 : (k : Int) < (m : Int) := by omega
        go_wp2_with (first
          | (go_at_call 22; refine HOF.out.mono ?_; rintro e w5 ⟨A, c, rfl, hj, hb5⟩; have HJ := Lib.hid hj; have HB5 := Lib.hid (HBK.out.trans (hb5.mono HBK.out.size)); clear hj hb5)
          | (go_at_call 20; refine (jsame_any A (some ⟨w5.heap.size, 0, none⟩) 2 2 c 2 [2 * (k : Int), 2 * (k : Int) + 1] [2 * (k : Int), 2 * (k : Int) + 1] _ (HJ.out.next ((Below.refl _ _).alloc (Nat.le_refl _) _)) (jr_two _ _ _ _) (by decide) (by decide)).mono ?_; rintro e w6 ⟨rfl, hb6⟩; have HB6 := Lib.hid ((HB5.out.alloc HB5.out.size _).trans (hb6.mono (by have := HB5.out.size; simp; omega))); clear hb6; simp only [decide_true])
          | (go_at_call 24; refine (HOT.out _ HB6.out).mono ?_; rintro e w7 ⟨A7, c7, rfl, _, hb7⟩; have HB7 := Lib.hid (HB6.out.trans (hb7.mono HB6.out.size)); clear hb7))
        go_roundw
        case rel => exact ⟨k + 1, by omega, by go_num, HB7⟩
        case measure => simp [intOf]; omega
      · have hi0 : ¬ ((k : Int) < (m : Int)) := by omega
        clear hge
        go_wp2
        go_loopw [8] (fun i w' => ∃ j : Nat, j ≤ m + 1 ∧ i = .int .i64 j ∧ Hid (Below w4.heap.size w4 w')) (fun i _ => m + 1 - (intOf i).toNat)
        case atStart => exact ⟨0, Nat.zero_le _, rfl, HBK⟩
        case round =>
          obtain ⟨j, hj, rfl, HBJ⟩ := hrel
          rcases Nat.lt_or_ge m j with hlt | hle
          · have hj0 : ¬ ((j : Int) ≤ (m : Int)) := by omega
            have hpn : M.p.n = 2 * m := HCW.out.p.len.symm.trans (psK_len m)
            have HBK2 := Lib.hid fun W (hW : Below w4.heap.size w4 W) => Blk.cell (((Blk.new w2 30 #[.slice M.r.A M.r.n M.r.c, .slice M.l.A M.l.n M.l.c, .slice M.p.A M.p.n M.p.c, .slice M.o.A M.o.n M.o.c, .slice M.g.A M.g.n M.g.c, .slice M.s.A M.s.n M.s.c, .slice M.m.A M.m.n M.m.c]).next HC4.out).next hW) 2
            have HPP := Lib.hid fun W (hW : Below w4.heap.size w4 W) => IR.next (IR.next (IR.next HCW.out.p HB3.out) HC4.out) hW
            go_wp2
            go_loopw [10] (fun i w' => ∃ q : Nat, q ≤ 2 * m ∧ i = .int .i64 q ∧ Hid (Below w4.heap.size w4 w')) (fun i _ => 2 * m - (intOf i).toNat)
            case atStart => exact ⟨0, Nat.zero_le _, rfl, HBJ⟩
            case round =>
              obtain ⟨q, hq, rfl, HBQ⟩ := hrel
              have y2 : wr.cell? ⟨w2.heap.size, 2, none⟩ = some (.slice M.p.A M.p.n M.p.c) := HBK2.out _ HBQ.out
              rcases Nat.lt_or_ge q (2 * m) with hlq | hgq
              · have hq0 : (q : Int) < (M.p.n : Int) := by omega
                obtain ⟨bq, oq, ⟨r1, l1, a1⟩, hA, _, hx, _, _, c3⟩ := IPort.cells (HPP.out _ HBQ.out) (i := q) (by omega)
                have ha1 : U32 a1 := (line_ok m 0 hm8 (by omega)).2.1 _ (List.mem_of_getElem? hx)
                have hl : lastAt a1 x'.ps x'.ps.length = some q := by
                  have h1 : x'.ps.length = 2 * m := by rw [HAL.out.p]; exact psK_len m
                  have h2 := line_at ⟨m, by omega⟩ ⟨q, by omega⟩ hlq
                  have h3 : (psK m)[q]? = some (r1, l1, a1) := hx
                  rw [h1, HAL.out.p]
                  simp only [h3, Option.map_some, Option.some.injEq] at h2
                  exact h2
                have HTA := Lib.hid fun W (hW : Below w4.heap.size w4 W) => tat_any a1 ha1 W (HT.out.next hW)
                simp only [hl, Option.getD_some, Option.isSome_some] at HTA
                rw [hA] at y2
                clear hx hl ha1 hA
                go_wp2_with (go_at_call 17; refine (HTA.out _ HBQ.out).mono ?_; rintro e w5 ⟨rfl, hb5⟩; have HB5 := Lib.hid (HBQ.out.trans (hb5.mono HBQ.out.size)); clear hb5)
                go_roundw
                case rel => exact ⟨q + 1, by omega, by go_num, HB5⟩
                case measure => simp [intOf]; omega
              · have hq0 : ¬ ((q : Int) < (M.p.n : Int)) := by omega
                have hl : lastAt (adr 99 1) x'.ps x'.ps.length = none := by
                  have h1 : x'.ps.length = 2 * m := by rw [HAL.out.p]; exact psK_len m
                  rw [h1, HAL.out.p]
                  exact line_none ⟨m, by omega⟩
                have HTA := Lib.hid fun W (hW : Below w4.heap.size w4 W) => tat_any (adr 99 1) ⟨by decide, by decide⟩ W (HT.out.next hW)
                simp only [hl, Option.getD_none, Option.isSome_none] at HTA
                have HNA := Lib.hid (naddr_any 99 1 (by decide) (by decide) wr)
                go_wp2_with (first
                  | (go_at_call 31; refine HNA.out.mono ?_; rintro e w5 ⟨rfl, rfl⟩)
                  | (go_at_call 17; refine (HTA.out _ HBQ.out).mono ?_; rintro e w6 ⟨rfl, hb6⟩; have HB6 := Lib.hid (HBQ.out.trans (hb6.mono HBQ.out.size)); clear hb6))
                go_ret
                exact ⟨rfl, HB4.out.trans (HB6.out.mono HB4.out.size)⟩
          · have hj0 : (j : Int) ≤ (m : Int) := by omega
            have HON := Lib.hid fun W (hW : Below w4.heap.size w4 W) => ton_any (j : Int) W (HT.out.next hW)
            rw [line_links hm8 (by omega) hle HAL.out] at HON
            by_cases h0 : (j : Int) = 0
            · have hif : (if j = 0 ∨ j = m then 1 else 2) = 1 := if_pos (by omega)
              have e0 : ((j : Int) == 0) = true := by simp [h0]
              rw [hif] at HON
              clear hif h0
              go_wp2_with (go_at_call 21; refine (HON.out _ HBJ.out).mono ?_; rintro e w5 ⟨A, c, rfl, _, hb5⟩; have HB5 := Lib.hid (HBJ.out.trans (hb5.mono HBJ.out.size)); clear hb5)
              go_roundw
              case rel => exact ⟨j + 1, by omega, by go_num, HB5⟩
              case measure => simp [intOf]; omega
            · by_cases h1 : (j : Int) = (m : Int)
              · have hif : (if j = 0 ∨ j = m then 1 else 2) = 1 := if_pos (by omega)
                have e0 : ((j : Int) == 0) = false := by simp; omega
                have e1 : ((j : Int) == (m : Int)) = true := by simp; omega
                rw [hif] at HON
                clear hif h0 h1
                go_wp2_with (go_at_call 21; refine (HON.out _ HBJ.out).mono ?_; rintro e w5 ⟨A, c, rfl, _, hb5⟩; have HB5 := Lib.hid (HBJ.out.trans (hb5.mono HBJ.out.size)); clear hb5)
                go_roundw
                case rel => exact ⟨j + 1, by omega, by go_num, HB5⟩
                case measure => simp [intOf]; omega
              · have hif : (if j = 0 ∨ j = m then 1 else 2) = 2 := if_neg (by omega)
                have e0 : ((j : Int) == 0) = false := by simp; omega
                have e1 : ((j : Int) == (m : Int)) = false := by simp; omega
                rw [hif] at HON
                clear hif h0 h1
                go_wp2_with (go_at_call 21; refine (HON.out _ HBJ.out).mono ?_; rintro e w5 ⟨A, c, rfl, _, hb5⟩; have HB5 := Lib.hid (HBJ.out.trans (hb5.mono HBJ.out.size)); clear hb5)
                go_roundw
                case rel => exact ⟨j + 1, by omega, by go_num, HB5⟩
                case measure => simp [intOf]; omega
  · have hd : decide (a0 < 0) = false := by simpa using hn
    go_enter Tryz.func5, Tryz.ntmps5
    go_wp2_with (go_at_call 7; refine HF.out.mono ?_; rintro e w1 ⟨rfl, hb1⟩)
    obtain ⟨m, hm1, hm8, hmm⟩ : ∃ m : Nat, 1 ≤ m ∧ m ≤ 8 ∧ a0 % 8 + 1 = (m : Int) := ⟨(a0 % 8 + 1).toNat, by omega, by omega, by omega⟩
    rw [hmm]
    clear hmm
    have hL := line_any m 0 (by omega) (by decide) w1
    rw [show ((0 : Nat) : Int) = 0 from rfl] at hL
    refine hL.mono ?_
    rintro e w2 ⟨M, rfl, hcw, hb2⟩
    clear hL
    have HCW := Lib.hid hcw
    have HB2 := Lib.hid (below_next hb1 hb2)
    clear hcw hb1 hb2
    have HB3 := Lib.hid ((Below.refl w2.heap.size w2).alloc (Nat.le_refl _) (.cells #[.slice M.r.A M.r.n M.r.c, .slice M.l.A M.l.n M.l.c, .slice M.p.A M.p.n M.p.c, .slice M.o.A M.o.n M.o.c, .slice M.g.A M.g.n M.g.c, .slice M.s.A M.s.n M.s.c, .slice M.m.A M.m.n M.m.c] 30))
    have hs0 : M.s.n = 0 := HCW.out.s.len.symm
    have hm0 : M.m.n = 0 := HCW.out.m.len.symm
    have HN := Lib.hid (new_ok ads M (lineCfg m 0) [] (w2.alloc (.cells #[.slice M.r.A M.r.n M.r.c, .slice M.l.A M.l.n M.l.c, .slice M.p.A M.p.n M.p.c, .slice M.o.A M.o.n M.o.c, .slice M.g.A M.g.n M.g.c, .slice M.s.A M.s.n M.s.c, .slice M.m.A M.m.n M.m.c] 30)) (HE.out.below (below_next HB2.out HB3.out)) (HCW.out.next HB3.out) (line_valid ⟨m, by omega⟩) (line_rn m 0) (line_ln m 0) (fun W _ => groups0_any M W hs0 hm0) (line_ports m 0) (fun y hy => (by cases hy)))
    clear hs0 hm0
    go_wp2_with (go_at_call 9; refine HN.out.mono ?_; rintro e w4 ⟨T, x', rfl, hT, hal, hb4⟩)
    have HT := Lib.hid hT
    have HAL := Lib.hid hal
    have HB4 := Lib.hid ((below_next HB2.out HB3.out).trans (hb4.mono (below_next HB2.out HB3.out).size))
    have HC4 := Lib.hid hb4
    clear hT hal hb4 HN
    go_loopw [7] (fun i wr => ∃ k : Nat, k ≤ m ∧ i = .int .i64 k ∧ Hid (Below w4.heap.size w4 wr)) (fun i _ => m - (intOf i).toNat)
    case atStart => exact ⟨0, Nat.zero_le _, rfl, Lib.hid (Below.refl _ _)⟩
    case round =>
      obtain ⟨k, hk, rfl, HBK⟩ := hrel
      rcases Nat.lt_or_ge k m with hlt | hge
      · have HOF := Lib.hid (tof_any (k : Int) wr (HT.out.next HBK.out))
        rw [line_row hm8 hlt HAL.out] at HOF
        have HOT := Lib.hid fun W (hW : Below w4.heap.size w4 W) => tothers_any (2 * k) k (k : Int) (adr k (k + 1)) (by rw [HAL.out.p]; exact line_p2 ⟨m, by omega⟩ ⟨k, by omega⟩ hlt) (by rw [HAL.out.l]; show k < (lsK (m + 1)).length; rw [lsK_len]; omega) W (HT.out.next hW)
        have hol : (oth x'.ps (k : Int) (k : Int)).length = min k 1 := by rw [HAL.out.p]; exact line_oth ⟨m, by omega⟩ ⟨k, by omega⟩ hlt
        rw [hol, show ((2 * k : Nat) : Int) = 2 * (k : Int) by omega] at HOT
        clear hol
        have hi0 : (k : Int) < (m : Int) := by omega
        go_wp2_with (first
          | (go_at_call 22; refine HOF.out.mono ?_; rintro e w5 ⟨A, c, rfl, hj, hb5⟩; have HJ := Lib.hid hj; have HB5 := Lib.hid (HBK.out.trans (hb5.mono HBK.out.size)); clear hj hb5)
          | (go_at_call 20; refine (jsame_any A (some ⟨w5.heap.size, 0, none⟩) 2 2 c 2 [2 * (k : Int), 2 * (k : Int) + 1] [2 * (k : Int), 2 * (k : Int) + 1] _ (HJ.out.next ((Below.refl _ _).alloc (Nat.le_refl _) _)) (jr_two _ _ _ _) (by decide) (by decide)).mono ?_; rintro e w6 ⟨rfl, hb6⟩; have HB6 := Lib.hid ((HB5.out.alloc HB5.out.size _).trans (hb6.mono (by have := HB5.out.size; simp; omega))); clear hb6; simp only [decide_true])
          | (go_at_call 24; refine (HOT.out _ HB6.out).mono ?_; rintro e w7 ⟨A7, c7, rfl, _, hb7⟩; have HB7 := Lib.hid (HB6.out.trans (hb7.mono HB6.out.size)); clear hb7))
        go_roundw
        case rel => exact ⟨k + 1, by omega, by go_num, HB7⟩
        case measure => simp [intOf]; omega
      · have hi0 : ¬ ((k : Int) < (m : Int)) := by omega
        clear hge
        go_wp2
        go_loopw [8] (fun i w' => ∃ j : Nat, j ≤ m + 1 ∧ i = .int .i64 j ∧ Hid (Below w4.heap.size w4 w')) (fun i _ => m + 1 - (intOf i).toNat)
        case atStart => exact ⟨0, Nat.zero_le _, rfl, HBK⟩
        case round =>
          obtain ⟨j, hj, rfl, HBJ⟩ := hrel
          rcases Nat.lt_or_ge m j with hlt | hle
          · have hj0 : ¬ ((j : Int) ≤ (m : Int)) := by omega
            have hpn : M.p.n = 2 * m := HCW.out.p.len.symm.trans (psK_len m)
            have HBK2 := Lib.hid fun W (hW : Below w4.heap.size w4 W) => Blk.cell (((Blk.new w2 30 #[.slice M.r.A M.r.n M.r.c, .slice M.l.A M.l.n M.l.c, .slice M.p.A M.p.n M.p.c, .slice M.o.A M.o.n M.o.c, .slice M.g.A M.g.n M.g.c, .slice M.s.A M.s.n M.s.c, .slice M.m.A M.m.n M.m.c]).next HC4.out).next hW) 2
            have HPP := Lib.hid fun W (hW : Below w4.heap.size w4 W) => IR.next (IR.next (IR.next HCW.out.p HB3.out) HC4.out) hW
            go_wp2
            go_loopw [10] (fun i w' => ∃ q : Nat, q ≤ 2 * m ∧ i = .int .i64 q ∧ Hid (Below w4.heap.size w4 w')) (fun i _ => 2 * m - (intOf i).toNat)
            case atStart => exact ⟨0, Nat.zero_le _, rfl, HBJ⟩
            case round =>
              obtain ⟨q, hq, rfl, HBQ⟩ := hrel
              have y2 : wr.cell? ⟨w2.heap.size, 2, none⟩ = some (.slice M.p.A M.p.n M.p.c) := HBK2.out _ HBQ.out
              rcases Nat.lt_or_ge q (2 * m) with hlq | hgq
              · have hq0 : (q : Int) < (M.p.n : Int) := by omega
                obtain ⟨bq, oq, ⟨r1, l1, a1⟩, hA, _, hx, _, _, c3⟩ := IPort.cells (HPP.out _ HBQ.out) (i := q) (by omega)
                have ha1 : U32 a1 := (line_ok m 0 hm8 (by omega)).2.1 _ (List.mem_of_getElem? hx)
                have hl : lastAt a1 x'.ps x'.ps.length = some q := by
                  have h1 : x'.ps.length = 2 * m := by rw [HAL.out.p]; exact psK_len m
                  have h2 := line_at ⟨m, by omega⟩ ⟨q, by omega⟩ hlq
                  have h3 : (psK m)[q]? = some (r1, l1, a1) := hx
                  rw [h1, HAL.out.p]
                  simp only [h3, Option.map_some, Option.some.injEq] at h2
                  exact h2
                have HTA := Lib.hid fun W (hW : Below w4.heap.size w4 W) => tat_any a1 ha1 W (HT.out.next hW)
                simp only [hl, Option.getD_some, Option.isSome_some] at HTA
                rw [hA] at y2
                clear hx hl ha1 hA
                go_wp2_with (go_at_call 17; refine (HTA.out _ HBQ.out).mono ?_; rintro e w5 ⟨rfl, hb5⟩; have HB5 := Lib.hid (HBQ.out.trans (hb5.mono HBQ.out.size)); clear hb5)
                go_roundw
                case rel => exact ⟨q + 1, by omega, by go_num, HB5⟩
                case measure => simp [intOf]; omega
              · have hq0 : ¬ ((q : Int) < (M.p.n : Int)) := by omega
                have hl : lastAt (adr 99 1) x'.ps x'.ps.length = none := by
                  have h1 : x'.ps.length = 2 * m := by rw [HAL.out.p]; exact psK_len m
                  rw [h1, HAL.out.p]
                  exact line_none ⟨m, by omega⟩
                have HTA := Lib.hid fun W (hW : Below w4.heap.size w4 W) => tat_any (adr 99 1) ⟨by decide, by decide⟩ W (HT.out.next hW)
                simp only [hl, Option.getD_none, Option.isSome_none] at HTA
                have HNA := Lib.hid (naddr_any 99 1 (by decide) (by decide) wr)
                go_wp2_with (first
                  | (go_at_call 31; refine HNA.out.mono ?_; rintro e w5 ⟨rfl, rfl⟩)
                  | (go_at_call 17; refine (HTA.out _ HBQ.out).mono ?_; rintro e w6 ⟨rfl, hb6⟩; have HB6 := Lib.hid (HBQ.out.trans (hb6.mono HBQ.out.size)); clear hb6))
                go_ret
                exact ⟨rfl, HB4.out.trans (HB6.out.mono HB4.out.size)⟩
          · have hj0 : (j : Int) ≤ (m : Int) := by omega
            have HON := Lib.hid fun W (hW : Below w4.heap.size w4 W) => ton_any (j : Int) W (HT.out.next hW)
            rw [line_links hm8 (by omega) hle HAL.out] at HON
            by_cases h0 : (j : Int) = 0
            · have hif : (if j = 0 ∨ j = m then 1 else 2) = 1 := if_pos (by omega)
              have e0 : ((j : Int) == 0) = true := by simp [h0]
              rw [hif] at HON
              clear hif h0
              go_wp2_with (go_at_call 21; refine (HON.out _ HBJ.out).mono ?_; rintro e w5 ⟨A, c, rfl, _, hb5⟩; have HB5 := Lib.hid (HBJ.out.trans (hb5.mono HBJ.out.size)); clear hb5)
              go_roundw
              case rel => exact ⟨j + 1, by omega, by go_num, HB5⟩
              case measure => simp [intOf]; omega
            · by_cases h1 : (j : Int) = (m : Int)
              · have hif : (if j = 0 ∨ j = m then 1 else 2) = 1 := if_pos (by omega)
                have e0 : ((j : Int) == 0) = false := by simp; omega
                have e1 : ((j : Int) == (m : Int)) = true := by simp; omega
                rw [hif] at HON
                clear hif h0 h1
                go_wp2_with (go_at_call 21; refine (HON.out _ HBJ.out).mono ?_; rintro e w5 ⟨A, c, rfl, _, hb5⟩; have HB5 := Lib.hid (HBJ.out.trans (hb5.mono HBJ.out.size)); clear hb5)
                go_roundw
                case rel => exact ⟨j + 1, by omega, by go_num, HB5⟩
                case measure => simp [intOf]; omega
              · have hif : (if j = 0 ∨ j = m then 1 else 2) = 2 := if_neg (by omega)
                have e0 : ((j : Int) == 0) = false := by simp; omega
                have e1 : ((j : Int) == (m : Int)) = false := by simp; omega
                rw [hif] at HON
                clear hif h0 h1
                go_wp2_with (go_at_call 21; refine (HON.out _ HBJ.out).mono ?_; rintro e w5 ⟨A, c, rfl, _, hb5⟩; have HB5 := Lib.hid (HBJ.out.trans (hb5.mono HBJ.out.size)); clear hb5)
                go_roundw
                case rel => exact ⟨j + 1, by omega, by go_num, HB5⟩
                case measure => simp [intOf]; omega
end Go.Proofs.YtkghcahghmpeiaaGreatDoor

