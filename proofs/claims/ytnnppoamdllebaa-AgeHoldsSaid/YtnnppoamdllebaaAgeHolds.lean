/- AgeHolds: the law of what is heard again and again, walked over the seat's program. -/
import Derived.Test.YtnnppoamdllebaaAhp
import Derived.Test.YtnnppoamdllebaaAddr
namespace Go.Proofs.Ytnnppoamdllebaa
open Go.RowKit Sm Ag
theorem wf_thing {i : Nat} (h : i ≤ 100) : wfT (2, (i : Int), 0, 0, 0) := by unfold wfT i64 isA; simp; omega
/-- Hear of one of the things -/
theorem hear_one {w wr : World} {N n k : Nat} (c : Int) (h : TS w N (IN n k) wr) (hk : k < n) (hn : n ≤ 100) :
    Calls Try.prog 10 #[.pointer (some ⟨N, 0, none⟩), .agg #[.int .i64 2, .int .i64 k, .int .u32 0, .int .u32 0, .int .u32 0], .agg #[.int .i64 0, .int .u32 0, .int .u32 0, .int .u32 0, .int .u32 0, .int .i64 0, .int .i64 c, .bool false, .slice none 0 0]] wr fun e w' => e = .returned (.bool true) ∧ TS w N (IN n (k + 1)) w' :=
  hear_ts h (2, (k : Int), 0, 0, 0) ⟨0, 0, 0, 0, 0, 0, c, false, []⟩ none 0 0 (wf_thing (by omega)) (fun M hM => hM.small hn (by omega)) (AR.none_ _ _) (by omega) (fun M hM => hM.step hk _)
set_option maxRecDepth 100000 in
set_option maxHeartbeats 8000000 in
theorem law_holds (a0 a1 a2 : Int) (w : World) :
    Calls Try.prog 4 #[.int .i64 a0, .int .i64 a1, .int .i64 a2] w fun e w' => e = .returned (.bool true) ∧ Below w.heap.size w w' := by
  obtain ⟨n, hn, hn9⟩ : ∃ n : Nat, a0 % 10 = (n : Int) ∧ n ≤ 9 := ⟨(a0 % 10).toNat, by omega, by omega⟩
  obtain ⟨evr, hev, hev6⟩ : ∃ n : Nat, a1 % 7 = (n : Int) ∧ n ≤ 6 := ⟨(a1 % 7).toNat, by omega, by omega⟩
  obtain ⟨tk, htk, htk19⟩ : ∃ n : Nat, a2 % 20 = (n : Int) ∧ n ≤ 19 := ⟨(a2 % 20).toNat, by omega, by omega⟩
  have HN0 := Lib.hid (fun W => number_any a0 10 W (by omega) (by omega))
  have HN1 := Lib.hid (fun W => number_any a1 7 W (by omega) (by omega))
  have HN2 := Lib.hid (fun W => number_any a2 20 W (by omega) (by omega))
  rw [hn] at HN0
  rw [hev] at HN1
  rw [htk] at HN2
  have HF := Lib.hid (first15_any w)
  clear hn hev htk
  go_enter Try.func4, Try.ntmps4
  go_wp2_with fail
  refine HF.out.mono ?_
  rintro e w1 ⟨rfl, hb1⟩
  have HB1 := Lib.hid hb1
  clear hb1 HF
  go_wp2_with fail
  refine (HN0.out _).mono ?_
  rintro e w' ⟨rfl, rfl⟩
  go_wp2_with fail
  refine (HN1.out _).mono ?_
  rintro e w' ⟨rfl, rfl⟩
  go_wp2_with fail
  refine (HN2.out _).mono ?_
  rintro e w' ⟨rfl, rfl⟩
  clear HN0 HN1 HN2
  have hTS : TS w w1.heap.size (IN (n + 1) 0) (w1.alloc (.cells #[.map none] 33)) := ⟨none, [], TP.new w1, ⟨.inr rfl, fun e he => by cases he⟩, ⟨HB1.out.size, by simp⟩, HB1.out.alloc HB1.out.size _⟩
  have HTS := Lib.hid hTS
  clear hTS
  obtain ⟨q, hq⟩ : ∃ q : Nat, q = n + 1 := ⟨_, rfl⟩
  have hq1 : ((n : Int) + 1) = (q : Int) := by omega
  have hq10 : 1 ≤ q ∧ q ≤ 10 := by omega
  obtain ⟨r, hr⟩ : ∃ q : Nat, q = evr + 1 := ⟨_, rfl⟩
  have hr1 : ((evr : Int) + 1) = (r : Int) := by omega
  have hr7 : 1 ≤ r ∧ r ≤ 7 := by omega
  rw [← hq] at HTS
  clear hq hr
  go_wp2_with fail
  generalize w1.alloc (.cells #[.map none] 33) = W2 at *
  generalize w1.heap.size = N at *
  clear HB1
  go_loopw [10] (fun iv wr => ∃ k : Nat, k ≤ q ∧ iv = .int .i64 k ∧ Hid (TS w N (IN q k) wr)) (fun iv _ => q - (intOf iv).toNat)
  case atStart => exact ⟨0, Nat.zero_le _, rfl, HTS⟩
  case round =>
    clear HTS
    obtain ⟨k, hk, rfl, HI⟩ := hrel
    rcases Nat.lt_or_ge k q with hlt | hge
    · have hi0 : (k : Int) < (q : Int) := by omega
      have HH := Lib.hid (hear_one (k : Int) HI.out hlt (by omega))
      go_wp2_with fail
      refine HH.out.mono ?_
      rintro e w2 ⟨rfl, ht⟩
      have HT := Lib.hid ht
      clear ht HH
      go_wp2
      go_roundw
      case rel => exact ⟨k + 1, hlt, by go_num, HT⟩
      case measure => simp [intOf]; omega
    · obtain rfl : q = k := by omega
      have hd : decide ((q : Int) < (q : Int)) = false := by simp
      have HS0 : Hid (TS w N (HS q 0) wr) := Lib.hid (HI.out.imp (fun M h => h.done))
      clear HI hk hge
      go_wp2_with fail
      clear hd
      go_loopw [9, 11] (fun ov iv wr => ∃ a i : Nat, 1 ≤ i ∧ i ≤ tk + 1 ∧ a < i ∧ ov = .int .i64 a ∧ iv = .int .i64 i ∧ Hid (TS w N (HS q a) wr)) (fun _ iv _ => tk + 1 - (intOf iv).toNat)
      case atStart => exact ⟨0, 1, by omega, by omega, by omega, rfl, rfl, HS0⟩
      case round =>
        clear HS0
        obtain ⟨a, i, h1i, hi, hai, rfl, rfl, HI⟩ := hrel
        rcases Nat.lt_or_ge tk i with hgt | hle
        · have hd : decide ((i : Int) ≤ (tk : Int)) = false := by simp; omega
          have hd2 : decide (i ≤ tk) = false := by simp; omega
          have HA1 := Lib.hid (all_ts HI.out 1 (fun M hM => by rw [hM.len]; split <;> omega) 0 (fun M hM L hL => hM.kinds.1 L hL))
          go_wp2_with fail
          refine HA1.out.mono ?_
          rintro e w2 ⟨A1, c1, rfl, ht⟩
          have HT := Lib.hid ht
          obtain ⟨l, hl⟩ : ∃ l : Nat, ∀ M, HS q a M → M.length = l := ⟨_, fun M hM => hM.len⟩
          have HA2 := Lib.hid (all_ts HT.out 2 (fun M hM => by rw [hM.len]; split <;> omega) l (fun M hM L hL => by rw [hM.kinds.2 L hL, hl M hM]))
          have HL := Lib.hid hl
          clear ht HA1 HI hl
          go_wp2_with fail
          refine HA2.out.mono ?_
          rintro e w3 ⟨A2, c2, rfl, ht⟩
          have HT3 := Lib.hid ht
          have HX := Lib.hid (len_ts HT3.out l HL.out)
          have hll : ((l : Int) == (l : Int)) = true := by simp
          clear ht HA2 HT HL
          go_wp2_with fail
          refine HX.out.mono ?_
          rintro e w' ⟨rfl, rfl⟩
          go_wp2
          go_ret
          exact ⟨rfl, HT3.out.below⟩
        · have hi0 : (i : Int) ≤ (tk : Int) := by omega
          have HTK := Lib.hid (tick_ts HI.out (fun M hM => by rw [hM.len]; split <;> omega) (Q := HS q (a + 1)) (fun M hM => hM.tick))
          have hr0 : (r : Int) ≠ 0 := by omega
          go_wp2_with fail
          refine HTK.out.mono ?_
          rintro e w2 ⟨v, rfl, ht⟩
          have HT := Lib.hid ht
          clear ht HTK HI
          obtain ⟨a', ha', ha1⟩ : ∃ b : Nat, (a : Int) + 1 = (b : Int) ∧ b = a + 1 := ⟨a + 1, by omega, rfl⟩
          have HT' : Hid (TS w N (HS q a') w2) := by rw [ha1]; exact HT
          have hbi : a' < i + 1 := by omega
          have hai2 : a' ≤ i := by omega
          clear HT ha1 hai
          go_wp2_with fail
          · have hmod : ((i : Int) % (r : Int) == 0) = true := by assumption
            rw [hmod]
            clear hmod
            go_loopw [12] (fun iv wr => ∃ k : Nat, k ≤ q ∧ iv = .int .i64 k ∧ Hid (TS w N (IN q k) wr)) (fun iv _ => q - (intOf iv).toNat)
            case atStart => exact ⟨0, Nat.zero_le _, rfl, Lib.hid (HT'.out.imp (fun M h => h.into))⟩
            case round =>
              clear HT'
              obtain ⟨k, hk, rfl, HI⟩ := hrel
              rcases Nat.lt_or_ge k q with hlt | hge
              · have hi1 : (k : Int) < (q : Int) := by omega
                have HH := Lib.hid (hear_one (i : Int) HI.out hlt (by omega))
                go_wp2_with fail
                refine HH.out.mono ?_
                rintro e w3 ⟨rfl, ht⟩
                have HT := Lib.hid ht
                clear ht HH
                go_wp2
                go_roundw
                case rel => exact ⟨k + 1, hlt, by go_num, HT⟩
                case measure => simp [intOf]; omega
              · obtain rfl : q = k := by omega
                have hd : decide ((q : Int) < (q : Int)) = false := by simp
                have HT : Hid (TS w N (HS q 0) wr) := Lib.hid (HI.out.imp (fun M h => h.done))
                clear HI hk hge
                have HX1 := Lib.hid (len_ts HT.out (if 0 ≤ 3 then q else 0) (fun M hM => hM.len))
                have HG := Lib.hid (get_hs HT.out hq10.1)
                have h6 : ((q : Int) == (q : Int)) = true := by simp
                have h7 : ((0 : Int) == (q : Int)) = false := by simp; omega
                have h7' : ((q : Int) == 0) = false := by simp; omega
                by_cases h3 : 0 ≤ 3
                · rw [if_pos h3] at HX1
                  have h4 : decide (0 ≤ 3) = true := by first | (simp; done) | (simp; omega)
                  have h4' : decide ((0 : Int) ≤ 3) = true := by first | (simp; done) | (simp; omega)
                  have h5 : decide (3 < 0) = false := by first | (simp; done) | (simp; omega)
                  have h5' : decide (3 < (0 : Int)) = false := by first | (simp; done) | (simp; omega)
                  go_wp2_with fail
                  refine HX1.out.mono ?_
                  rintro e w' ⟨rfl, rfl⟩
                  go_wp2_with fail
                  refine HG.out.mono ?_
                  rintro e w6 ⟨⟨⟨⟨z0, z1, z2, z3, z4⟩, z5, ⟨y0, y1, y2, y3, y4, y5, y6, y7, y8⟩⟩, A6, n6, c6⟩, rfl, hv, ht6⟩
                  have HT6 := Lib.hid ht6
                  obtain rfl : z5 = (0 : Int) := hv h3
                  clear ht6 hv
                  dsimp only [ev, encE]
                  have HT7 := Lib.hid (HT6.out.next (w2 := w6.alloc (.cells #[.int .i64 z0, .int .i64 z1, .int .u32 z2, .int .u32 z3, .int .u32 z4, .int .i64 (0 : Int), .int .i64 y0, .int .u32 y1, .int .u32 y2, .int .u32 y3, .int .u32 y4, .int .i64 y5, .int .i64 y6, .bool y7, .slice A6 n6 c6] 56)) ((Below.refl _ _).alloc (Nat.le_refl _) _))
                  clear HT6 HT HG HX1
                  go_wp2_with fail
                  go_roundw
                  case rel => exact ⟨0, i + 1, by omega, by omega, by omega, rfl, by go_num, HT7⟩
                  case measure => simp [intOf]; omega
                · exact absurd h3 (by omega)
          · have HT := HT'
            clear HT'
            have HX1 := Lib.hid (len_ts HT.out (if a' ≤ 3 then q else 0) (fun M hM => hM.len))
            have HG := Lib.hid (get_hs HT.out hq10.1)
            have h6 : ((q : Int) == (q : Int)) = true := by simp
            have h7 : ((0 : Int) == (q : Int)) = false := by simp; omega
            have h7' : ((q : Int) == 0) = false := by simp; omega
            by_cases h3 : a' ≤ 3
            · rw [if_pos h3] at HX1
              have h4 : decide (a' ≤ 3) = true := by first | (simp; done) | (simp; omega)
              have h4' : decide ((a' : Int) ≤ 3) = true := by first | (simp; done) | (simp; omega)
              have h5 : decide (3 < a') = false := by first | (simp; done) | (simp; omega)
              have h5' : decide (3 < (a' : Int)) = false := by first | (simp; done) | (simp; omega)
              go_wp2_with fail
              refine HX1.out.mono ?_
              rintro e w' ⟨rfl, rfl⟩
              go_wp2_with fail
              refine HG.out.mono ?_
              rintro e w6 ⟨⟨⟨⟨z0, z1, z2, z3, z4⟩, z5, ⟨y0, y1, y2, y3, y4, y5, y6, y7, y8⟩⟩, A6, n6, c6⟩, rfl, hv, ht6⟩
              have HT6 := Lib.hid ht6
              obtain rfl : z5 = (a' : Int) := hv h3
              clear ht6 hv
              dsimp only [ev, encE]
              have HT7 := Lib.hid (HT6.out.next (w2 := w6.alloc (.cells #[.int .i64 z0, .int .i64 z1, .int .u32 z2, .int .u32 z3, .int .u32 z4, .int .i64 (a' : Int), .int .i64 y0, .int .u32 y1, .int .u32 y2, .int .u32 y3, .int .u32 y4, .int .i64 y5, .int .i64 y6, .bool y7, .slice A6 n6 c6] 56)) ((Below.refl _ _).alloc (Nat.le_refl _) _))
              clear HT6 HT HG HX1
              go_wp2_with fail
              go_roundw
              case rel => exact ⟨a', i + 1, by omega, by omega, by omega, rfl, by go_num, HT7⟩
              case measure => simp [intOf]; omega
            · rw [if_neg h3] at HX1
              have h4 : decide (a' ≤ 3) = false := by first | (simp; done) | (simp; omega)
              have h4' : decide ((a' : Int) ≤ 3) = false := by first | (simp; done) | (simp; omega)
              have h5 : decide (3 < a') = true := by first | (simp; done) | (simp; omega)
              have h5' : decide (3 < (a' : Int)) = true := by first | (simp; done) | (simp; omega)
              go_wp2_with fail
              refine HX1.out.mono ?_
              rintro e w' ⟨rfl, rfl⟩
              go_wp2_with fail
              refine HX1.out.mono ?_
              rintro e w' ⟨rfl, rfl⟩
              go_wp2_with fail
              refine HG.out.mono ?_
              rintro e w6 ⟨⟨⟨⟨z0, z1, z2, z3, z4⟩, z5, ⟨y0, y1, y2, y3, y4, y5, y6, y7, y8⟩⟩, A6, n6, c6⟩, rfl, hv, ht6⟩
              have HT6 := Lib.hid ht6
              clear ht6 hv
              dsimp only [ev, encE]
              have HT7 := Lib.hid (HT6.out.next (w2 := w6.alloc (.cells #[.int .i64 z0, .int .i64 z1, .int .u32 z2, .int .u32 z3, .int .u32 z4, .int .i64 z5, .int .i64 y0, .int .u32 y1, .int .u32 y2, .int .u32 y3, .int .u32 y4, .int .i64 y5, .int .i64 y6, .bool y7, .slice A6 n6 c6] 56)) ((Below.refl _ _).alloc (Nat.le_refl _) _))
              clear HT6 HT HG HX1
              go_wp2_with fail
              go_roundw
              case rel => exact ⟨a', i + 1, by omega, by omega, by omega, rfl, by go_num, HT7⟩
              case measure => simp [intOf]; omega
end Go.Proofs.Ytnnppoamdllebaa

