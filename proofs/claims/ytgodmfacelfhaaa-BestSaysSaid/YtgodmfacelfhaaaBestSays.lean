/- P18.1: which bid is better, which the best, which lost: as the document has it; walked. -/
import Derived.Test.YtgodmfacelfhaaaBe
import Derived.Deep.CutRange
namespace Go.Proofs.Ytgodmfacelfhaaa
open Go.RowKit
theorem dcheap_any (a b c d : Int) (w : World) : Calls Try.prog 14 #[.int .i64 a, .int .u32 b, .int .i64 c, .int .u32 d] w fun e w' => e = .returned (.bool (cheaper (a, b) (c, d))) ∧ Below w.heap.size w w' := by
  have HE : Hid (cheaper (a, b) (c, d) = if a = c then decide (d < b) else decide (a < c)) := Lib.hid rfl
  go_enter Try.func14, Try.ntmps14
  by_cases h : a = c
  · have h1 : (a == c) = true := by simpa using h
    have h2 : decide (a < c) = false := by simp; omega
    go_wp2
    go_ret
    exact ⟨by rw [HE.out, if_pos h]; rfl, Below.refl _ _⟩
  · have h1 : (a == c) = false := by simpa using h
    by_cases h2 : a < c
    · have h3 : decide (a < c) = true := by simpa using h2
      go_wp2
      go_ret
      exact ⟨by rw [HE.out, if_neg h, h3]; rfl, Below.refl _ _⟩
    · have h3 : decide (a < c) = false := by simpa using h2
      go_wp2
      go_ret
      exact ⟨by rw [HE.out, if_neg h, h3]; rfl, Below.refl _ _⟩
theorem lcheap_any (p q : Bd) (w : World) : Calls Try.prog 11 #[.agg #[.int .i64 p.1, .int .u32 p.2], .agg #[.int .i64 q.1, .int .u32 q.2]] w fun e w' => e = .returned (.bool (cheaper p q)) ∧ Below w.heap.size w w' := by
  obtain ⟨a, b⟩ := p
  obtain ⟨c, d⟩ := q
  have hb0 := ((Below.refl w.heap.size w).alloc (Nat.le_refl _) (.cells #[.int .i64 a, .int .u32 b] 30)).alloc (by simp) (.cells #[.int .i64 c, .int .u32 d] 30)
  have HB0 := Lib.hid hb0
  clear hb0
  have H := Lib.hid fun W => dcheap_any a b c d W
  go_enter Try.func11, Try.ntmps11
  go_wp2_with (go_at_call 14; (with_reducible refine (H.out _).mono ?_); rintro e w1 ⟨rfl, hb1⟩; have HB1 := Lib.hid (below_next HB0.out hb1); clear hb1)
  go_ret
  exact ⟨rfl, HB1.out⟩
theorem cs_v {w0 : World} {a b c d : Int} {V : Bool} (h : cheaper (a, b) (c, d) = V) (P : Snc w0) : Calls Try.prog 10 #[.agg #[.int .i64 a, .int .u32 b], .agg #[.int .i64 c, .int .u32 d]] P.W fun e w' => e = .returned (.bool V) ∧ ∃ Q : Snc w0, w' = Q.W :=
  Calls.since (by have := bbetter_any (a, b) (c, d) P.W; rw [h] at this; exact this)
theorem cl_v {w0 : World} {a b c d : Int} {V : Bool} (h : cheaper (a, b) (c, d) = V) (P : Snc w0) : Calls Try.prog 11 #[.agg #[.int .i64 a, .int .u32 b], .agg #[.int .i64 c, .int .u32 d]] P.W fun e w' => e = .returned (.bool V) ∧ ∃ Q : Snc w0, w' = Q.W :=
  Calls.since (by have := lcheap_any (a, b) (c, d) P.W; rw [h] at this; exact this)
theorem leastB_succ (xs : List Bd) (k : Nat) : leastB xs (k + 1) = if cheaper (xs.getD k (0, 0)) (xs.getD (leastB xs k) (0, 0)) then k else leastB xs k := rfl
/-- where the best of the first is, as the loop has it; whether one of the first is better -/
def atP (xs : List Bd) (k : Nat) : Int := if k = 0 then -1 else (leastB xs k : Int)
def lsP (ex : Bool) (m : Nat) (own : Bd) (xs : List Bd) (k : Nat) : Bool := (!ex && decide (0 < m)) || (xs.take k).any fun x => cheaper x own
theorem lsP_next {ex : Bool} {m : Nat} {own x : Bd} {xs : List Bd} {k : Nat} (h : xs[k]? = some x) : lsP ex m own xs (k + 1) = (lsP ex m own xs k || cheaper x own) := by
  unfold lsP
  rw [List.take_add_one, h]
  simp [List.any_append, Bool.or_assoc]
set_option maxRecDepth 100000 in
set_option maxHeartbeats 4000000 in
theorem law_bsays (a b : Int) (ex : Bool) (A : Option Addr) (n c : Nat) (xs : List Bd) (B : Option Addr) (m d : Nat) (w : World) (h : RI CBd 2 w A n xs) :
    Calls Try.prog 4 #[.agg #[.int .i64 a, .int .u32 b], .bool ex, .slice A n c, .slice B m d] w fun e w' => e = .returned (.bool true) ∧ Below w.heap.size w w' := by
  have hb0 := (Below.refl w.heap.size w).alloc (Nat.le_refl _) (.cells #[.int .i64 a, .int .u32 b] 30)
  have HR0 : Hid (∀ W, Below (w.alloc (.cells #[.int .i64 a, .int .u32 b] 30)).heap.size (w.alloc (.cells #[.int .i64 a, .int .u32 b] 30)) W → RI CBd 2 W A n xs) := Lib.hid fun W hW => h.next (below_next hb0 hW)
  have e0 : (w.alloc (.cells #[.int .i64 a, .int .u32 b] 30)).cell? ⟨w.heap.size, 0, none⟩ = some (.int .i64 a) := by go_simp
  have e1 : (w.alloc (.cells #[.int .i64 a, .int .u32 b] 30)).cell? ⟨w.heap.size, 1, none⟩ = some (.int .u32 b) := by go_simp
  have hl : w.heap.size < (w.alloc (.cells #[.int .i64 a, .int .u32 b] 30)).heap.size := by simp
  have HLEN := Lib.hid h.len
  clear h
  go_enter Try.func4, Try.ntmps4
  go_upto_region 1 with fail
  generalize w.alloc (.cells #[.int .i64 a, .int .u32 b] 30) = w0 at *
  replace e0 := Lib.hid fun W (hW : Below w0.heap.size w0 W) => (hW.cell (p := ⟨w.heap.size, 0, none⟩) hl).trans e0
  replace e1 := Lib.hid fun W (hW : Below w0.heap.size w0 W) => (hW.cell (p := ⟨w.heap.size, 1, none⟩) hl).trans e1
  have HB0 := Lib.hid hb0
  clear hb0 hl
  go_upto_region 4 with (go_at_call 7; refine (first18_any _).mono ?_; rintro e w1 ⟨rfl, hb1⟩; have HB1 := Lib.hid hb1; clear hb1)
  by_cases hbig : 20 < n
  · have hd : decide ((20 : Int) < (n : Int)) = true := by simp; omega
    go_wp2
    go_ret
    exact ⟨rfl, below_next HB0.out HB1.out⟩
  have hd : decide ((20 : Int) < (n : Int)) = false := by simp; omega
  have hd' : ¬ (20 : Int) < (n : Int) := by omega
  by_cases hbig2 : 20 < m
  · have hd2 : decide ((20 : Int) < (m : Int)) = true := by simp; omega
    go_wp2
    go_ret
    exact ⟨rfl, below_next HB0.out HB1.out⟩
  have hd2 : decide ((20 : Int) < (m : Int)) = false := by simp; omega
  have hd2' : ¬ (20 : Int) < (m : Int) := by omega
  go_upto_region 7 with fail
  have HS0 : Hid (lsP ex m (a, b) xs 0 = (!ex && decide (0 < m))) := Lib.hid (by unfold lsP; simp)
  go_cut [11] from 26 to 32 (fun s11 wc => s11 = .bool (lsP ex m (a, b) xs 0) ∧ wc = w1)
  case first =>
    cases ex with
    | true =>
      go_wp2_with fail
      go_meet
      case rel => exact ⟨by rw [HS0.out]; rfl, rfl⟩
    | false =>
      by_cases hm : 0 < m
      · have hm1 : (0 : Int) < (m : Int) := by omega
        have hm2 : decide ((0 : Int) < (m : Int)) = true := by simpa using hm1
        go_wp2_with fail
        go_meet
        case rel => exact ⟨by rw [HS0.out]; simp [hm], rfl⟩
      · have hm1 : ¬ (0 : Int) < (m : Int) := by omega
        have hm2 : decide ((0 : Int) < (m : Int)) = false := by simpa using hm1
        go_wp2_with fail
        go_meet
        case rel => exact ⟨by rw [HS0.out]; simp [hm], rfl⟩
  case rest =>
    obtain ⟨rfl, rfl⟩ := hcut
    go_wp2_with fail
    go_loopw [10, 11, 12] (fun av lv iv wr => ∃ k : Nat, k ≤ n ∧ av = .int .i64 (atP xs k) ∧ lv = .bool (lsP ex m (a, b) xs k) ∧ iv = .int .i64 k ∧ Below w0.heap.size w0 wr) (fun _ _ iv _ => n - (intOf iv).toNat)
    case atStart => exact ⟨0, by omega, rfl, rfl, rfl, HB1.out⟩
    case round =>
      obtain ⟨k, hk, rfl, rfl, rfl, hb⟩ := hrel
      have HB := Lib.hid hb
      rcases Nat.lt_or_ge k n with hlt | hge
      · obtain ⟨b6, o6, ⟨x1, x2⟩, rfl, hbl, hx, hc⟩ := (HR0.out wr hb).at_ hlt
        have HX := Lib.hid hx
        have HN := Lib.hid (lsP_next (ex := ex) (m := m) (own := (a, b)) hx)
        have c0 := Snc.all fun W (hW : Below wr.heap.size wr W) => (hW.cell (p := ⟨b6, o6 + k * 2, none⟩) hbl).trans (hc 0 _ rfl)
        have c1 := Snc.all fun W (hW : Below wr.heap.size wr W) => (hW.cell (p := ⟨b6, o6 + k * 2 + 1, none⟩) hbl).trans (hc 1 _ rfl)
        have f0 := Snc.all fun W (hW : Below wr.heap.size wr W) => e0.out W (below_next hb hW)
        have f1 := Snc.all fun W (hW : Below wr.heap.size wr W) => e1.out W (below_next hb hW)
        have hlt' : (k : Int) < (n : Int) := by omega
        have j0 : (0 : Int) ≤ (k : Int) := by omega
        have HQ : Hid (k = 0 ∧ atP xs k = -1 ∧ atP xs (k + 1) = (k : Int) ∨ ∃ q y1 y2 V3, 0 < k ∧ q < k ∧ atP xs k = (q : Int) ∧ (∀ W, Below wr.heap.size wr W → W.cell? ⟨b6, o6 + q * 2, none⟩ = some (.int .i64 y1)) ∧ (∀ W, Below wr.heap.size wr W → W.cell? ⟨b6, o6 + q * 2 + 1, none⟩ = some (.int .u32 y2)) ∧ cheaper (x1, x2) (y1, y2) = V3 ∧ atP xs (k + 1) = if V3 then (k : Int) else (q : Int)) := Lib.hid (by
          rcases Nat.eq_zero_or_pos k with h0 | h0
          · left
            subst h0
            refine ⟨rfl, rfl, ?_⟩
            show ((leastB xs 1 : Nat) : Int) = 0
            have := leastB_lt xs 1
            omega
          · right
            have hq := leastB_lt xs k
            obtain ⟨b7, o7, ⟨y1, y2⟩, ez, hbl7, hy, hc7⟩ := (HR0.out wr hb).at_ (show leastB xs k < n by omega)
            obtain ⟨rfl, rfl⟩ : b6 = b7 ∧ o6 = o7 := by cases ez; exact ⟨rfl, rfl⟩
            refine ⟨leastB xs k, y1, y2, _, h0, by omega, by unfold atP; rw [if_neg (by omega)], fun W hW => (hW.cell (p := ⟨b6, o6 + leastB xs k * 2, none⟩) hbl7).trans (hc7 0 _ rfl), fun W hW => (hW.cell (p := ⟨b6, o6 + leastB xs k * 2 + 1, none⟩) hbl7).trans (hc7 1 _ rfl), rfl, ?_⟩
            have gx : xs.getD k (0, 0) = (x1, x2) := by rw [List.getD_eq_getElem?_getD, hx]; rfl
            have gy : xs.getD (leastB xs k) (0, 0) = (y1, y2) := by rw [List.getD_eq_getElem?_getD, hy]; rfl
            unfold atP
            rw [if_neg (by omega)]
            show ((leastB xs (k + 1) : Nat) : Int) = _
            rw [leastB_succ, gx, gy]
            cases cheaper (x1, x2) (y1, y2) <;> rfl)
        clear hb hc hx hbl
        obtain ⟨V, hV⟩ : ∃ V, cheaper (x1, x2) (a, b) = V := ⟨_, rfl⟩
        rw [hV] at HN
        obtain ⟨LV, hLV⟩ : ∃ LV, lsP ex m (a, b) xs k = LV := ⟨_, rfl⟩
        obtain ⟨LW, hLW⟩ : ∃ LW, lsP ex m (a, b) xs (k + 1) = LW := ⟨_, rfl⟩
        rw [hLV, hLW] at HN
        rw [hLV]
        have HLW := Lib.hid hLW
        have HV := Lib.hid hV
        clear hLV hLW hV
        have Hwr := Lib.hid HB.out
        cases V <;> cases LV
        · obtain rfl : LW = false := HN.out
          clear HN
          go_upto_region 11 with fail
          have R0 := cs_v (w0 := wr) HV.out
          have R1 := cl_v (w0 := wr) HV.out
          refine wp_region_since (by kernel_rfl) (by kernel_rfl) ?_
          repeat (go_big_quiet_step (first | (go_at_call 10; with_reducible exact R0 _) | (go_at_call 11; first | with_reducible exact R1 _ | with_reducible exact R2 _)))
          refine wpQuiet_nil ?_
          rintro w9 ⟨P9, rfl⟩
          have hb9 := P9.b
          generalize P9.W = wa at *
          have Hwa := Lib.hid (below_next Hwr.out hb9)
          replace c0 : ∀ p : Snc wa, p.W.cell? ⟨b6, o6 + k * 2, none⟩ = some (.int .i64 x1) := fun p => c0 ⟨p.W, below_next hb9 p.b⟩
          replace c1 : ∀ p : Snc wa, p.W.cell? ⟨b6, o6 + k * 2 + 1, none⟩ = some (.int .u32 x2) := fun p => c1 ⟨p.W, below_next hb9 p.b⟩
          replace f0 : ∀ p : Snc wa, p.W.cell? ⟨w.heap.size, 0, none⟩ = some (.int .i64 a) := fun p => f0 ⟨p.W, below_next hb9 p.b⟩
          replace f1 : ∀ p : Snc wa, p.W.cell? ⟨w.heap.size, 1, none⟩ = some (.int .u32 b) := fun p => f1 ⟨p.W, below_next hb9 p.b⟩
          have HBA := Lib.hid hb9
          clear R0 R1 hb9
          go_upto_region 13 with fail
          have R1 := cl_v (w0 := wa) HV.out
          refine wp_region_since (by kernel_rfl) (by kernel_rfl) ?_
          repeat (go_big_quiet_step (first | (go_at_call 10; with_reducible exact R0 _) | (go_at_call 11; first | with_reducible exact R1 _ | with_reducible exact R2 _)))
          refine wpQuiet_nil ?_
          rintro w9 ⟨P9, rfl⟩
          have hb9 := P9.b
          generalize P9.W = wb at *
          have Hwb := Lib.hid (below_next Hwa.out hb9)
          replace c0 : ∀ p : Snc wb, p.W.cell? ⟨b6, o6 + k * 2, none⟩ = some (.int .i64 x1) := fun p => c0 ⟨p.W, below_next hb9 p.b⟩
          replace c1 : ∀ p : Snc wb, p.W.cell? ⟨b6, o6 + k * 2 + 1, none⟩ = some (.int .u32 x2) := fun p => c1 ⟨p.W, below_next hb9 p.b⟩
          clear R1 f0 f1 HV
          rcases HQ.out with ⟨rfl, hat, hat2⟩ | ⟨q, y1, y2, V3, h0, hq, hat, y0, y1', hV3, hat2⟩
          · rw [hat]
            have HAT := Lib.hid hat2
            clear hat hat2 hb9 HQ
            go_upto_region 14 with fail
            refine wp_region_since (by kernel_rfl) (by kernel_rfl) ?_
            repeat (go_big_quiet_step (fail))
            refine wpQuiet_nil ?_
            rintro w9 ⟨P9, rfl⟩
            have HB8 := Lib.hid (below_next Hwb.out P9.b)
            clear c0 c1
            go_wp2_with fail
            go_roundw
            case rel => exact ⟨0 + 1, by omega, by rw [HAT.out], by rw [HLW.out], by go_num, HB8.out⟩
            case measure => simp [intOf]; omega
          · rw [hat]
            have hb10 := below_next (below_next (Below.refl wr.heap.size wr) HBA.out) hb9
            replace y0 := Snc.all fun W (hW : Below wb.heap.size wb W) => y0 W (below_next hb10 hW)
            replace y1' := Snc.all fun W (hW : Below wb.heap.size wb W) => y1' W (below_next hb10 hW)
            have hqn : (q : Int) < (n : Int) := by omega
            have hq0 : (0 : Int) ≤ (q : Int) := by omega
            have hq1 : ¬ (q : Int) < 0 := by omega
            have hq2 : decide ((q : Int) < 0) = false := by simp
            have R2 := cl_v (w0 := wb) hV3
            clear hat hV3 hb9 hb10 HQ
            cases V3
            · have HAT := Lib.hid hat2
              clear hat2
              go_upto_region 14 with fail
              refine wp_region_since (by kernel_rfl) (by kernel_rfl) ?_
              repeat (go_big_quiet_step (first | (go_at_call 10; with_reducible exact R0 _) | (go_at_call 11; first | with_reducible exact R1 _ | with_reducible exact R2 _)))
              refine wpQuiet_nil ?_
              rintro w9 ⟨P9, rfl⟩
              have HB8 := Lib.hid (below_next Hwb.out P9.b)
              clear c0 c1 y0 y1' R2
              go_wp2_with fail
              go_roundw
              case rel => exact ⟨k + 1, by omega, by rw [HAT.out]; rfl, by rw [HLW.out], by go_num, HB8.out⟩
              case measure => simp [intOf]; omega
            · have HAT := Lib.hid hat2
              clear hat2
              go_upto_region 14 with fail
              refine wp_region_since (by kernel_rfl) (by kernel_rfl) ?_
              repeat (go_big_quiet_step (first | (go_at_call 10; with_reducible exact R0 _) | (go_at_call 11; first | with_reducible exact R1 _ | with_reducible exact R2 _)))
              refine wpQuiet_nil ?_
              rintro w9 ⟨P9, rfl⟩
              have HB8 := Lib.hid (below_next Hwb.out P9.b)
              clear c0 c1 y0 y1' R2
              go_wp2_with fail
              go_roundw
              case rel => exact ⟨k + 1, by omega, by rw [HAT.out]; rfl, by rw [HLW.out], by go_num, HB8.out⟩
              case measure => simp [intOf]; omega
        · obtain rfl : LW = true := HN.out
          clear HN
          go_upto_region 11 with fail
          have R0 := cs_v (w0 := wr) HV.out
          have R1 := cl_v (w0 := wr) HV.out
          refine wp_region_since (by kernel_rfl) (by kernel_rfl) ?_
          repeat (go_big_quiet_step (first | (go_at_call 10; with_reducible exact R0 _) | (go_at_call 11; first | with_reducible exact R1 _ | with_reducible exact R2 _)))
          refine wpQuiet_nil ?_
          rintro w9 ⟨P9, rfl⟩
          have hb9 := P9.b
          generalize P9.W = wa at *
          have Hwa := Lib.hid (below_next Hwr.out hb9)
          replace c0 : ∀ p : Snc wa, p.W.cell? ⟨b6, o6 + k * 2, none⟩ = some (.int .i64 x1) := fun p => c0 ⟨p.W, below_next hb9 p.b⟩
          replace c1 : ∀ p : Snc wa, p.W.cell? ⟨b6, o6 + k * 2 + 1, none⟩ = some (.int .u32 x2) := fun p => c1 ⟨p.W, below_next hb9 p.b⟩
          replace f0 : ∀ p : Snc wa, p.W.cell? ⟨w.heap.size, 0, none⟩ = some (.int .i64 a) := fun p => f0 ⟨p.W, below_next hb9 p.b⟩
          replace f1 : ∀ p : Snc wa, p.W.cell? ⟨w.heap.size, 1, none⟩ = some (.int .u32 b) := fun p => f1 ⟨p.W, below_next hb9 p.b⟩
          have HBA := Lib.hid hb9
          clear R0 R1 hb9
          go_upto_region 13 with fail
          have R1 := cl_v (w0 := wa) HV.out
          refine wp_region_since (by kernel_rfl) (by kernel_rfl) ?_
          repeat (go_big_quiet_step (first | (go_at_call 10; with_reducible exact R0 _) | (go_at_call 11; first | with_reducible exact R1 _ | with_reducible exact R2 _)))
          refine wpQuiet_nil ?_
          rintro w9 ⟨P9, rfl⟩
          have hb9 := P9.b
          generalize P9.W = wb at *
          have Hwb := Lib.hid (below_next Hwa.out hb9)
          replace c0 : ∀ p : Snc wb, p.W.cell? ⟨b6, o6 + k * 2, none⟩ = some (.int .i64 x1) := fun p => c0 ⟨p.W, below_next hb9 p.b⟩
          replace c1 : ∀ p : Snc wb, p.W.cell? ⟨b6, o6 + k * 2 + 1, none⟩ = some (.int .u32 x2) := fun p => c1 ⟨p.W, below_next hb9 p.b⟩
          clear R1 f0 f1 HV
          rcases HQ.out with ⟨rfl, hat, hat2⟩ | ⟨q, y1, y2, V3, h0, hq, hat, y0, y1', hV3, hat2⟩
          · rw [hat]
            have HAT := Lib.hid hat2
            clear hat hat2 hb9 HQ
            go_upto_region 14 with fail
            refine wp_region_since (by kernel_rfl) (by kernel_rfl) ?_
            repeat (go_big_quiet_step (fail))
            refine wpQuiet_nil ?_
            rintro w9 ⟨P9, rfl⟩
            have HB8 := Lib.hid (below_next Hwb.out P9.b)
            clear c0 c1
            go_wp2_with fail
            go_roundw
            case rel => exact ⟨0 + 1, by omega, by rw [HAT.out], by rw [HLW.out], by go_num, HB8.out⟩
            case measure => simp [intOf]; omega
          · rw [hat]
            have hb10 := below_next (below_next (Below.refl wr.heap.size wr) HBA.out) hb9
            replace y0 := Snc.all fun W (hW : Below wb.heap.size wb W) => y0 W (below_next hb10 hW)
            replace y1' := Snc.all fun W (hW : Below wb.heap.size wb W) => y1' W (below_next hb10 hW)
            have hqn : (q : Int) < (n : Int) := by omega
            have hq0 : (0 : Int) ≤ (q : Int) := by omega
            have hq1 : ¬ (q : Int) < 0 := by omega
            have hq2 : decide ((q : Int) < 0) = false := by simp
            have R2 := cl_v (w0 := wb) hV3
            clear hat hV3 hb9 hb10 HQ
            cases V3
            · have HAT := Lib.hid hat2
              clear hat2
              go_upto_region 14 with fail
              refine wp_region_since (by kernel_rfl) (by kernel_rfl) ?_
              repeat (go_big_quiet_step (first | (go_at_call 10; with_reducible exact R0 _) | (go_at_call 11; first | with_reducible exact R1 _ | with_reducible exact R2 _)))
              refine wpQuiet_nil ?_
              rintro w9 ⟨P9, rfl⟩
              have HB8 := Lib.hid (below_next Hwb.out P9.b)
              clear c0 c1 y0 y1' R2
              go_wp2_with fail
              go_roundw
              case rel => exact ⟨k + 1, by omega, by rw [HAT.out]; rfl, by rw [HLW.out], by go_num, HB8.out⟩
              case measure => simp [intOf]; omega
            · have HAT := Lib.hid hat2
              clear hat2
              go_upto_region 14 with fail
              refine wp_region_since (by kernel_rfl) (by kernel_rfl) ?_
              repeat (go_big_quiet_step (first | (go_at_call 10; with_reducible exact R0 _) | (go_at_call 11; first | with_reducible exact R1 _ | with_reducible exact R2 _)))
              refine wpQuiet_nil ?_
              rintro w9 ⟨P9, rfl⟩
              have HB8 := Lib.hid (below_next Hwb.out P9.b)
              clear c0 c1 y0 y1' R2
              go_wp2_with fail
              go_roundw
              case rel => exact ⟨k + 1, by omega, by rw [HAT.out]; rfl, by rw [HLW.out], by go_num, HB8.out⟩
              case measure => simp [intOf]; omega
        · obtain rfl : LW = true := HN.out
          clear HN
          go_upto_region 11 with fail
          have R0 := cs_v (w0 := wr) HV.out
          have R1 := cl_v (w0 := wr) HV.out
          refine wp_region_since (by kernel_rfl) (by kernel_rfl) ?_
          repeat (go_big_quiet_step (first | (go_at_call 10; with_reducible exact R0 _) | (go_at_call 11; first | with_reducible exact R1 _ | with_reducible exact R2 _)))
          refine wpQuiet_nil ?_
          rintro w9 ⟨P9, rfl⟩
          have hb9 := P9.b
          generalize P9.W = wa at *
          have Hwa := Lib.hid (below_next Hwr.out hb9)
          replace c0 : ∀ p : Snc wa, p.W.cell? ⟨b6, o6 + k * 2, none⟩ = some (.int .i64 x1) := fun p => c0 ⟨p.W, below_next hb9 p.b⟩
          replace c1 : ∀ p : Snc wa, p.W.cell? ⟨b6, o6 + k * 2 + 1, none⟩ = some (.int .u32 x2) := fun p => c1 ⟨p.W, below_next hb9 p.b⟩
          replace f0 : ∀ p : Snc wa, p.W.cell? ⟨w.heap.size, 0, none⟩ = some (.int .i64 a) := fun p => f0 ⟨p.W, below_next hb9 p.b⟩
          replace f1 : ∀ p : Snc wa, p.W.cell? ⟨w.heap.size, 1, none⟩ = some (.int .u32 b) := fun p => f1 ⟨p.W, below_next hb9 p.b⟩
          have HBA := Lib.hid hb9
          clear R0 R1 hb9
          go_upto_region 13 with fail
          have R1 := cl_v (w0 := wa) HV.out
          refine wp_region_since (by kernel_rfl) (by kernel_rfl) ?_
          repeat (go_big_quiet_step (first | (go_at_call 10; with_reducible exact R0 _) | (go_at_call 11; first | with_reducible exact R1 _ | with_reducible exact R2 _)))
          refine wpQuiet_nil ?_
          rintro w9 ⟨P9, rfl⟩
          have hb9 := P9.b
          generalize P9.W = wb at *
          have Hwb := Lib.hid (below_next Hwa.out hb9)
          replace c0 : ∀ p : Snc wb, p.W.cell? ⟨b6, o6 + k * 2, none⟩ = some (.int .i64 x1) := fun p => c0 ⟨p.W, below_next hb9 p.b⟩
          replace c1 : ∀ p : Snc wb, p.W.cell? ⟨b6, o6 + k * 2 + 1, none⟩ = some (.int .u32 x2) := fun p => c1 ⟨p.W, below_next hb9 p.b⟩
          clear R1 f0 f1 HV
          rcases HQ.out with ⟨rfl, hat, hat2⟩ | ⟨q, y1, y2, V3, h0, hq, hat, y0, y1', hV3, hat2⟩
          · rw [hat]
            have HAT := Lib.hid hat2
            clear hat hat2 hb9 HQ
            go_upto_region 14 with fail
            refine wp_region_since (by kernel_rfl) (by kernel_rfl) ?_
            repeat (go_big_quiet_step (fail))
            refine wpQuiet_nil ?_
            rintro w9 ⟨P9, rfl⟩
            have HB8 := Lib.hid (below_next Hwb.out P9.b)
            clear c0 c1
            go_wp2_with fail
            go_roundw
            case rel => exact ⟨0 + 1, by omega, by rw [HAT.out], by rw [HLW.out], by go_num, HB8.out⟩
            case measure => simp [intOf]; omega
          · rw [hat]
            have hb10 := below_next (below_next (Below.refl wr.heap.size wr) HBA.out) hb9
            replace y0 := Snc.all fun W (hW : Below wb.heap.size wb W) => y0 W (below_next hb10 hW)
            replace y1' := Snc.all fun W (hW : Below wb.heap.size wb W) => y1' W (below_next hb10 hW)
            have hqn : (q : Int) < (n : Int) := by omega
            have hq0 : (0 : Int) ≤ (q : Int) := by omega
            have hq1 : ¬ (q : Int) < 0 := by omega
            have hq2 : decide ((q : Int) < 0) = false := by simp
            have R2 := cl_v (w0 := wb) hV3
            clear hat hV3 hb9 hb10 HQ
            cases V3
            · have HAT := Lib.hid hat2
              clear hat2
              go_upto_region 14 with fail
              refine wp_region_since (by kernel_rfl) (by kernel_rfl) ?_
              repeat (go_big_quiet_step (first | (go_at_call 10; with_reducible exact R0 _) | (go_at_call 11; first | with_reducible exact R1 _ | with_reducible exact R2 _)))
              refine wpQuiet_nil ?_
              rintro w9 ⟨P9, rfl⟩
              have HB8 := Lib.hid (below_next Hwb.out P9.b)
              clear c0 c1 y0 y1' R2
              go_wp2_with fail
              go_roundw
              case rel => exact ⟨k + 1, by omega, by rw [HAT.out]; rfl, by rw [HLW.out], by go_num, HB8.out⟩
              case measure => simp [intOf]; omega
            · have HAT := Lib.hid hat2
              clear hat2
              go_upto_region 14 with fail
              refine wp_region_since (by kernel_rfl) (by kernel_rfl) ?_
              repeat (go_big_quiet_step (first | (go_at_call 10; with_reducible exact R0 _) | (go_at_call 11; first | with_reducible exact R1 _ | with_reducible exact R2 _)))
              refine wpQuiet_nil ?_
              rintro w9 ⟨P9, rfl⟩
              have HB8 := Lib.hid (below_next Hwb.out P9.b)
              clear c0 c1 y0 y1' R2
              go_wp2_with fail
              go_roundw
              case rel => exact ⟨k + 1, by omega, by rw [HAT.out]; rfl, by rw [HLW.out], by go_num, HB8.out⟩
              case measure => simp [intOf]; omega
        · obtain rfl : LW = true := HN.out
          clear HN
          go_upto_region 11 with fail
          have R0 := cs_v (w0 := wr) HV.out
          have R1 := cl_v (w0 := wr) HV.out
          refine wp_region_since (by kernel_rfl) (by kernel_rfl) ?_
          repeat (go_big_quiet_step (first | (go_at_call 10; with_reducible exact R0 _) | (go_at_call 11; first | with_reducible exact R1 _ | with_reducible exact R2 _)))
          refine wpQuiet_nil ?_
          rintro w9 ⟨P9, rfl⟩
          have hb9 := P9.b
          generalize P9.W = wa at *
          have Hwa := Lib.hid (below_next Hwr.out hb9)
          replace c0 : ∀ p : Snc wa, p.W.cell? ⟨b6, o6 + k * 2, none⟩ = some (.int .i64 x1) := fun p => c0 ⟨p.W, below_next hb9 p.b⟩
          replace c1 : ∀ p : Snc wa, p.W.cell? ⟨b6, o6 + k * 2 + 1, none⟩ = some (.int .u32 x2) := fun p => c1 ⟨p.W, below_next hb9 p.b⟩
          replace f0 : ∀ p : Snc wa, p.W.cell? ⟨w.heap.size, 0, none⟩ = some (.int .i64 a) := fun p => f0 ⟨p.W, below_next hb9 p.b⟩
          replace f1 : ∀ p : Snc wa, p.W.cell? ⟨w.heap.size, 1, none⟩ = some (.int .u32 b) := fun p => f1 ⟨p.W, below_next hb9 p.b⟩
          have HBA := Lib.hid hb9
          clear R0 R1 hb9
          go_upto_region 13 with fail
          have R1 := cl_v (w0 := wa) HV.out
          refine wp_region_since (by kernel_rfl) (by kernel_rfl) ?_
          repeat (go_big_quiet_step (first | (go_at_call 10; with_reducible exact R0 _) | (go_at_call 11; first | with_reducible exact R1 _ | with_reducible exact R2 _)))
          refine wpQuiet_nil ?_
          rintro w9 ⟨P9, rfl⟩
          have hb9 := P9.b
          generalize P9.W = wb at *
          have Hwb := Lib.hid (below_next Hwa.out hb9)
          replace c0 : ∀ p : Snc wb, p.W.cell? ⟨b6, o6 + k * 2, none⟩ = some (.int .i64 x1) := fun p => c0 ⟨p.W, below_next hb9 p.b⟩
          replace c1 : ∀ p : Snc wb, p.W.cell? ⟨b6, o6 + k * 2 + 1, none⟩ = some (.int .u32 x2) := fun p => c1 ⟨p.W, below_next hb9 p.b⟩
          clear R1 f0 f1 HV
          rcases HQ.out with ⟨rfl, hat, hat2⟩ | ⟨q, y1, y2, V3, h0, hq, hat, y0, y1', hV3, hat2⟩
          · rw [hat]
            have HAT := Lib.hid hat2
            clear hat hat2 hb9 HQ
            go_upto_region 14 with fail
            refine wp_region_since (by kernel_rfl) (by kernel_rfl) ?_
            repeat (go_big_quiet_step (fail))
            refine wpQuiet_nil ?_
            rintro w9 ⟨P9, rfl⟩
            have HB8 := Lib.hid (below_next Hwb.out P9.b)
            clear c0 c1
            go_wp2_with fail
            go_roundw
            case rel => exact ⟨0 + 1, by omega, by rw [HAT.out], by rw [HLW.out], by go_num, HB8.out⟩
            case measure => simp [intOf]; omega
          · rw [hat]
            have hb10 := below_next (below_next (Below.refl wr.heap.size wr) HBA.out) hb9
            replace y0 := Snc.all fun W (hW : Below wb.heap.size wb W) => y0 W (below_next hb10 hW)
            replace y1' := Snc.all fun W (hW : Below wb.heap.size wb W) => y1' W (below_next hb10 hW)
            have hqn : (q : Int) < (n : Int) := by omega
            have hq0 : (0 : Int) ≤ (q : Int) := by omega
            have hq1 : ¬ (q : Int) < 0 := by omega
            have hq2 : decide ((q : Int) < 0) = false := by simp
            have R2 := cl_v (w0 := wb) hV3
            clear hat hV3 hb9 hb10 HQ
            cases V3
            · have HAT := Lib.hid hat2
              clear hat2
              go_upto_region 14 with fail
              refine wp_region_since (by kernel_rfl) (by kernel_rfl) ?_
              repeat (go_big_quiet_step (first | (go_at_call 10; with_reducible exact R0 _) | (go_at_call 11; first | with_reducible exact R1 _ | with_reducible exact R2 _)))
              refine wpQuiet_nil ?_
              rintro w9 ⟨P9, rfl⟩
              have HB8 := Lib.hid (below_next Hwb.out P9.b)
              clear c0 c1 y0 y1' R2
              go_wp2_with fail
              go_roundw
              case rel => exact ⟨k + 1, by omega, by rw [HAT.out]; rfl, by rw [HLW.out], by go_num, HB8.out⟩
              case measure => simp [intOf]; omega
            · have HAT := Lib.hid hat2
              clear hat2
              go_upto_region 14 with fail
              refine wp_region_since (by kernel_rfl) (by kernel_rfl) ?_
              repeat (go_big_quiet_step (first | (go_at_call 10; with_reducible exact R0 _) | (go_at_call 11; first | with_reducible exact R1 _ | with_reducible exact R2 _)))
              refine wpQuiet_nil ?_
              rintro w9 ⟨P9, rfl⟩
              have HB8 := Lib.hid (below_next Hwb.out P9.b)
              clear c0 c1 y0 y1' R2
              go_wp2_with fail
              go_roundw
              case rel => exact ⟨k + 1, by omega, by rw [HAT.out]; rfl, by rw [HLW.out], by go_num, HB8.out⟩
              case measure => simp [intOf]; omega
      · obtain rfl : k = n := by omega
        have HBE := Lib.hid (bbest_any A k c xs wr (HR0.out wr hb) (by omega))
        have HLO := Lib.hid fun W hW => lost_any a b ex A k c xs B m d W (HR0.out W (below_next hb hW)) (by omega)
        have hls : lostP (a, b) ex m xs = lsP ex m (a, b) xs k := by
          unfold lostP lsP
          rw [show xs.take k = xs from List.take_of_length_le (by rw [HLEN.out]; omega)]
        rw [hls] at HLO
        clear hls
        generalize lsP ex m (a, b) xs k = LV at *
        have f0 : ∀ W, Below wr.heap.size wr W → W.cell? ⟨w.heap.size, 0, none⟩ = some (.int .i64 a) := fun W hW => e0.out W (below_next hb hW)
        have f1 : ∀ W, Below wr.heap.size wr W → W.cell? ⟨w.heap.size, 1, none⟩ = some (.int .u32 b) := fun W hW => e1.out W (below_next hb hW)
        have hlt' : decide ((k : Int) < (k : Int)) = false := by simp
        have hz : (k = 0 ∧ atP xs k = -1) ∨ (0 < k ∧ atP xs k = (leastB xs k : Int)) := by
          rcases Nat.eq_zero_or_pos k with h0 | h0
          · exact .inl ⟨h0, by unfold atP; rw [if_pos h0]⟩
          · exact .inr ⟨h0, by unfold atP; rw [if_neg (by omega)]⟩
        clear hb
        rcases hz with ⟨h0, hat⟩ | ⟨h0, hat⟩
        · subst h0
          rw [hat]
          have g1 : decide (0 < 0) = false := by simp
          rw [g1] at HBE
          clear hat g1
          generalize leastB xs 0 = K at *
          go_upto_region 17 with (go_at_call 8; (with_reducible refine HBE.out.mono ?_); rintro e w2 ⟨rfl, hb2⟩)
          have HB2 := Lib.hid hb2
          replace f0 := f0 w2 hb2
          replace f1 := f1 w2 hb2
          clear hb2
          cases LV <;>
          · go_wp2_with (go_at_call 9; (with_reducible refine (HLO.out _ HB2.out).mono ?_); rintro e w3 ⟨rfl, hb3⟩; have HB3 := Lib.hid (below_next HB0.out (below_next HB.out (below_next HB2.out hb3))); clear hb3)
            go_ret
            exact ⟨rfl, HB3.out⟩
        · rw [hat]
          have g1 : decide (0 < k) = true := by simp; omega
          rw [g1] at HBE
          clear hat
          generalize leastB xs k = K at *
          have g2 : (0 : Int) ≤ (K : Int) := by omega
          have g3 : decide ((0 : Int) ≤ (K : Int)) = true := by simp
          go_upto_region 17 with (go_at_call 8; (with_reducible refine HBE.out.mono ?_); rintro e w2 ⟨rfl, hb2⟩)
          have HB2 := Lib.hid hb2
          replace f0 := f0 w2 hb2
          replace f1 := f1 w2 hb2
          clear hb2
          cases LV <;>
          · go_wp2_with (go_at_call 9; (with_reducible refine (HLO.out _ HB2.out).mono ?_); rintro e w3 ⟨rfl, hb3⟩; have HB3 := Lib.hid (below_next HB0.out (below_next HB.out (below_next HB2.out hb3))); clear hb3)
            go_ret
            exact ⟨rfl, HB3.out⟩
end Go.Proofs.Ytgodmfacelfhaaa

