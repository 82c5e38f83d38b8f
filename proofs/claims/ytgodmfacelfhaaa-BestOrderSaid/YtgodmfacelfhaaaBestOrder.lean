/- The statement on the order of bids of who forwards, walked. -/
import Derived.Test.YtgodmfacelfhaaaBe
namespace Go.Proofs.Ytgodmfacelfhaaa
open Go.RowKit
theorem ct_v {w0 : World} {a b c d : Int} {V : Bool} (h : cheaper (a, b) (c, d) = V) (P : Snc w0) : Calls Try.prog 10 #[.agg #[.int .i64 a, .int .u32 b], .agg #[.int .i64 c, .int .u32 d]] P.W fun e w' => e = .returned (.bool V) ∧ ∃ Q : Snc w0, w' = Q.W :=
  Calls.since (by have := bbetter_any (a, b) (c, d) P.W; rw [h] at this; exact this)
/-- two rows with the same bids have bests that are the same -/
theorem least_same {xs ys : List Bd} {n : Nat} {x y : Bd} (hx : xs[leastB xs n]? = some x) (hy : ys[leastB ys n]? = some y) (h1 : xs.length = n) (h2 : ys.length = n) (h : ∀ z, z ∈ xs ↔ z ∈ ys) : x = y := by
  have key : ∀ {us vs : List Bd} {u v : Bd}, us[leastB us n]? = some u → vs[leastB vs n]? = some v → vs.length = n → us.length = n → (∀ z, z ∈ us → z ∈ vs) → cheaper u v = false := by
    intro us vs u v hu hv hl _ hz
    obtain ⟨j, hj⟩ := List.mem_iff_getElem?.1 (hz u (List.mem_of_getElem? hu))
    have h3 := leastB_max vs n j (by have := (List.getElem?_eq_some_iff.1 hj).1; omega)
    rw [List.getD_eq_getElem?_getD, List.getD_eq_getElem?_getD, hj, hv] at h3
    exact h3
  exact cheaper_tot (key hx hy h2 h1 fun z hz => (h z).1 hz) (key hy hx h1 h2 fun z hz => (h z).2 hz)
theorem corder_key (a b c d x y : Int) : (a = c ∧ b = d) ∨ (a = c ∧ (b == d) = false ∧ cheaper (a, b) (c, d) = false ∧ cheaper (c, d) (a, b) = true) ∨ ((a == c) = false ∧ cheaper (a, b) (c, d) = false ∧ cheaper (c, d) (a, b) = true) ∨
    (a = c ∧ (b == d) = false ∧ cheaper (a, b) (c, d) = true ∧ cheaper (c, d) (a, b) = false ∧ cheaper (c, d) (x, y) = false) ∨ ((a == c) = false ∧ cheaper (a, b) (c, d) = true ∧ cheaper (c, d) (a, b) = false ∧ cheaper (c, d) (x, y) = false) ∨
    (a = c ∧ (b == d) = false ∧ cheaper (a, b) (c, d) = true ∧ cheaper (c, d) (a, b) = false ∧ cheaper (c, d) (x, y) = true ∧ cheaper (a, b) (x, y) = true) ∨ ((a == c) = false ∧ cheaper (a, b) (c, d) = true ∧ cheaper (c, d) (a, b) = false ∧ cheaper (c, d) (x, y) = true ∧ cheaper (a, b) (x, y) = true) := by
  by_cases hac : a = c
  · by_cases hbd : b = d
    · exact .inl ⟨hac, hbd⟩
    · have hbd' : (b == d) = false := by simpa using hbd
      cases h1 : cheaper (a, b) (c, d) with
      | false =>
        cases h2 : cheaper (c, d) (a, b) with
        | false => exact absurd (congrArg Prod.snd (cheaper_tot h1 h2)) hbd
        | true => exact .inr (.inl ⟨hac, hbd', rfl, rfl⟩)
      | true =>
        have h2 := cheaper_asym h1
        cases h3 : cheaper (c, d) (x, y) with
        | false => exact .inr (.inr (.inr (.inl ⟨hac, hbd', rfl, h2, rfl⟩)))
        | true => exact .inr (.inr (.inr (.inr (.inr (.inl ⟨hac, hbd', rfl, h2, rfl, cheaper_trans h1 h3⟩)))))
  · have hac' : (a == c) = false := by simpa using hac
    cases h1 : cheaper (a, b) (c, d) with
    | false =>
      cases h2 : cheaper (c, d) (a, b) with
      | false => exact absurd (congrArg Prod.fst (cheaper_tot h1 h2)) hac
      | true => exact .inr (.inr (.inl ⟨hac', rfl, rfl⟩))
    | true =>
      have h2 := cheaper_asym h1
      cases h3 : cheaper (c, d) (x, y) with
      | false => exact .inr (.inr (.inr (.inr (.inl ⟨hac', rfl, h2, rfl⟩))))
      | true => exact .inr (.inr (.inr (.inr (.inr (.inr ⟨hac', rfl, h2, rfl, cheaper_trans h1 h3⟩)))))
set_option maxRecDepth 100000 in
set_option maxHeartbeats 4000000 in
theorem law_border (a b c d x y : Int) (w : World) : Calls Try.prog 6 #[.agg #[.int .i64 a, .int .u32 b], .agg #[.int .i64 c, .int .u32 d], .agg #[.int .i64 x, .int .u32 y]] w fun e w' => e = .returned (.bool true) ∧ Below w.heap.size w w' := by
  have hb0 := (((Below.refl w.heap.size w).alloc (Nat.le_refl _) (.cells #[.int .i64 a, .int .u32 b] 30)).alloc (by simp) (.cells #[.int .i64 c, .int .u32 d] 30)).alloc (by simp; omega) (.cells #[.int .i64 x, .int .u32 y] 30)
  have HK : Hid (leastB [(a, b), (c, d), (x, y)] 3 < 3) := Lib.hid (leastB_bd _ (by decide))
  have HM : Hid (leastB [(x, y), (a, b), (c, d)] 3 < 3) := Lib.hid (leastB_bd _ (by decide))
  have HS : Hid (∀ p q, ([(a, b), (c, d), (x, y)] : List Bd)[leastB [(a, b), (c, d), (x, y)] 3]? = some p → ([(x, y), (a, b), (c, d)] : List Bd)[leastB [(x, y), (a, b), (c, d)] 3]? = some q → p = q) := Lib.hid fun p q hp hq => least_same hp hq rfl rfl (fun z => by simp only [List.mem_cons, List.not_mem_nil, or_false]; constructor <;> (intro h; rcases h with h | h | h <;> simp [h]))
  have HBK := Lib.hid fun W A (h : RI CBd 2 W A 3 [(a, b), (c, d), (x, y)]) => bbest_any A 3 3 [(a, b), (c, d), (x, y)] W h (by decide)
  have HBM := Lib.hid fun W A (h : RI CBd 2 W A 3 [(x, y), (a, b), (c, d)]) => bbest_any A 3 3 [(x, y), (a, b), (c, d)] W h (by decide)
  generalize leastB [(a, b), (c, d), (x, y)] 3 = K at *
  generalize leastB [(x, y), (a, b), (c, d)] 3 = M at *
  go_enter Try.func6, Try.ntmps6
  go_upto_region 1 with fail
  have hz : w.heap.size + 2 < ((((w.alloc (.cells #[.int .i64 a, .int .u32 b] 30)).alloc (.cells #[.int .i64 c, .int .u32 d] 30)).alloc (.cells #[.int .i64 x, .int .u32 y] 30))).heap.size := by simp
  have e0 : ((((w.alloc (.cells #[.int .i64 a, .int .u32 b] 30)).alloc (.cells #[.int .i64 c, .int .u32 d] 30)).alloc (.cells #[.int .i64 x, .int .u32 y] 30))).cell? ⟨w.heap.size, 0, none⟩ = some (.int .i64 a) := by go_simp
  have e1 : ((((w.alloc (.cells #[.int .i64 a, .int .u32 b] 30)).alloc (.cells #[.int .i64 c, .int .u32 d] 30)).alloc (.cells #[.int .i64 x, .int .u32 y] 30))).cell? ⟨w.heap.size, 1, none⟩ = some (.int .u32 b) := by go_simp
  have e2 : ((((w.alloc (.cells #[.int .i64 a, .int .u32 b] 30)).alloc (.cells #[.int .i64 c, .int .u32 d] 30)).alloc (.cells #[.int .i64 x, .int .u32 y] 30))).cell? ⟨w.heap.size + 1, 0, none⟩ = some (.int .i64 c) := by go_simp
  have e3 : ((((w.alloc (.cells #[.int .i64 a, .int .u32 b] 30)).alloc (.cells #[.int .i64 c, .int .u32 d] 30)).alloc (.cells #[.int .i64 x, .int .u32 y] 30))).cell? ⟨w.heap.size + 1, 1, none⟩ = some (.int .u32 d) := by go_simp
  have e4 : ((((w.alloc (.cells #[.int .i64 a, .int .u32 b] 30)).alloc (.cells #[.int .i64 c, .int .u32 d] 30)).alloc (.cells #[.int .i64 x, .int .u32 y] 30))).cell? ⟨w.heap.size + 1 + 1, 0, none⟩ = some (.int .i64 x) := by go_simp
  have e5 : ((((w.alloc (.cells #[.int .i64 a, .int .u32 b] 30)).alloc (.cells #[.int .i64 c, .int .u32 d] 30)).alloc (.cells #[.int .i64 x, .int .u32 y] 30))).cell? ⟨w.heap.size + 1 + 1, 1, none⟩ = some (.int .u32 y) := by go_simp
  generalize (((w.alloc (.cells #[.int .i64 a, .int .u32 b] 30)).alloc (.cells #[.int .i64 c, .int .u32 d] 30)).alloc (.cells #[.int .i64 x, .int .u32 y] 30)) = w0 at *
  replace e0 := Snc.all fun W (hW : Below w0.heap.size w0 W) => (hW.cell (p := ⟨w.heap.size, 0, none⟩) (by simp; omega)).trans e0
  replace e1 := Snc.all fun W (hW : Below w0.heap.size w0 W) => (hW.cell (p := ⟨w.heap.size, 1, none⟩) (by simp; omega)).trans e1
  replace e2 := Snc.all fun W (hW : Below w0.heap.size w0 W) => (hW.cell (p := ⟨w.heap.size + 1, 0, none⟩) (by simp; omega)).trans e2
  replace e3 := Snc.all fun W (hW : Below w0.heap.size w0 W) => (hW.cell (p := ⟨w.heap.size + 1, 1, none⟩) (by simp; omega)).trans e3
  replace e4 := Snc.all fun W (hW : Below w0.heap.size w0 W) => (hW.cell (p := ⟨w.heap.size + 1 + 1, 0, none⟩) (by simp; omega)).trans e4
  replace e5 := Snc.all fun W (hW : Below w0.heap.size w0 W) => (hW.cell (p := ⟨w.heap.size + 1 + 1, 1, none⟩) (by simp; omega)).trans e5
  have HB0 := Lib.hid hb0
  clear hb0 hz
  go_upto_region 4 with (go_at_call 7; refine (first18_any _).mono ?_; rintro e w1 ⟨rfl, hb1⟩; obtain ⟨P1, rfl⟩ : ∃ P : Snc w0, w1 = P.W := ⟨⟨_, hb1⟩, rfl⟩; clear hb1)
  rcases corder_key a b c d x y with ⟨rfl, rfl⟩ | ⟨rfl, hbd, h1, h2⟩ | ⟨hac, h1, h2⟩ | ⟨rfl, hbd, h1, h2, h3⟩ | ⟨hac, h1, h2, h3⟩ | ⟨rfl, hbd, h1, h2, h3, h4⟩ | ⟨hac, h1, h2, h3, h4⟩
  · have H1 := Lib.hid (ct_v (w0 := w0) (cheaper_irr (a, b)))
    go_upto_region 7 with (go_at_call 10; (first | (with_reducible refine (H1.out _).mono ?_)); rintro e w1 ⟨rfl, ⟨Q, rfl⟩⟩)
    go_upto_region 8 with fail
    have k1 := Blk.new Q.W 30 #[.int .i64 a, .int .u32 b, .int .i64 a, .int .u32 b, .int .i64 x, .int .u32 y]
    have b1 := below_next Q.b ((Below.refl Q.W.heap.size Q.W).alloc (Nat.le_refl _) (.cells #[.int .i64 a, .int .u32 b, .int .i64 a, .int .u32 b, .int .i64 x, .int .u32 y] 30))
    have hs1 : (Q.W.alloc (.cells #[.int .i64 a, .int .u32 b, .int .i64 a, .int .u32 b, .int .i64 x, .int .u32 y] 30)).heap.size = Q.W.heap.size + 1 := by simp
    generalize Q.W.heap.size = N at *
    obtain ⟨P8, hP8⟩ : ∃ P : Snc w0, P.W = Q.W.alloc (.cells #[.int .i64 a, .int .u32 b, .int .i64 a, .int .u32 b, .int .i64 x, .int .u32 y] 30) := ⟨⟨_, b1⟩, rfl⟩
    rw [← hP8] at k1 hs1 ⊢
    clear hP8 b1
    go_upto_region 9 with fail
    have k2 := Blk.new P8.W 30 #[.int .i64 x, .int .u32 y, .int .i64 a, .int .u32 b, .int .i64 a, .int .u32 b]
    have b2 := (Below.refl P8.W.heap.size P8.W).alloc (Nat.le_refl _) (.cells #[.int .i64 x, .int .u32 y, .int .i64 a, .int .u32 b, .int .i64 a, .int .u32 b] 30)
    replace k1 := k1.next b2
    have hB8 := P8.b
    rw [hs1] at k2
    try rw [hs1]
    generalize P8.W.alloc (.cells #[.int .i64 x, .int .u32 y, .int .i64 a, .int .u32 b, .int .i64 a, .int .u32 b] 30) = w3 at *
    have HB3 := Lib.hid (below_next HB0.out (below_next hB8 b2))
    have hk1 := RI.of_blk (enc := CBd) (k := 2) (xs := [(a, b), (a, b), (x, y)]) (n := 3) (fun _ => rfl) k1 rfl rfl
    have hk2 := RI.of_blk (enc := CBd) (k := 2) (xs := [(x, y), (a, b), (a, b)]) (n := 3) (fun _ => rfl) k2 rfl rfl
    obtain ⟨bb, o, ⟨z1, z2⟩, ez, hbl, hzz, hcc⟩ := hk1.at_ HK.out
    obtain ⟨rfl, rfl⟩ : N = bb ∧ 0 = o := by cases ez; exact ⟨rfl, rfl⟩
    obtain ⟨bb, o, ⟨y1, y2⟩, ez', hbl', hyy, hdd⟩ := hk2.at_ HM.out
    obtain ⟨rfl, rfl⟩ : N + 1 = bb ∧ 0 = o := by cases ez'; exact ⟨rfl, rfl⟩
    obtain ⟨rfl, rfl⟩ : z1 = y1 ∧ z2 = y2 := by have := HS.out _ _ hzz hyy; cases this; exact ⟨rfl, rfl⟩
    have HKK := Lib.hid fun W (hW : Below w3.heap.size w3 W) => HBK.out W _ (hk1.next hW)
    have HMM := Lib.hid fun W (hW : Below w3.heap.size w3 W) => HBM.out W _ (hk2.next hW)
    have l0 : ∀ W, Below w3.heap.size w3 W → W.cell? ⟨N, 0 + K * 2, none⟩ = some (.int .i64 z1) := fun W hW => (hW.cell (p := ⟨N, 0 + K * 2, none⟩) hbl).trans (hcc 0 _ rfl)
    have l1 : ∀ W, Below w3.heap.size w3 W → W.cell? ⟨N, 0 + K * 2 + 1, none⟩ = some (.int .u32 z2) := fun W hW => (hW.cell (p := ⟨N, 0 + K * 2 + 1, none⟩) hbl).trans (hcc 1 _ rfl)
    have m0 : ∀ W, Below w3.heap.size w3 W → W.cell? ⟨N + 1, 0 + M * 2, none⟩ = some (.int .i64 z1) := fun W hW => (hW.cell (p := ⟨N + 1, 0 + M * 2, none⟩) hbl').trans (hdd 0 _ rfl)
    have m1 : ∀ W, Below w3.heap.size w3 W → W.cell? ⟨N + 1, 0 + M * 2 + 1, none⟩ = some (.int .u32 z2) := fun W hW => (hW.cell (p := ⟨N + 1, 0 + M * 2 + 1, none⟩) hbl').trans (hdd 1 _ rfl)
    simp only [Nat.zero_add] at l0 l1 m0 m1
    clear e0 e1 e2 e3 e4 e5 ez ez' hbl hbl' hzz hyy hcc hdd k1 k2 b2 hk1 hk2 hs1 hB8 HS HBK HBM
    clear H1
    go_upto_region 11 with (first
      | (go_at_call 8; (with_reducible refine (HKK.out _ (Below.refl _ _)).mono ?_); rintro e w4 ⟨rfl, hb4⟩; have HB4 := Lib.hid hb4; clear hb4)
      | (go_at_call 8; (with_reducible refine (HMM.out _ HB4.out).mono ?_); rintro e w5 ⟨rfl, hb5⟩; have HB5 := Lib.hid (below_next HB4.out hb5); clear hb5))
    clear HKK HMM
    have hk0 : ¬ (K : Int) < 0 := by omega
    have hk3 : ¬ (2 : Int) < (K : Int) := by have := HK.out; omega
    have hm0 : ¬ (M : Int) < 0 := by omega
    have hm3 : ¬ (2 : Int) < (M : Int) := by have := HM.out; omega
    have hk0' : decide ((K : Int) < 0) = false := by simp
    have hm0' : decide ((M : Int) < 0) = false := by simp
    have hk3' : decide ((2 : Int) < (K : Int)) = false := by simpa using hk3
    have hm3' : decide ((2 : Int) < (M : Int)) = false := by simpa using hm3
    go_upto_region 13 with fail
    have hk4 : (K : Int) < 3 := by have := HK.out; omega
    have hm4 : (M : Int) < 3 := by have := HM.out; omega
    have hk5 : (0 : Int) ≤ (K : Int) := by omega
    have hm5 : (0 : Int) ≤ (M : Int) := by omega
    have hk6 : K < 3 := HK.out
    have hm6 : M < 3 := HM.out
    have HBZ := Lib.hid (below_next HB3.out HB5.out)
    replace l0 := l0 w5 HB5.out
    replace l1 := l1 w5 HB5.out
    replace m0 := m0 w5 HB5.out
    replace m1 := m1 w5 HB5.out
    go_quiet (fail)
    go_wp2
    go_ret
    exact ⟨rfl, below_drewN HBZ.out _⟩
  · have H1 := Lib.hid (ct_v (w0 := w0) h1)
    have H2 := Lib.hid (ct_v (w0 := w0) h2)
    clear h1 h2
    go_upto_region 7 with (go_at_call 10; (first | (with_reducible refine (H1.out _).mono ?_) | (with_reducible refine (H2.out _).mono ?_)); rintro e w1 ⟨rfl, ⟨Q, rfl⟩⟩)
    go_upto_region 8 with fail
    have k1 := Blk.new Q.W 30 #[.int .i64 a, .int .u32 b, .int .i64 a, .int .u32 d, .int .i64 x, .int .u32 y]
    have b1 := below_next Q.b ((Below.refl Q.W.heap.size Q.W).alloc (Nat.le_refl _) (.cells #[.int .i64 a, .int .u32 b, .int .i64 a, .int .u32 d, .int .i64 x, .int .u32 y] 30))
    have hs1 : (Q.W.alloc (.cells #[.int .i64 a, .int .u32 b, .int .i64 a, .int .u32 d, .int .i64 x, .int .u32 y] 30)).heap.size = Q.W.heap.size + 1 := by simp
    generalize Q.W.heap.size = N at *
    obtain ⟨P8, hP8⟩ : ∃ P : Snc w0, P.W = Q.W.alloc (.cells #[.int .i64 a, .int .u32 b, .int .i64 a, .int .u32 d, .int .i64 x, .int .u32 y] 30) := ⟨⟨_, b1⟩, rfl⟩
    rw [← hP8] at k1 hs1 ⊢
    clear hP8 b1
    go_upto_region 9 with fail
    have k2 := Blk.new P8.W 30 #[.int .i64 x, .int .u32 y, .int .i64 a, .int .u32 b, .int .i64 a, .int .u32 d]
    have b2 := (Below.refl P8.W.heap.size P8.W).alloc (Nat.le_refl _) (.cells #[.int .i64 x, .int .u32 y, .int .i64 a, .int .u32 b, .int .i64 a, .int .u32 d] 30)
    replace k1 := k1.next b2
    have hB8 := P8.b
    rw [hs1] at k2
    try rw [hs1]
    generalize P8.W.alloc (.cells #[.int .i64 x, .int .u32 y, .int .i64 a, .int .u32 b, .int .i64 a, .int .u32 d] 30) = w3 at *
    have HB3 := Lib.hid (below_next HB0.out (below_next hB8 b2))
    have hk1 := RI.of_blk (enc := CBd) (k := 2) (xs := [(a, b), (a, d), (x, y)]) (n := 3) (fun _ => rfl) k1 rfl rfl
    have hk2 := RI.of_blk (enc := CBd) (k := 2) (xs := [(x, y), (a, b), (a, d)]) (n := 3) (fun _ => rfl) k2 rfl rfl
    obtain ⟨bb, o, ⟨z1, z2⟩, ez, hbl, hzz, hcc⟩ := hk1.at_ HK.out
    obtain ⟨rfl, rfl⟩ : N = bb ∧ 0 = o := by cases ez; exact ⟨rfl, rfl⟩
    obtain ⟨bb, o, ⟨y1, y2⟩, ez', hbl', hyy, hdd⟩ := hk2.at_ HM.out
    obtain ⟨rfl, rfl⟩ : N + 1 = bb ∧ 0 = o := by cases ez'; exact ⟨rfl, rfl⟩
    obtain ⟨rfl, rfl⟩ : z1 = y1 ∧ z2 = y2 := by have := HS.out _ _ hzz hyy; cases this; exact ⟨rfl, rfl⟩
    have HKK := Lib.hid fun W (hW : Below w3.heap.size w3 W) => HBK.out W _ (hk1.next hW)
    have HMM := Lib.hid fun W (hW : Below w3.heap.size w3 W) => HBM.out W _ (hk2.next hW)
    have l0 : ∀ W, Below w3.heap.size w3 W → W.cell? ⟨N, 0 + K * 2, none⟩ = some (.int .i64 z1) := fun W hW => (hW.cell (p := ⟨N, 0 + K * 2, none⟩) hbl).trans (hcc 0 _ rfl)
    have l1 : ∀ W, Below w3.heap.size w3 W → W.cell? ⟨N, 0 + K * 2 + 1, none⟩ = some (.int .u32 z2) := fun W hW => (hW.cell (p := ⟨N, 0 + K * 2 + 1, none⟩) hbl).trans (hcc 1 _ rfl)
    have m0 : ∀ W, Below w3.heap.size w3 W → W.cell? ⟨N + 1, 0 + M * 2, none⟩ = some (.int .i64 z1) := fun W hW => (hW.cell (p := ⟨N + 1, 0 + M * 2, none⟩) hbl').trans (hdd 0 _ rfl)
    have m1 : ∀ W, Below w3.heap.size w3 W → W.cell? ⟨N + 1, 0 + M * 2 + 1, none⟩ = some (.int .u32 z2) := fun W hW => (hW.cell (p := ⟨N + 1, 0 + M * 2 + 1, none⟩) hbl').trans (hdd 1 _ rfl)
    simp only [Nat.zero_add] at l0 l1 m0 m1
    clear e0 e1 e2 e3 e4 e5 ez ez' hbl hbl' hzz hyy hcc hdd k1 k2 b2 hk1 hk2 hs1 hB8 HS HBK HBM
    clear H1 H2
    go_upto_region 11 with (first
      | (go_at_call 8; (with_reducible refine (HKK.out _ (Below.refl _ _)).mono ?_); rintro e w4 ⟨rfl, hb4⟩; have HB4 := Lib.hid hb4; clear hb4)
      | (go_at_call 8; (with_reducible refine (HMM.out _ HB4.out).mono ?_); rintro e w5 ⟨rfl, hb5⟩; have HB5 := Lib.hid (below_next HB4.out hb5); clear hb5))
    clear HKK HMM
    have hk0 : ¬ (K : Int) < 0 := by omega
    have hk3 : ¬ (2 : Int) < (K : Int) := by have := HK.out; omega
    have hm0 : ¬ (M : Int) < 0 := by omega
    have hm3 : ¬ (2 : Int) < (M : Int) := by have := HM.out; omega
    have hk0' : decide ((K : Int) < 0) = false := by simp
    have hm0' : decide ((M : Int) < 0) = false := by simp
    have hk3' : decide ((2 : Int) < (K : Int)) = false := by simpa using hk3
    have hm3' : decide ((2 : Int) < (M : Int)) = false := by simpa using hm3
    go_upto_region 13 with fail
    have hk4 : (K : Int) < 3 := by have := HK.out; omega
    have hm4 : (M : Int) < 3 := by have := HM.out; omega
    have hk5 : (0 : Int) ≤ (K : Int) := by omega
    have hm5 : (0 : Int) ≤ (M : Int) := by omega
    have hk6 : K < 3 := HK.out
    have hm6 : M < 3 := HM.out
    have HBZ := Lib.hid (below_next HB3.out HB5.out)
    replace l0 := l0 w5 HB5.out
    replace l1 := l1 w5 HB5.out
    replace m0 := m0 w5 HB5.out
    replace m1 := m1 w5 HB5.out
    go_quiet (fail)
    go_wp2
    go_ret
    exact ⟨rfl, below_drewN HBZ.out _⟩
  · have H1 := Lib.hid (ct_v (w0 := w0) h1)
    have H2 := Lib.hid (ct_v (w0 := w0) h2)
    clear h1 h2
    go_upto_region 7 with (go_at_call 10; (first | (with_reducible refine (H1.out _).mono ?_) | (with_reducible refine (H2.out _).mono ?_)); rintro e w1 ⟨rfl, ⟨Q, rfl⟩⟩)
    go_upto_region 8 with fail
    have k1 := Blk.new Q.W 30 #[.int .i64 a, .int .u32 b, .int .i64 c, .int .u32 d, .int .i64 x, .int .u32 y]
    have b1 := below_next Q.b ((Below.refl Q.W.heap.size Q.W).alloc (Nat.le_refl _) (.cells #[.int .i64 a, .int .u32 b, .int .i64 c, .int .u32 d, .int .i64 x, .int .u32 y] 30))
    have hs1 : (Q.W.alloc (.cells #[.int .i64 a, .int .u32 b, .int .i64 c, .int .u32 d, .int .i64 x, .int .u32 y] 30)).heap.size = Q.W.heap.size + 1 := by simp
    generalize Q.W.heap.size = N at *
    obtain ⟨P8, hP8⟩ : ∃ P : Snc w0, P.W = Q.W.alloc (.cells #[.int .i64 a, .int .u32 b, .int .i64 c, .int .u32 d, .int .i64 x, .int .u32 y] 30) := ⟨⟨_, b1⟩, rfl⟩
    rw [← hP8] at k1 hs1 ⊢
    clear hP8 b1
    go_upto_region 9 with fail
    have k2 := Blk.new P8.W 30 #[.int .i64 x, .int .u32 y, .int .i64 a, .int .u32 b, .int .i64 c, .int .u32 d]
    have b2 := (Below.refl P8.W.heap.size P8.W).alloc (Nat.le_refl _) (.cells #[.int .i64 x, .int .u32 y, .int .i64 a, .int .u32 b, .int .i64 c, .int .u32 d] 30)
    replace k1 := k1.next b2
    have hB8 := P8.b
    rw [hs1] at k2
    try rw [hs1]
    generalize P8.W.alloc (.cells #[.int .i64 x, .int .u32 y, .int .i64 a, .int .u32 b, .int .i64 c, .int .u32 d] 30) = w3 at *
    have HB3 := Lib.hid (below_next HB0.out (below_next hB8 b2))
    have hk1 := RI.of_blk (enc := CBd) (k := 2) (xs := [(a, b), (c, d), (x, y)]) (n := 3) (fun _ => rfl) k1 rfl rfl
    have hk2 := RI.of_blk (enc := CBd) (k := 2) (xs := [(x, y), (a, b), (c, d)]) (n := 3) (fun _ => rfl) k2 rfl rfl
    obtain ⟨bb, o, ⟨z1, z2⟩, ez, hbl, hzz, hcc⟩ := hk1.at_ HK.out
    obtain ⟨rfl, rfl⟩ : N = bb ∧ 0 = o := by cases ez; exact ⟨rfl, rfl⟩
    obtain ⟨bb, o, ⟨y1, y2⟩, ez', hbl', hyy, hdd⟩ := hk2.at_ HM.out
    obtain ⟨rfl, rfl⟩ : N + 1 = bb ∧ 0 = o := by cases ez'; exact ⟨rfl, rfl⟩
    obtain ⟨rfl, rfl⟩ : z1 = y1 ∧ z2 = y2 := by have := HS.out _ _ hzz hyy; cases this; exact ⟨rfl, rfl⟩
    have HKK := Lib.hid fun W (hW : Below w3.heap.size w3 W) => HBK.out W _ (hk1.next hW)
    have HMM := Lib.hid fun W (hW : Below w3.heap.size w3 W) => HBM.out W _ (hk2.next hW)
    have l0 : ∀ W, Below w3.heap.size w3 W → W.cell? ⟨N, 0 + K * 2, none⟩ = some (.int .i64 z1) := fun W hW => (hW.cell (p := ⟨N, 0 + K * 2, none⟩) hbl).trans (hcc 0 _ rfl)
    have l1 : ∀ W, Below w3.heap.size w3 W → W.cell? ⟨N, 0 + K * 2 + 1, none⟩ = some (.int .u32 z2) := fun W hW => (hW.cell (p := ⟨N, 0 + K * 2 + 1, none⟩) hbl).trans (hcc 1 _ rfl)
    have m0 : ∀ W, Below w3.heap.size w3 W → W.cell? ⟨N + 1, 0 + M * 2, none⟩ = some (.int .i64 z1) := fun W hW => (hW.cell (p := ⟨N + 1, 0 + M * 2, none⟩) hbl').trans (hdd 0 _ rfl)
    have m1 : ∀ W, Below w3.heap.size w3 W → W.cell? ⟨N + 1, 0 + M * 2 + 1, none⟩ = some (.int .u32 z2) := fun W hW => (hW.cell (p := ⟨N + 1, 0 + M * 2 + 1, none⟩) hbl').trans (hdd 1 _ rfl)
    simp only [Nat.zero_add] at l0 l1 m0 m1
    clear e0 e1 e2 e3 e4 e5 ez ez' hbl hbl' hzz hyy hcc hdd k1 k2 b2 hk1 hk2 hs1 hB8 HS HBK HBM
    clear H1 H2
    go_upto_region 11 with (first
      | (go_at_call 8; (with_reducible refine (HKK.out _ (Below.refl _ _)).mono ?_); rintro e w4 ⟨rfl, hb4⟩; have HB4 := Lib.hid hb4; clear hb4)
      | (go_at_call 8; (with_reducible refine (HMM.out _ HB4.out).mono ?_); rintro e w5 ⟨rfl, hb5⟩; have HB5 := Lib.hid (below_next HB4.out hb5); clear hb5))
    clear HKK HMM
    have hk0 : ¬ (K : Int) < 0 := by omega
    have hk3 : ¬ (2 : Int) < (K : Int) := by have := HK.out; omega
    have hm0 : ¬ (M : Int) < 0 := by omega
    have hm3 : ¬ (2 : Int) < (M : Int) := by have := HM.out; omega
    have hk0' : decide ((K : Int) < 0) = false := by simp
    have hm0' : decide ((M : Int) < 0) = false := by simp
    have hk3' : decide ((2 : Int) < (K : Int)) = false := by simpa using hk3
    have hm3' : decide ((2 : Int) < (M : Int)) = false := by simpa using hm3
    go_upto_region 13 with fail
    have hk4 : (K : Int) < 3 := by have := HK.out; omega
    have hm4 : (M : Int) < 3 := by have := HM.out; omega
    have hk5 : (0 : Int) ≤ (K : Int) := by omega
    have hm5 : (0 : Int) ≤ (M : Int) := by omega
    have hk6 : K < 3 := HK.out
    have hm6 : M < 3 := HM.out
    have HBZ := Lib.hid (below_next HB3.out HB5.out)
    replace l0 := l0 w5 HB5.out
    replace l1 := l1 w5 HB5.out
    replace m0 := m0 w5 HB5.out
    replace m1 := m1 w5 HB5.out
    go_quiet (fail)
    go_wp2
    go_ret
    exact ⟨rfl, below_drewN HBZ.out _⟩
  · have H1 := Lib.hid (ct_v (w0 := w0) h1)
    have H2 := Lib.hid (ct_v (w0 := w0) h2)
    have H3 := Lib.hid (ct_v (w0 := w0) h3)
    clear h1 h2 h3
    go_upto_region 7 with (go_at_call 10; (first | (with_reducible refine (H1.out _).mono ?_) | (with_reducible refine (H2.out _).mono ?_) | (with_reducible refine (H3.out _).mono ?_)); rintro e w1 ⟨rfl, ⟨Q, rfl⟩⟩)
    go_upto_region 8 with fail
    have k1 := Blk.new Q.W 30 #[.int .i64 a, .int .u32 b, .int .i64 a, .int .u32 d, .int .i64 x, .int .u32 y]
    have b1 := below_next Q.b ((Below.refl Q.W.heap.size Q.W).alloc (Nat.le_refl _) (.cells #[.int .i64 a, .int .u32 b, .int .i64 a, .int .u32 d, .int .i64 x, .int .u32 y] 30))
    have hs1 : (Q.W.alloc (.cells #[.int .i64 a, .int .u32 b, .int .i64 a, .int .u32 d, .int .i64 x, .int .u32 y] 30)).heap.size = Q.W.heap.size + 1 := by simp
    generalize Q.W.heap.size = N at *
    obtain ⟨P8, hP8⟩ : ∃ P : Snc w0, P.W = Q.W.alloc (.cells #[.int .i64 a, .int .u32 b, .int .i64 a, .int .u32 d, .int .i64 x, .int .u32 y] 30) := ⟨⟨_, b1⟩, rfl⟩
    rw [← hP8] at k1 hs1 ⊢
    clear hP8 b1
    go_upto_region 9 with fail
    have k2 := Blk.new P8.W 30 #[.int .i64 x, .int .u32 y, .int .i64 a, .int .u32 b, .int .i64 a, .int .u32 d]
    have b2 := (Below.refl P8.W.heap.size P8.W).alloc (Nat.le_refl _) (.cells #[.int .i64 x, .int .u32 y, .int .i64 a, .int .u32 b, .int .i64 a, .int .u32 d] 30)
    replace k1 := k1.next b2
    have hB8 := P8.b
    rw [hs1] at k2
    try rw [hs1]
    generalize P8.W.alloc (.cells #[.int .i64 x, .int .u32 y, .int .i64 a, .int .u32 b, .int .i64 a, .int .u32 d] 30) = w3 at *
    have HB3 := Lib.hid (below_next HB0.out (below_next hB8 b2))
    have hk1 := RI.of_blk (enc := CBd) (k := 2) (xs := [(a, b), (a, d), (x, y)]) (n := 3) (fun _ => rfl) k1 rfl rfl
    have hk2 := RI.of_blk (enc := CBd) (k := 2) (xs := [(x, y), (a, b), (a, d)]) (n := 3) (fun _ => rfl) k2 rfl rfl
    obtain ⟨bb, o, ⟨z1, z2⟩, ez, hbl, hzz, hcc⟩ := hk1.at_ HK.out
    obtain ⟨rfl, rfl⟩ : N = bb ∧ 0 = o := by cases ez; exact ⟨rfl, rfl⟩
    obtain ⟨bb, o, ⟨y1, y2⟩, ez', hbl', hyy, hdd⟩ := hk2.at_ HM.out
    obtain ⟨rfl, rfl⟩ : N + 1 = bb ∧ 0 = o := by cases ez'; exact ⟨rfl, rfl⟩
    obtain ⟨rfl, rfl⟩ : z1 = y1 ∧ z2 = y2 := by have := HS.out _ _ hzz hyy; cases this; exact ⟨rfl, rfl⟩
    have HKK := Lib.hid fun W (hW : Below w3.heap.size w3 W) => HBK.out W _ (hk1.next hW)
    have HMM := Lib.hid fun W (hW : Below w3.heap.size w3 W) => HBM.out W _ (hk2.next hW)
    have l0 : ∀ W, Below w3.heap.size w3 W → W.cell? ⟨N, 0 + K * 2, none⟩ = some (.int .i64 z1) := fun W hW => (hW.cell (p := ⟨N, 0 + K * 2, none⟩) hbl).trans (hcc 0 _ rfl)
    have l1 : ∀ W, Below w3.heap.size w3 W → W.cell? ⟨N, 0 + K * 2 + 1, none⟩ = some (.int .u32 z2) := fun W hW => (hW.cell (p := ⟨N, 0 + K * 2 + 1, none⟩) hbl).trans (hcc 1 _ rfl)
    have m0 : ∀ W, Below w3.heap.size w3 W → W.cell? ⟨N + 1, 0 + M * 2, none⟩ = some (.int .i64 z1) := fun W hW => (hW.cell (p := ⟨N + 1, 0 + M * 2, none⟩) hbl').trans (hdd 0 _ rfl)
    have m1 : ∀ W, Below w3.heap.size w3 W → W.cell? ⟨N + 1, 0 + M * 2 + 1, none⟩ = some (.int .u32 z2) := fun W hW => (hW.cell (p := ⟨N + 1, 0 + M * 2 + 1, none⟩) hbl').trans (hdd 1 _ rfl)
    simp only [Nat.zero_add] at l0 l1 m0 m1
    clear e0 e1 e2 e3 e4 e5 ez ez' hbl hbl' hzz hyy hcc hdd k1 k2 b2 hk1 hk2 hs1 hB8 HS HBK HBM
    clear H1 H2 H3
    go_upto_region 11 with (first
      | (go_at_call 8; (with_reducible refine (HKK.out _ (Below.refl _ _)).mono ?_); rintro e w4 ⟨rfl, hb4⟩; have HB4 := Lib.hid hb4; clear hb4)
      | (go_at_call 8; (with_reducible refine (HMM.out _ HB4.out).mono ?_); rintro e w5 ⟨rfl, hb5⟩; have HB5 := Lib.hid (below_next HB4.out hb5); clear hb5))
    clear HKK HMM
    have hk0 : ¬ (K : Int) < 0 := by omega
    have hk3 : ¬ (2 : Int) < (K : Int) := by have := HK.out; omega
    have hm0 : ¬ (M : Int) < 0 := by omega
    have hm3 : ¬ (2 : Int) < (M : Int) := by have := HM.out; omega
    have hk0' : decide ((K : Int) < 0) = false := by simp
    have hm0' : decide ((M : Int) < 0) = false := by simp
    have hk3' : decide ((2 : Int) < (K : Int)) = false := by simpa using hk3
    have hm3' : decide ((2 : Int) < (M : Int)) = false := by simpa using hm3
    go_upto_region 13 with fail
    have hk4 : (K : Int) < 3 := by have := HK.out; omega
    have hm4 : (M : Int) < 3 := by have := HM.out; omega
    have hk5 : (0 : Int) ≤ (K : Int) := by omega
    have hm5 : (0 : Int) ≤ (M : Int) := by omega
    have hk6 : K < 3 := HK.out
    have hm6 : M < 3 := HM.out
    have HBZ := Lib.hid (below_next HB3.out HB5.out)
    replace l0 := l0 w5 HB5.out
    replace l1 := l1 w5 HB5.out
    replace m0 := m0 w5 HB5.out
    replace m1 := m1 w5 HB5.out
    go_quiet (fail)
    go_wp2
    go_ret
    exact ⟨rfl, below_drewN HBZ.out _⟩
  · have H1 := Lib.hid (ct_v (w0 := w0) h1)
    have H2 := Lib.hid (ct_v (w0 := w0) h2)
    have H3 := Lib.hid (ct_v (w0 := w0) h3)
    clear h1 h2 h3
    go_upto_region 7 with (go_at_call 10; (first | (with_reducible refine (H1.out _).mono ?_) | (with_reducible refine (H2.out _).mono ?_) | (with_reducible refine (H3.out _).mono ?_)); rintro e w1 ⟨rfl, ⟨Q, rfl⟩⟩)
    go_upto_region 8 with fail
    have k1 := Blk.new Q.W 30 #[.int .i64 a, .int .u32 b, .int .i64 c, .int .u32 d, .int .i64 x, .int .u32 y]
    have b1 := below_next Q.b ((Below.refl Q.W.heap.size Q.W).alloc (Nat.le_refl _) (.cells #[.int .i64 a, .int .u32 b, .int .i64 c, .int .u32 d, .int .i64 x, .int .u32 y] 30))
    have hs1 : (Q.W.alloc (.cells #[.int .i64 a, .int .u32 b, .int .i64 c, .int .u32 d, .int .i64 x, .int .u32 y] 30)).heap.size = Q.W.heap.size + 1 := by simp
    generalize Q.W.heap.size = N at *
    obtain ⟨P8, hP8⟩ : ∃ P : Snc w0, P.W = Q.W.alloc (.cells #[.int .i64 a, .int .u32 b, .int .i64 c, .int .u32 d, .int .i64 x, .int .u32 y] 30) := ⟨⟨_, b1⟩, rfl⟩
    rw [← hP8] at k1 hs1 ⊢
    clear hP8 b1
    go_upto_region 9 with fail
    have k2 := Blk.new P8.W 30 #[.int .i64 x, .int .u32 y, .int .i64 a, .int .u32 b, .int .i64 c, .int .u32 d]
    have b2 := (Below.refl P8.W.heap.size P8.W).alloc (Nat.le_refl _) (.cells #[.int .i64 x, .int .u32 y, .int .i64 a, .int .u32 b, .int .i64 c, .int .u32 d] 30)
    replace k1 := k1.next b2
    have hB8 := P8.b
    rw [hs1] at k2
    try rw [hs1]
    generalize P8.W.alloc (.cells #[.int .i64 x, .int .u32 y, .int .i64 a, .int .u32 b, .int .i64 c, .int .u32 d] 30) = w3 at *
    have HB3 := Lib.hid (below_next HB0.out (below_next hB8 b2))
    have hk1 := RI.of_blk (enc := CBd) (k := 2) (xs := [(a, b), (c, d), (x, y)]) (n := 3) (fun _ => rfl) k1 rfl rfl
    have hk2 := RI.of_blk (enc := CBd) (k := 2) (xs := [(x, y), (a, b), (c, d)]) (n := 3) (fun _ => rfl) k2 rfl rfl
    obtain ⟨bb, o, ⟨z1, z2⟩, ez, hbl, hzz, hcc⟩ := hk1.at_ HK.out
    obtain ⟨rfl, rfl⟩ : N = bb ∧ 0 = o := by cases ez; exact ⟨rfl, rfl⟩
    obtain ⟨bb, o, ⟨y1, y2⟩, ez', hbl', hyy, hdd⟩ := hk2.at_ HM.out
    obtain ⟨rfl, rfl⟩ : N + 1 = bb ∧ 0 = o := by cases ez'; exact ⟨rfl, rfl⟩
    obtain ⟨rfl, rfl⟩ : z1 = y1 ∧ z2 = y2 := by have := HS.out _ _ hzz hyy; cases this; exact ⟨rfl, rfl⟩
    have HKK := Lib.hid fun W (hW : Below w3.heap.size w3 W) => HBK.out W _ (hk1.next hW)
    have HMM := Lib.hid fun W (hW : Below w3.heap.size w3 W) => HBM.out W _ (hk2.next hW)
    have l0 : ∀ W, Below w3.heap.size w3 W → W.cell? ⟨N, 0 + K * 2, none⟩ = some (.int .i64 z1) := fun W hW => (hW.cell (p := ⟨N, 0 + K * 2, none⟩) hbl).trans (hcc 0 _ rfl)
    have l1 : ∀ W, Below w3.heap.size w3 W → W.cell? ⟨N, 0 + K * 2 + 1, none⟩ = some (.int .u32 z2) := fun W hW => (hW.cell (p := ⟨N, 0 + K * 2 + 1, none⟩) hbl).trans (hcc 1 _ rfl)
    have m0 : ∀ W, Below w3.heap.size w3 W → W.cell? ⟨N + 1, 0 + M * 2, none⟩ = some (.int .i64 z1) := fun W hW => (hW.cell (p := ⟨N + 1, 0 + M * 2, none⟩) hbl').trans (hdd 0 _ rfl)
    have m1 : ∀ W, Below w3.heap.size w3 W → W.cell? ⟨N + 1, 0 + M * 2 + 1, none⟩ = some (.int .u32 z2) := fun W hW => (hW.cell (p := ⟨N + 1, 0 + M * 2 + 1, none⟩) hbl').trans (hdd 1 _ rfl)
    simp only [Nat.zero_add] at l0 l1 m0 m1
    clear e0 e1 e2 e3 e4 e5 ez ez' hbl hbl' hzz hyy hcc hdd k1 k2 b2 hk1 hk2 hs1 hB8 HS HBK HBM
    clear H1 H2 H3
    go_upto_region 11 with (first
      | (go_at_call 8; (with_reducible refine (HKK.out _ (Below.refl _ _)).mono ?_); rintro e w4 ⟨rfl, hb4⟩; have HB4 := Lib.hid hb4; clear hb4)
      | (go_at_call 8; (with_reducible refine (HMM.out _ HB4.out).mono ?_); rintro e w5 ⟨rfl, hb5⟩; have HB5 := Lib.hid (below_next HB4.out hb5); clear hb5))
    clear HKK HMM
    have hk0 : ¬ (K : Int) < 0 := by omega
    have hk3 : ¬ (2 : Int) < (K : Int) := by have := HK.out; omega
    have hm0 : ¬ (M : Int) < 0 := by omega
    have hm3 : ¬ (2 : Int) < (M : Int) := by have := HM.out; omega
    have hk0' : decide ((K : Int) < 0) = false := by simp
    have hm0' : decide ((M : Int) < 0) = false := by simp
    have hk3' : decide ((2 : Int) < (K : Int)) = false := by simpa using hk3
    have hm3' : decide ((2 : Int) < (M : Int)) = false := by simpa using hm3
    go_upto_region 13 with fail
    have hk4 : (K : Int) < 3 := by have := HK.out; omega
    have hm4 : (M : Int) < 3 := by have := HM.out; omega
    have hk5 : (0 : Int) ≤ (K : Int) := by omega
    have hm5 : (0 : Int) ≤ (M : Int) := by omega
    have hk6 : K < 3 := HK.out
    have hm6 : M < 3 := HM.out
    have HBZ := Lib.hid (below_next HB3.out HB5.out)
    replace l0 := l0 w5 HB5.out
    replace l1 := l1 w5 HB5.out
    replace m0 := m0 w5 HB5.out
    replace m1 := m1 w5 HB5.out
    go_quiet (fail)
    go_wp2
    go_ret
    exact ⟨rfl, below_drewN HBZ.out _⟩
  · have H1 := Lib.hid (ct_v (w0 := w0) h1)
    have H2 := Lib.hid (ct_v (w0 := w0) h2)
    have H3 := Lib.hid (ct_v (w0 := w0) h3)
    have H4 := Lib.hid (ct_v (w0 := w0) h4)
    clear h1 h2 h3 h4
    go_upto_region 7 with (go_at_call 10; (first | (with_reducible refine (H1.out _).mono ?_) | (with_reducible refine (H2.out _).mono ?_) | (with_reducible refine (H3.out _).mono ?_) | (with_reducible refine (H4.out _).mono ?_)); rintro e w1 ⟨rfl, ⟨Q, rfl⟩⟩)
    go_upto_region 8 with fail
    have k1 := Blk.new Q.W 30 #[.int .i64 a, .int .u32 b, .int .i64 a, .int .u32 d, .int .i64 x, .int .u32 y]
    have b1 := below_next Q.b ((Below.refl Q.W.heap.size Q.W).alloc (Nat.le_refl _) (.cells #[.int .i64 a, .int .u32 b, .int .i64 a, .int .u32 d, .int .i64 x, .int .u32 y] 30))
    have hs1 : (Q.W.alloc (.cells #[.int .i64 a, .int .u32 b, .int .i64 a, .int .u32 d, .int .i64 x, .int .u32 y] 30)).heap.size = Q.W.heap.size + 1 := by simp
    generalize Q.W.heap.size = N at *
    obtain ⟨P8, hP8⟩ : ∃ P : Snc w0, P.W = Q.W.alloc (.cells #[.int .i64 a, .int .u32 b, .int .i64 a, .int .u32 d, .int .i64 x, .int .u32 y] 30) := ⟨⟨_, b1⟩, rfl⟩
    rw [← hP8] at k1 hs1 ⊢
    clear hP8 b1
    go_upto_region 9 with fail
    have k2 := Blk.new P8.W 30 #[.int .i64 x, .int .u32 y, .int .i64 a, .int .u32 b, .int .i64 a, .int .u32 d]
    have b2 := (Below.refl P8.W.heap.size P8.W).alloc (Nat.le_refl _) (.cells #[.int .i64 x, .int .u32 y, .int .i64 a, .int .u32 b, .int .i64 a, .int .u32 d] 30)
    replace k1 := k1.next b2
    have hB8 := P8.b
    rw [hs1] at k2
    try rw [hs1]
    generalize P8.W.alloc (.cells #[.int .i64 x, .int .u32 y, .int .i64 a, .int .u32 b, .int .i64 a, .int .u32 d] 30) = w3 at *
    have HB3 := Lib.hid (below_next HB0.out (below_next hB8 b2))
    have hk1 := RI.of_blk (enc := CBd) (k := 2) (xs := [(a, b), (a, d), (x, y)]) (n := 3) (fun _ => rfl) k1 rfl rfl
    have hk2 := RI.of_blk (enc := CBd) (k := 2) (xs := [(x, y), (a, b), (a, d)]) (n := 3) (fun _ => rfl) k2 rfl rfl
    obtain ⟨bb, o, ⟨z1, z2⟩, ez, hbl, hzz, hcc⟩ := hk1.at_ HK.out
    obtain ⟨rfl, rfl⟩ : N = bb ∧ 0 = o := by cases ez; exact ⟨rfl, rfl⟩
    obtain ⟨bb, o, ⟨y1, y2⟩, ez', hbl', hyy, hdd⟩ := hk2.at_ HM.out
    obtain ⟨rfl, rfl⟩ : N + 1 = bb ∧ 0 = o := by cases ez'; exact ⟨rfl, rfl⟩
    obtain ⟨rfl, rfl⟩ : z1 = y1 ∧ z2 = y2 := by have := HS.out _ _ hzz hyy; cases this; exact ⟨rfl, rfl⟩
    have HKK := Lib.hid fun W (hW : Below w3.heap.size w3 W) => HBK.out W _ (hk1.next hW)
    have HMM := Lib.hid fun W (hW : Below w3.heap.size w3 W) => HBM.out W _ (hk2.next hW)
    have l0 : ∀ W, Below w3.heap.size w3 W → W.cell? ⟨N, 0 + K * 2, none⟩ = some (.int .i64 z1) := fun W hW => (hW.cell (p := ⟨N, 0 + K * 2, none⟩) hbl).trans (hcc 0 _ rfl)
    have l1 : ∀ W, Below w3.heap.size w3 W → W.cell? ⟨N, 0 + K * 2 + 1, none⟩ = some (.int .u32 z2) := fun W hW => (hW.cell (p := ⟨N, 0 + K * 2 + 1, none⟩) hbl).trans (hcc 1 _ rfl)
    have m0 : ∀ W, Below w3.heap.size w3 W → W.cell? ⟨N + 1, 0 + M * 2, none⟩ = some (.int .i64 z1) := fun W hW => (hW.cell (p := ⟨N + 1, 0 + M * 2, none⟩) hbl').trans (hdd 0 _ rfl)
    have m1 : ∀ W, Below w3.heap.size w3 W → W.cell? ⟨N + 1, 0 + M * 2 + 1, none⟩ = some (.int .u32 z2) := fun W hW => (hW.cell (p := ⟨N + 1, 0 + M * 2 + 1, none⟩) hbl').trans (hdd 1 _ rfl)
    simp only [Nat.zero_add] at l0 l1 m0 m1
    clear e0 e1 e2 e3 e4 e5 ez ez' hbl hbl' hzz hyy hcc hdd k1 k2 b2 hk1 hk2 hs1 hB8 HS HBK HBM
    clear H1 H2 H3 H4
    go_upto_region 11 with (first
      | (go_at_call 8; (with_reducible refine (HKK.out _ (Below.refl _ _)).mono ?_); rintro e w4 ⟨rfl, hb4⟩; have HB4 := Lib.hid hb4; clear hb4)
      | (go_at_call 8; (with_reducible refine (HMM.out _ HB4.out).mono ?_); rintro e w5 ⟨rfl, hb5⟩; have HB5 := Lib.hid (below_next HB4.out hb5); clear hb5))
    clear HKK HMM
    have hk0 : ¬ (K : Int) < 0 := by omega
    have hk3 : ¬ (2 : Int) < (K : Int) := by have := HK.out; omega
    have hm0 : ¬ (M : Int) < 0 := by omega
    have hm3 : ¬ (2 : Int) < (M : Int) := by have := HM.out; omega
    have hk0' : decide ((K : Int) < 0) = false := by simp
    have hm0' : decide ((M : Int) < 0) = false := by simp
    have hk3' : decide ((2 : Int) < (K : Int)) = false := by simpa using hk3
    have hm3' : decide ((2 : Int) < (M : Int)) = false := by simpa using hm3
    go_upto_region 13 with fail
    have hk4 : (K : Int) < 3 := by have := HK.out; omega
    have hm4 : (M : Int) < 3 := by have := HM.out; omega
    have hk5 : (0 : Int) ≤ (K : Int) := by omega
    have hm5 : (0 : Int) ≤ (M : Int) := by omega
    have hk6 : K < 3 := HK.out
    have hm6 : M < 3 := HM.out
    have HBZ := Lib.hid (below_next HB3.out HB5.out)
    replace l0 := l0 w5 HB5.out
    replace l1 := l1 w5 HB5.out
    replace m0 := m0 w5 HB5.out
    replace m1 := m1 w5 HB5.out
    go_quiet (fail)
    go_wp2
    go_ret
    exact ⟨rfl, below_drewN HBZ.out _⟩
  · have H1 := Lib.hid (ct_v (w0 := w0) h1)
    have H2 := Lib.hid (ct_v (w0 := w0) h2)
    have H3 := Lib.hid (ct_v (w0 := w0) h3)
    have H4 := Lib.hid (ct_v (w0 := w0) h4)
    clear h1 h2 h3 h4
    go_upto_region 7 with (go_at_call 10; (first | (with_reducible refine (H1.out _).mono ?_) | (with_reducible refine (H2.out _).mono ?_) | (with_reducible refine (H3.out _).mono ?_) | (with_reducible refine (H4.out _).mono ?_)); rintro e w1 ⟨rfl, ⟨Q, rfl⟩⟩)
    go_upto_region 8 with fail
    have k1 := Blk.new Q.W 30 #[.int .i64 a, .int .u32 b, .int .i64 c, .int .u32 d, .int .i64 x, .int .u32 y]
    have b1 := below_next Q.b ((Below.refl Q.W.heap.size Q.W).alloc (Nat.le_refl _) (.cells #[.int .i64 a, .int .u32 b, .int .i64 c, .int .u32 d, .int .i64 x, .int .u32 y] 30))
    have hs1 : (Q.W.alloc (.cells #[.int .i64 a, .int .u32 b, .int .i64 c, .int .u32 d, .int .i64 x, .int .u32 y] 30)).heap.size = Q.W.heap.size + 1 := by simp
    generalize Q.W.heap.size = N at *
    obtain ⟨P8, hP8⟩ : ∃ P : Snc w0, P.W = Q.W.alloc (.cells #[.int .i64 a, .int .u32 b, .int .i64 c, .int .u32 d, .int .i64 x, .int .u32 y] 30) := ⟨⟨_, b1⟩, rfl⟩
    rw [← hP8] at k1 hs1 ⊢
    clear hP8 b1
    go_upto_region 9 with fail
    have k2 := Blk.new P8.W 30 #[.int .i64 x, .int .u32 y, .int .i64 a, .int .u32 b, .int .i64 c, .int .u32 d]
    have b2 := (Below.refl P8.W.heap.size P8.W).alloc (Nat.le_refl _) (.cells #[.int .i64 x, .int .u32 y, .int .i64 a, .int .u32 b, .int .i64 c, .int .u32 d] 30)
    replace k1 := k1.next b2
    have hB8 := P8.b
    rw [hs1] at k2
    try rw [hs1]
    generalize P8.W.alloc (.cells #[.int .i64 x, .int .u32 y, .int .i64 a, .int .u32 b, .int .i64 c, .int .u32 d] 30) = w3 at *
    have HB3 := Lib.hid (below_next HB0.out (below_next hB8 b2))
    have hk1 := RI.of_blk (enc := CBd) (k := 2) (xs := [(a, b), (c, d), (x, y)]) (n := 3) (fun _ => rfl) k1 rfl rfl
    have hk2 := RI.of_blk (enc := CBd) (k := 2) (xs := [(x, y), (a, b), (c, d)]) (n := 3) (fun _ => rfl) k2 rfl rfl
    obtain ⟨bb, o, ⟨z1, z2⟩, ez, hbl, hzz, hcc⟩ := hk1.at_ HK.out
    obtain ⟨rfl, rfl⟩ : N = bb ∧ 0 = o := by cases ez; exact ⟨rfl, rfl⟩
    obtain ⟨bb, o, ⟨y1, y2⟩, ez', hbl', hyy, hdd⟩ := hk2.at_ HM.out
    obtain ⟨rfl, rfl⟩ : N + 1 = bb ∧ 0 = o := by cases ez'; exact ⟨rfl, rfl⟩
    obtain ⟨rfl, rfl⟩ : z1 = y1 ∧ z2 = y2 := by have := HS.out _ _ hzz hyy; cases this; exact ⟨rfl, rfl⟩
    have HKK := Lib.hid fun W (hW : Below w3.heap.size w3 W) => HBK.out W _ (hk1.next hW)
    have HMM := Lib.hid fun W (hW : Below w3.heap.size w3 W) => HBM.out W _ (hk2.next hW)
    have l0 : ∀ W, Below w3.heap.size w3 W → W.cell? ⟨N, 0 + K * 2, none⟩ = some (.int .i64 z1) := fun W hW => (hW.cell (p := ⟨N, 0 + K * 2, none⟩) hbl).trans (hcc 0 _ rfl)
    have l1 : ∀ W, Below w3.heap.size w3 W → W.cell? ⟨N, 0 + K * 2 + 1, none⟩ = some (.int .u32 z2) := fun W hW => (hW.cell (p := ⟨N, 0 + K * 2 + 1, none⟩) hbl).trans (hcc 1 _ rfl)
    have m0 : ∀ W, Below w3.heap.size w3 W → W.cell? ⟨N + 1, 0 + M * 2, none⟩ = some (.int .i64 z1) := fun W hW => (hW.cell (p := ⟨N + 1, 0 + M * 2, none⟩) hbl').trans (hdd 0 _ rfl)
    have m1 : ∀ W, Below w3.heap.size w3 W → W.cell? ⟨N + 1, 0 + M * 2 + 1, none⟩ = some (.int .u32 z2) := fun W hW => (hW.cell (p := ⟨N + 1, 0 + M * 2 + 1, none⟩) hbl').trans (hdd 1 _ rfl)
    simp only [Nat.zero_add] at l0 l1 m0 m1
    clear e0 e1 e2 e3 e4 e5 ez ez' hbl hbl' hzz hyy hcc hdd k1 k2 b2 hk1 hk2 hs1 hB8 HS HBK HBM
    clear H1 H2 H3 H4
    go_upto_region 11 with (first
      | (go_at_call 8; (with_reducible refine (HKK.out _ (Below.refl _ _)).mono ?_); rintro e w4 ⟨rfl, hb4⟩; have HB4 := Lib.hid hb4; clear hb4)
      | (go_at_call 8; (with_reducible refine (HMM.out _ HB4.out).mono ?_); rintro e w5 ⟨rfl, hb5⟩; have HB5 := Lib.hid (below_next HB4.out hb5); clear hb5))
    clear HKK HMM
    have hk0 : ¬ (K : Int) < 0 := by omega
    have hk3 : ¬ (2 : Int) < (K : Int) := by have := HK.out; omega
    have hm0 : ¬ (M : Int) < 0 := by omega
    have hm3 : ¬ (2 : Int) < (M : Int) := by have := HM.out; omega
    have hk0' : decide ((K : Int) < 0) = false := by simp
    have hm0' : decide ((M : Int) < 0) = false := by simp
    have hk3' : decide ((2 : Int) < (K : Int)) = false := by simpa using hk3
    have hm3' : decide ((2 : Int) < (M : Int)) = false := by simpa using hm3
    go_upto_region 13 with fail
    have hk4 : (K : Int) < 3 := by have := HK.out; omega
    have hm4 : (M : Int) < 3 := by have := HM.out; omega
    have hk5 : (0 : Int) ≤ (K : Int) := by omega
    have hm5 : (0 : Int) ≤ (M : Int) := by omega
    have hk6 : K < 3 := HK.out
    have hm6 : M < 3 := HM.out
    have HBZ := Lib.hid (below_next HB3.out HB5.out)
    replace l0 := l0 w5 HB5.out
    replace l1 := l1 w5 HB5.out
    replace m0 := m0 w5 HB5.out
    replace m1 := m1 w5 HB5.out
    go_quiet (fail)
    go_wp2
    go_ret
    exact ⟨rfl, below_drewN HBZ.out _⟩
end Go.Proofs.Ytgodmfacelfhaaa

