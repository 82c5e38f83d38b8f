/- The statement on the order of bids, walked. -/
import Derived.Test.YtcbjhaonlfkdkaaBp
namespace Go.Proofs.Ytcbjhaonlfkdkaa
open Go.RowKit
theorem bt_v {w0 : World} {a b c d : Int} {V : Bool} (h : beats (a, b) (c, d) = V) (P : Snc w0) : Calls Try.prog 6 #[.agg #[.int .i64 a, .int .u32 b], .agg #[.int .i64 c, .int .u32 d]] P.W fun e w' => e = .returned (.bool V) ∧ ∃ Q : Snc w0, w' = Q.W :=
  Calls.since (by have := better_any (a, b) (c, d) P.W; rw [h] at this; exact this)
theorem order_key (a b c d x y : Int) : (a = c ∧ b = d) ∨ (a = c ∧ (b == d) = false ∧ beats (a, b) (c, d) = false ∧ beats (c, d) (a, b) = true) ∨ ((a == c) = false ∧ beats (a, b) (c, d) = false ∧ beats (c, d) (a, b) = true) ∨
    (a = c ∧ (b == d) = false ∧ beats (a, b) (c, d) = true ∧ beats (c, d) (a, b) = false ∧ beats (c, d) (x, y) = false) ∨ ((a == c) = false ∧ beats (a, b) (c, d) = true ∧ beats (c, d) (a, b) = false ∧ beats (c, d) (x, y) = false) ∨
    (a = c ∧ (b == d) = false ∧ beats (a, b) (c, d) = true ∧ beats (c, d) (a, b) = false ∧ beats (c, d) (x, y) = true ∧ beats (a, b) (x, y) = true) ∨ ((a == c) = false ∧ beats (a, b) (c, d) = true ∧ beats (c, d) (a, b) = false ∧ beats (c, d) (x, y) = true ∧ beats (a, b) (x, y) = true) := by
  by_cases hac : a = c
  · by_cases hbd : b = d
    · exact .inl ⟨hac, hbd⟩
    · have hbd' : (b == d) = false := by simpa using hbd
      cases h1 : beats (a, b) (c, d) with
      | false =>
        cases h2 : beats (c, d) (a, b) with
        | false => exact absurd (congrArg Prod.snd (beats_tot h1 h2)) hbd
        | true => exact .inr (.inl ⟨hac, hbd', rfl, rfl⟩)
      | true =>
        have h2 := beats_asym h1
        cases h3 : beats (c, d) (x, y) with
        | false => exact .inr (.inr (.inr (.inl ⟨hac, hbd', rfl, h2, rfl⟩)))
        | true => exact .inr (.inr (.inr (.inr (.inr (.inl ⟨hac, hbd', rfl, h2, rfl, beats_trans h1 h3⟩)))))
  · have hac' : (a == c) = false := by simpa using hac
    cases h1 : beats (a, b) (c, d) with
    | false =>
      cases h2 : beats (c, d) (a, b) with
      | false => exact absurd (congrArg Prod.fst (beats_tot h1 h2)) hac
      | true => exact .inr (.inr (.inl ⟨hac', rfl, rfl⟩))
    | true =>
      have h2 := beats_asym h1
      cases h3 : beats (c, d) (x, y) with
      | false => exact .inr (.inr (.inr (.inr (.inl ⟨hac', rfl, h2, rfl⟩))))
      | true => exact .inr (.inr (.inr (.inr (.inr (.inr ⟨hac', rfl, h2, rfl, beats_trans h1 h3⟩)))))
set_option maxRecDepth 100000 in
set_option maxHeartbeats 4000000 in
theorem law_order (a b c d x y : Int) (w : World) : Calls Try.prog 3 #[.agg #[.int .i64 a, .int .u32 b], .agg #[.int .i64 c, .int .u32 d], .agg #[.int .i64 x, .int .u32 y]] w fun e w' => e = .returned (.bool true) ∧ Below w.heap.size w w' := by
  have hb0 := (((Below.refl w.heap.size w).alloc (Nat.le_refl _) (.cells #[.int .i64 a, .int .u32 b] 25)).alloc (by simp) (.cells #[.int .i64 c, .int .u32 d] 25)).alloc (by simp; omega) (.cells #[.int .i64 x, .int .u32 y] 25)
  have HM : Hid (∀ j, j < 3 → beats (([(a, b), (c, d), (x, y)] : List Bd).getD j (0, 0)) (([(a, b), (c, d), (x, y)] : List Bd).getD (bestP [(a, b), (c, d), (x, y)] 3) (0, 0)) = false) := Lib.hid (bestP_max _ 3)
  have HK : Hid (bestP [(a, b), (c, d), (x, y)] 3 < 3) := Lib.hid (bestP_bd _ (by decide))
  have HBE := Lib.hid fun w' => best_any (some ⟨w'.heap.size, 0, none⟩) 3 3 [(a, b), (c, d), (x, y)] (w'.alloc (.cells #[.int .i64 a, .int .u32 b, .int .i64 c, .int .u32 d, .int .i64 x, .int .u32 y] 25)) (RI.of_blk (fun _ => rfl) (Blk.new w' _ _) rfl rfl) (by decide)
  generalize bestP [(a, b), (c, d), (x, y)] 3 = K at *
  go_enter Try.func3, Try.ntmps3
  go_upto_region 1 with fail
  have hz : w.heap.size + 2 < ((((w.alloc (.cells #[.int .i64 a, .int .u32 b] 25)).alloc (.cells #[.int .i64 c, .int .u32 d] 25)).alloc (.cells #[.int .i64 x, .int .u32 y] 25))).heap.size := by simp
  have e0 : ((((w.alloc (.cells #[.int .i64 a, .int .u32 b] 25)).alloc (.cells #[.int .i64 c, .int .u32 d] 25)).alloc (.cells #[.int .i64 x, .int .u32 y] 25))).cell? ⟨w.heap.size, 0, none⟩ = some (.int .i64 a) := by go_simp
  have e1 : ((((w.alloc (.cells #[.int .i64 a, .int .u32 b] 25)).alloc (.cells #[.int .i64 c, .int .u32 d] 25)).alloc (.cells #[.int .i64 x, .int .u32 y] 25))).cell? ⟨w.heap.size, 1, none⟩ = some (.int .u32 b) := by go_simp
  have e2 : ((((w.alloc (.cells #[.int .i64 a, .int .u32 b] 25)).alloc (.cells #[.int .i64 c, .int .u32 d] 25)).alloc (.cells #[.int .i64 x, .int .u32 y] 25))).cell? ⟨w.heap.size + 1, 0, none⟩ = some (.int .i64 c) := by go_simp
  have e3 : ((((w.alloc (.cells #[.int .i64 a, .int .u32 b] 25)).alloc (.cells #[.int .i64 c, .int .u32 d] 25)).alloc (.cells #[.int .i64 x, .int .u32 y] 25))).cell? ⟨w.heap.size + 1, 1, none⟩ = some (.int .u32 d) := by go_simp
  have e4 : ((((w.alloc (.cells #[.int .i64 a, .int .u32 b] 25)).alloc (.cells #[.int .i64 c, .int .u32 d] 25)).alloc (.cells #[.int .i64 x, .int .u32 y] 25))).cell? ⟨w.heap.size + 1 + 1, 0, none⟩ = some (.int .i64 x) := by go_simp
  have e5 : ((((w.alloc (.cells #[.int .i64 a, .int .u32 b] 25)).alloc (.cells #[.int .i64 c, .int .u32 d] 25)).alloc (.cells #[.int .i64 x, .int .u32 y] 25))).cell? ⟨w.heap.size + 1 + 1, 1, none⟩ = some (.int .u32 y) := by go_simp
  generalize (((w.alloc (.cells #[.int .i64 a, .int .u32 b] 25)).alloc (.cells #[.int .i64 c, .int .u32 d] 25)).alloc (.cells #[.int .i64 x, .int .u32 y] 25)) = w0 at *
  replace e0 := Snc.all fun W (hW : Below w0.heap.size w0 W) => (hW.cell (p := ⟨w.heap.size, 0, none⟩) (by simp; omega)).trans e0
  replace e1 := Snc.all fun W (hW : Below w0.heap.size w0 W) => (hW.cell (p := ⟨w.heap.size, 1, none⟩) (by simp; omega)).trans e1
  replace e2 := Snc.all fun W (hW : Below w0.heap.size w0 W) => (hW.cell (p := ⟨w.heap.size + 1, 0, none⟩) (by simp; omega)).trans e2
  replace e3 := Snc.all fun W (hW : Below w0.heap.size w0 W) => (hW.cell (p := ⟨w.heap.size + 1, 1, none⟩) (by simp; omega)).trans e3
  replace e4 := Snc.all fun W (hW : Below w0.heap.size w0 W) => (hW.cell (p := ⟨w.heap.size + 1 + 1, 0, none⟩) (by simp; omega)).trans e4
  replace e5 := Snc.all fun W (hW : Below w0.heap.size w0 W) => (hW.cell (p := ⟨w.heap.size + 1 + 1, 1, none⟩) (by simp; omega)).trans e5
  have HB0 := Lib.hid hb0
  clear hb0 hz
  go_upto_region 4 with (go_at_call 5; refine (first12_any _).mono ?_; rintro e w1 ⟨rfl, hb1⟩; obtain ⟨P1, rfl⟩ : ∃ P : Snc w0, w1 = P.W := ⟨⟨_, hb1⟩, rfl⟩; clear hb1)
  rcases order_key a b c d x y with ⟨rfl, rfl⟩ | ⟨rfl, hbd, h1, h2⟩ | ⟨hac, h1, h2⟩ | ⟨rfl, hbd, h1, h2, h3⟩ | ⟨hac, h1, h2, h3⟩ | ⟨rfl, hbd, h1, h2, h3, h4⟩ | ⟨hac, h1, h2, h3, h4⟩
  · have H1 := Lib.hid (bt_v (w0 := w0) (beats_irr (a, b)))
    go_upto_region 7 with (go_at_call 6; (first | (with_reducible refine (H1.out _).mono ?_)); rintro e w1 ⟨rfl, ⟨Q, rfl⟩⟩)
    go_upto_region 8 with (go_at_call 7; (with_reducible refine (HBE.out _).mono ?_); rintro e w1 ⟨rfl, hb1⟩; obtain ⟨P2, rfl⟩ : ∃ P : Snc w0, w1 = P.W := ⟨⟨_, below_next ((Snc.b _).alloc (Snc.b _).size _) hb1⟩, rfl⟩; clear hb1)
    go_upto_region 10 with fail
    have hz := P2.b.size
    have hl : P2.W.heap.size < (P2.W.alloc (.cells #[.int .i64 a, .int .u32 b, .int .i64 a, .int .u32 b, .int .i64 x, .int .u32 y] 25)).heap.size := by simp
    have hab := (Below.refl P2.W.heap.size P2.W).alloc (Nat.le_refl _) (.cells #[.int .i64 a, .int .u32 b, .int .i64 a, .int .u32 b, .int .i64 x, .int .u32 y] 25)
    obtain ⟨bb, o, ⟨zr, za⟩, ez, hbl, hzz, hcc⟩ := (RI.of_blk (enc := CBd) (k := 2) (xs := [(a, b), (a, b), (x, y)]) (n := 3) (fun _ => rfl) (Blk.new P2.W 25 #[.int .i64 a, .int .u32 b, .int .i64 a, .int .u32 b, .int .i64 x, .int .u32 y]) rfl rfl).at_ HK.out
    obtain ⟨rfl, rfl⟩ : P2.W.heap.size = bb ∧ 0 = o := by cases ez; exact ⟨rfl, rfl⟩
    have l0 := hcc 0 _ rfl
    have l1 := hcc 1 _ rfl
    have hg : ([(a, b), (a, b), (x, y)] : List Bd).getD K (0, 0) = (zr, za) := by rw [List.getD_eq_getElem?_getD, hzz]; rfl
    simp only [Nat.zero_add, Nat.add_zero] at l0 l1
    generalize (P2.W.alloc (.cells #[.int .i64 a, .int .u32 b, .int .i64 a, .int .u32 b, .int .i64 x, .int .u32 y] 25)) = w3 at *
    have hB3 := below_next P2.b hab
    have HB3 := Lib.hid (below_next HB0.out hB3)
    have q0 : ∀ p : Snc w3, p.W.cell? ⟨w.heap.size, 0, none⟩ = some (.int .i64 a) := fun p => e0 ⟨p.W, below_next hB3 p.b⟩
    have q1 : ∀ p : Snc w3, p.W.cell? ⟨w.heap.size, 1, none⟩ = some (.int .u32 b) := fun p => e1 ⟨p.W, below_next hB3 p.b⟩
    have q2 : ∀ p : Snc w3, p.W.cell? ⟨w.heap.size + 1, 0, none⟩ = some (.int .i64 a) := fun p => e2 ⟨p.W, below_next hB3 p.b⟩
    have q3 : ∀ p : Snc w3, p.W.cell? ⟨w.heap.size + 1, 1, none⟩ = some (.int .u32 b) := fun p => e3 ⟨p.W, below_next hB3 p.b⟩
    have q4 : ∀ p : Snc w3, p.W.cell? ⟨w.heap.size + 1 + 1, 0, none⟩ = some (.int .i64 x) := fun p => e4 ⟨p.W, below_next hB3 p.b⟩
    have q5 : ∀ p : Snc w3, p.W.cell? ⟨w.heap.size + 1 + 1, 1, none⟩ = some (.int .u32 y) := fun p => e5 ⟨p.W, below_next hB3 p.b⟩
    replace l0 := Snc.all fun W (hW : Below w3.heap.size w3 W) => (hW.cell (p := ⟨P2.W.heap.size, K * 2, none⟩) hl).trans l0
    replace l1 := Snc.all fun W (hW : Below w3.heap.size w3 W) => (hW.cell (p := ⟨P2.W.heap.size, K * 2 + 1, none⟩) hl).trans l1
    have R0 := bt_v (w0 := w3) (a := a) (b := b) (c := zr) (d := za) (V := false) (by have := HM.out 0 (by decide); rw [hg] at this; exact this)
    have R1 := bt_v (w0 := w3) (a := a) (b := b) (c := zr) (d := za) (V := false) (by have := HM.out 1 (by decide); rw [hg] at this; exact this)
    have R2 := bt_v (w0 := w3) (a := x) (b := y) (c := zr) (d := za) (V := false) (by have := HM.out 2 (by decide); rw [hg] at this; exact this)
    have R3 : ∀ p : Snc w3, Calls Try.prog 8 #[.int .i64 1, .int .i64 2] p.W fun e w' => e = .returned (.int .i64 1) ∧ ∃ Q : Snc w3, w' = Q.W := fun p => Calls.since_same (number_any 1 2 p.W (by decide) (by decide))
    have hk0 : (0 : Int) ≤ (K : Int) := by omega
    have hk3 : (K : Int) < 3 := by have := HK.out; omega
    have hk4 : K < 3 := HK.out
    clear e0 e1 e2 e3 e4 e5 hz hl hab ez hbl hzz hcc hg hB3 HM
    refine wp_region_since (by kernel_rfl) (by kernel_rfl) ?_
    repeat (go_big_quiet_step (first | (go_at_call 6; first | with_reducible exact R0 _ | with_reducible exact R1 _ | with_reducible exact R2 _) | (go_at_call 8; exact R3 _)))
    refine wpQuiet_nil ?_
    rintro w5 ⟨P5, rfl⟩
    have hB5 := below_next HB3.out P5.b
    clear q0 q1 q2 q3 q4 q5 l0 l1 R0 R1 R2 R3
    go_wp2
    go_ret
    exact ⟨rfl, hB5⟩
  · have H1 := Lib.hid (bt_v (w0 := w0) h1)
    have H2 := Lib.hid (bt_v (w0 := w0) h2)
    clear h1 h2
    go_upto_region 7 with (go_at_call 6; (first | (with_reducible refine (H1.out _).mono ?_) | (with_reducible refine (H2.out _).mono ?_)); rintro e w1 ⟨rfl, ⟨Q, rfl⟩⟩)
    go_upto_region 8 with (go_at_call 7; (with_reducible refine (HBE.out _).mono ?_); rintro e w1 ⟨rfl, hb1⟩; obtain ⟨P2, rfl⟩ : ∃ P : Snc w0, w1 = P.W := ⟨⟨_, below_next ((Snc.b _).alloc (Snc.b _).size _) hb1⟩, rfl⟩; clear hb1)
    go_upto_region 10 with fail
    have hz := P2.b.size
    have hl : P2.W.heap.size < (P2.W.alloc (.cells #[.int .i64 a, .int .u32 b, .int .i64 a, .int .u32 d, .int .i64 x, .int .u32 y] 25)).heap.size := by simp
    have hab := (Below.refl P2.W.heap.size P2.W).alloc (Nat.le_refl _) (.cells #[.int .i64 a, .int .u32 b, .int .i64 a, .int .u32 d, .int .i64 x, .int .u32 y] 25)
    obtain ⟨bb, o, ⟨zr, za⟩, ez, hbl, hzz, hcc⟩ := (RI.of_blk (enc := CBd) (k := 2) (xs := [(a, b), (a, d), (x, y)]) (n := 3) (fun _ => rfl) (Blk.new P2.W 25 #[.int .i64 a, .int .u32 b, .int .i64 a, .int .u32 d, .int .i64 x, .int .u32 y]) rfl rfl).at_ HK.out
    obtain ⟨rfl, rfl⟩ : P2.W.heap.size = bb ∧ 0 = o := by cases ez; exact ⟨rfl, rfl⟩
    have l0 := hcc 0 _ rfl
    have l1 := hcc 1 _ rfl
    have hg : ([(a, b), (a, d), (x, y)] : List Bd).getD K (0, 0) = (zr, za) := by rw [List.getD_eq_getElem?_getD, hzz]; rfl
    simp only [Nat.zero_add, Nat.add_zero] at l0 l1
    generalize (P2.W.alloc (.cells #[.int .i64 a, .int .u32 b, .int .i64 a, .int .u32 d, .int .i64 x, .int .u32 y] 25)) = w3 at *
    have hB3 := below_next P2.b hab
    have HB3 := Lib.hid (below_next HB0.out hB3)
    have q0 : ∀ p : Snc w3, p.W.cell? ⟨w.heap.size, 0, none⟩ = some (.int .i64 a) := fun p => e0 ⟨p.W, below_next hB3 p.b⟩
    have q1 : ∀ p : Snc w3, p.W.cell? ⟨w.heap.size, 1, none⟩ = some (.int .u32 b) := fun p => e1 ⟨p.W, below_next hB3 p.b⟩
    have q2 : ∀ p : Snc w3, p.W.cell? ⟨w.heap.size + 1, 0, none⟩ = some (.int .i64 a) := fun p => e2 ⟨p.W, below_next hB3 p.b⟩
    have q3 : ∀ p : Snc w3, p.W.cell? ⟨w.heap.size + 1, 1, none⟩ = some (.int .u32 d) := fun p => e3 ⟨p.W, below_next hB3 p.b⟩
    have q4 : ∀ p : Snc w3, p.W.cell? ⟨w.heap.size + 1 + 1, 0, none⟩ = some (.int .i64 x) := fun p => e4 ⟨p.W, below_next hB3 p.b⟩
    have q5 : ∀ p : Snc w3, p.W.cell? ⟨w.heap.size + 1 + 1, 1, none⟩ = some (.int .u32 y) := fun p => e5 ⟨p.W, below_next hB3 p.b⟩
    replace l0 := Snc.all fun W (hW : Below w3.heap.size w3 W) => (hW.cell (p := ⟨P2.W.heap.size, K * 2, none⟩) hl).trans l0
    replace l1 := Snc.all fun W (hW : Below w3.heap.size w3 W) => (hW.cell (p := ⟨P2.W.heap.size, K * 2 + 1, none⟩) hl).trans l1
    have R0 := bt_v (w0 := w3) (a := a) (b := b) (c := zr) (d := za) (V := false) (by have := HM.out 0 (by decide); rw [hg] at this; exact this)
    have R1 := bt_v (w0 := w3) (a := a) (b := d) (c := zr) (d := za) (V := false) (by have := HM.out 1 (by decide); rw [hg] at this; exact this)
    have R2 := bt_v (w0 := w3) (a := x) (b := y) (c := zr) (d := za) (V := false) (by have := HM.out 2 (by decide); rw [hg] at this; exact this)
    have R3 : ∀ p : Snc w3, Calls Try.prog 8 #[.int .i64 1, .int .i64 2] p.W fun e w' => e = .returned (.int .i64 1) ∧ ∃ Q : Snc w3, w' = Q.W := fun p => Calls.since_same (number_any 1 2 p.W (by decide) (by decide))
    have hk0 : (0 : Int) ≤ (K : Int) := by omega
    have hk3 : (K : Int) < 3 := by have := HK.out; omega
    have hk4 : K < 3 := HK.out
    clear e0 e1 e2 e3 e4 e5 hz hl hab ez hbl hzz hcc hg hB3 HM
    refine wp_region_since (by kernel_rfl) (by kernel_rfl) ?_
    repeat (go_big_quiet_step (first | (go_at_call 6; first | with_reducible exact R0 _ | with_reducible exact R1 _ | with_reducible exact R2 _) | (go_at_call 8; exact R3 _)))
    refine wpQuiet_nil ?_
    rintro w5 ⟨P5, rfl⟩
    have hB5 := below_next HB3.out P5.b
    clear q0 q1 q2 q3 q4 q5 l0 l1 R0 R1 R2 R3
    go_wp2
    go_ret
    exact ⟨rfl, hB5⟩
  · have H1 := Lib.hid (bt_v (w0 := w0) h1)
    have H2 := Lib.hid (bt_v (w0 := w0) h2)
    clear h1 h2
    go_upto_region 7 with (go_at_call 6; (first | (with_reducible refine (H1.out _).mono ?_) | (with_reducible refine (H2.out _).mono ?_)); rintro e w1 ⟨rfl, ⟨Q, rfl⟩⟩)
    go_upto_region 8 with (go_at_call 7; (with_reducible refine (HBE.out _).mono ?_); rintro e w1 ⟨rfl, hb1⟩; obtain ⟨P2, rfl⟩ : ∃ P : Snc w0, w1 = P.W := ⟨⟨_, below_next ((Snc.b _).alloc (Snc.b _).size _) hb1⟩, rfl⟩; clear hb1)
    go_upto_region 10 with fail
    have hz := P2.b.size
    have hl : P2.W.heap.size < (P2.W.alloc (.cells #[.int .i64 a, .int .u32 b, .int .i64 c, .int .u32 d, .int .i64 x, .int .u32 y] 25)).heap.size := by simp
    have hab := (Below.refl P2.W.heap.size P2.W).alloc (Nat.le_refl _) (.cells #[.int .i64 a, .int .u32 b, .int .i64 c, .int .u32 d, .int .i64 x, .int .u32 y] 25)
    obtain ⟨bb, o, ⟨zr, za⟩, ez, hbl, hzz, hcc⟩ := (RI.of_blk (enc := CBd) (k := 2) (xs := [(a, b), (c, d), (x, y)]) (n := 3) (fun _ => rfl) (Blk.new P2.W 25 #[.int .i64 a, .int .u32 b, .int .i64 c, .int .u32 d, .int .i64 x, .int .u32 y]) rfl rfl).at_ HK.out
    obtain ⟨rfl, rfl⟩ : P2.W.heap.size = bb ∧ 0 = o := by cases ez; exact ⟨rfl, rfl⟩
    have l0 := hcc 0 _ rfl
    have l1 := hcc 1 _ rfl
    have hg : ([(a, b), (c, d), (x, y)] : List Bd).getD K (0, 0) = (zr, za) := by rw [List.getD_eq_getElem?_getD, hzz]; rfl
    simp only [Nat.zero_add, Nat.add_zero] at l0 l1
    generalize (P2.W.alloc (.cells #[.int .i64 a, .int .u32 b, .int .i64 c, .int .u32 d, .int .i64 x, .int .u32 y] 25)) = w3 at *
    have hB3 := below_next P2.b hab
    have HB3 := Lib.hid (below_next HB0.out hB3)
    have q0 : ∀ p : Snc w3, p.W.cell? ⟨w.heap.size, 0, none⟩ = some (.int .i64 a) := fun p => e0 ⟨p.W, below_next hB3 p.b⟩
    have q1 : ∀ p : Snc w3, p.W.cell? ⟨w.heap.size, 1, none⟩ = some (.int .u32 b) := fun p => e1 ⟨p.W, below_next hB3 p.b⟩
    have q2 : ∀ p : Snc w3, p.W.cell? ⟨w.heap.size + 1, 0, none⟩ = some (.int .i64 c) := fun p => e2 ⟨p.W, below_next hB3 p.b⟩
    have q3 : ∀ p : Snc w3, p.W.cell? ⟨w.heap.size + 1, 1, none⟩ = some (.int .u32 d) := fun p => e3 ⟨p.W, below_next hB3 p.b⟩
    have q4 : ∀ p : Snc w3, p.W.cell? ⟨w.heap.size + 1 + 1, 0, none⟩ = some (.int .i64 x) := fun p => e4 ⟨p.W, below_next hB3 p.b⟩
    have q5 : ∀ p : Snc w3, p.W.cell? ⟨w.heap.size + 1 + 1, 1, none⟩ = some (.int .u32 y) := fun p => e5 ⟨p.W, below_next hB3 p.b⟩
    replace l0 := Snc.all fun W (hW : Below w3.heap.size w3 W) => (hW.cell (p := ⟨P2.W.heap.size, K * 2, none⟩) hl).trans l0
    replace l1 := Snc.all fun W (hW : Below w3.heap.size w3 W) => (hW.cell (p := ⟨P2.W.heap.size, K * 2 + 1, none⟩) hl).trans l1
    have R0 := bt_v (w0 := w3) (a := a) (b := b) (c := zr) (d := za) (V := false) (by have := HM.out 0 (by decide); rw [hg] at this; exact this)
    have R1 := bt_v (w0 := w3) (a := c) (b := d) (c := zr) (d := za) (V := false) (by have := HM.out 1 (by decide); rw [hg] at this; exact this)
    have R2 := bt_v (w0 := w3) (a := x) (b := y) (c := zr) (d := za) (V := false) (by have := HM.out 2 (by decide); rw [hg] at this; exact this)
    have R3 : ∀ p : Snc w3, Calls Try.prog 8 #[.int .i64 1, .int .i64 2] p.W fun e w' => e = .returned (.int .i64 1) ∧ ∃ Q : Snc w3, w' = Q.W := fun p => Calls.since_same (number_any 1 2 p.W (by decide) (by decide))
    have hk0 : (0 : Int) ≤ (K : Int) := by omega
    have hk3 : (K : Int) < 3 := by have := HK.out; omega
    have hk4 : K < 3 := HK.out
    clear e0 e1 e2 e3 e4 e5 hz hl hab ez hbl hzz hcc hg hB3 HM
    refine wp_region_since (by kernel_rfl) (by kernel_rfl) ?_
    repeat (go_big_quiet_step (first | (go_at_call 6; first | with_reducible exact R0 _ | with_reducible exact R1 _ | with_reducible exact R2 _) | (go_at_call 8; exact R3 _)))
    refine wpQuiet_nil ?_
    rintro w5 ⟨P5, rfl⟩
    have hB5 := below_next HB3.out P5.b
    clear q0 q1 q2 q3 q4 q5 l0 l1 R0 R1 R2 R3
    go_wp2
    go_ret
    exact ⟨rfl, hB5⟩
  · have H1 := Lib.hid (bt_v (w0 := w0) h1)
    have H2 := Lib.hid (bt_v (w0 := w0) h2)
    have H3 := Lib.hid (bt_v (w0 := w0) h3)
    clear h1 h2 h3
    go_upto_region 7 with (go_at_call 6; (first | (with_reducible refine (H1.out _).mono ?_) | (with_reducible refine (H2.out _).mono ?_) | (with_reducible refine (H3.out _).mono ?_)); rintro e w1 ⟨rfl, ⟨Q, rfl⟩⟩)
    go_upto_region 8 with (go_at_call 7; (with_reducible refine (HBE.out _).mono ?_); rintro e w1 ⟨rfl, hb1⟩; obtain ⟨P2, rfl⟩ : ∃ P : Snc w0, w1 = P.W := ⟨⟨_, below_next ((Snc.b _).alloc (Snc.b _).size _) hb1⟩, rfl⟩; clear hb1)
    go_upto_region 10 with fail
    have hz := P2.b.size
    have hl : P2.W.heap.size < (P2.W.alloc (.cells #[.int .i64 a, .int .u32 b, .int .i64 a, .int .u32 d, .int .i64 x, .int .u32 y] 25)).heap.size := by simp
    have hab := (Below.refl P2.W.heap.size P2.W).alloc (Nat.le_refl _) (.cells #[.int .i64 a, .int .u32 b, .int .i64 a, .int .u32 d, .int .i64 x, .int .u32 y] 25)
    obtain ⟨bb, o, ⟨zr, za⟩, ez, hbl, hzz, hcc⟩ := (RI.of_blk (enc := CBd) (k := 2) (xs := [(a, b), (a, d), (x, y)]) (n := 3) (fun _ => rfl) (Blk.new P2.W 25 #[.int .i64 a, .int .u32 b, .int .i64 a, .int .u32 d, .int .i64 x, .int .u32 y]) rfl rfl).at_ HK.out
    obtain ⟨rfl, rfl⟩ : P2.W.heap.size = bb ∧ 0 = o := by cases ez; exact ⟨rfl, rfl⟩
    have l0 := hcc 0 _ rfl
    have l1 := hcc 1 _ rfl
    have hg : ([(a, b), (a, d), (x, y)] : List Bd).getD K (0, 0) = (zr, za) := by rw [List.getD_eq_getElem?_getD, hzz]; rfl
    simp only [Nat.zero_add, Nat.add_zero] at l0 l1
    generalize (P2.W.alloc (.cells #[.int .i64 a, .int .u32 b, .int .i64 a, .int .u32 d, .int .i64 x, .int .u32 y] 25)) = w3 at *
    have hB3 := below_next P2.b hab
    have HB3 := Lib.hid (below_next HB0.out hB3)
    have q0 : ∀ p : Snc w3, p.W.cell? ⟨w.heap.size, 0, none⟩ = some (.int .i64 a) := fun p => e0 ⟨p.W, below_next hB3 p.b⟩
    have q1 : ∀ p : Snc w3, p.W.cell? ⟨w.heap.size, 1, none⟩ = some (.int .u32 b) := fun p => e1 ⟨p.W, below_next hB3 p.b⟩
    have q2 : ∀ p : Snc w3, p.W.cell? ⟨w.heap.size + 1, 0, none⟩ = some (.int .i64 a) := fun p => e2 ⟨p.W, below_next hB3 p.b⟩
    have q3 : ∀ p : Snc w3, p.W.cell? ⟨w.heap.size + 1, 1, none⟩ = some (.int .u32 d) := fun p => e3 ⟨p.W, below_next hB3 p.b⟩
    have q4 : ∀ p : Snc w3, p.W.cell? ⟨w.heap.size + 1 + 1, 0, none⟩ = some (.int .i64 x) := fun p => e4 ⟨p.W, below_next hB3 p.b⟩
    have q5 : ∀ p : Snc w3, p.W.cell? ⟨w.heap.size + 1 + 1, 1, none⟩ = some (.int .u32 y) := fun p => e5 ⟨p.W, below_next hB3 p.b⟩
    replace l0 := Snc.all fun W (hW : Below w3.heap.size w3 W) => (hW.cell (p := ⟨P2.W.heap.size, K * 2, none⟩) hl).trans l0
    replace l1 := Snc.all fun W (hW : Below w3.heap.size w3 W) => (hW.cell (p := ⟨P2.W.heap.size, K * 2 + 1, none⟩) hl).trans l1
    have R0 := bt_v (w0 := w3) (a := a) (b := b) (c := zr) (d := za) (V := false) (by have := HM.out 0 (by decide); rw [hg] at this; exact this)
    have R1 := bt_v (w0 := w3) (a := a) (b := d) (c := zr) (d := za) (V := false) (by have := HM.out 1 (by decide); rw [hg] at this; exact this)
    have R2 := bt_v (w0 := w3) (a := x) (b := y) (c := zr) (d := za) (V := false) (by have := HM.out 2 (by decide); rw [hg] at this; exact this)
    have R3 : ∀ p : Snc w3, Calls Try.prog 8 #[.int .i64 1, .int .i64 2] p.W fun e w' => e = .returned (.int .i64 1) ∧ ∃ Q : Snc w3, w' = Q.W := fun p => Calls.since_same (number_any 1 2 p.W (by decide) (by decide))
    have hk0 : (0 : Int) ≤ (K : Int) := by omega
    have hk3 : (K : Int) < 3 := by have := HK.out; omega
    have hk4 : K < 3 := HK.out
    clear e0 e1 e2 e3 e4 e5 hz hl hab ez hbl hzz hcc hg hB3 HM
    refine wp_region_since (by kernel_rfl) (by kernel_rfl) ?_
    repeat (go_big_quiet_step (first | (go_at_call 6; first | with_reducible exact R0 _ | with_reducible exact R1 _ | with_reducible exact R2 _) | (go_at_call 8; exact R3 _)))
    refine wpQuiet_nil ?_
    rintro w5 ⟨P5, rfl⟩
    have hB5 := below_next HB3.out P5.b
    clear q0 q1 q2 q3 q4 q5 l0 l1 R0 R1 R2 R3
    go_wp2
    go_ret
    exact ⟨rfl, hB5⟩
  · have H1 := Lib.hid (bt_v (w0 := w0) h1)
    have H2 := Lib.hid (bt_v (w0 := w0) h2)
    have H3 := Lib.hid (bt_v (w0 := w0) h3)
    clear h1 h2 h3
    go_upto_region 7 with (go_at_call 6; (first | (with_reducible refine (H1.out _).mono ?_) | (with_reducible refine (H2.out _).mono ?_) | (with_reducible refine (H3.out _).mono ?_)); rintro e w1 ⟨rfl, ⟨Q, rfl⟩⟩)
    go_upto_region 8 with (go_at_call 7; (with_reducible refine (HBE.out _).mono ?_); rintro e w1 ⟨rfl, hb1⟩; obtain ⟨P2, rfl⟩ : ∃ P : Snc w0, w1 = P.W := ⟨⟨_, below_next ((Snc.b _).alloc (Snc.b _).size _) hb1⟩, rfl⟩; clear hb1)
    go_upto_region 10 with fail
    have hz := P2.b.size
    have hl : P2.W.heap.size < (P2.W.alloc (.cells #[.int .i64 a, .int .u32 b, .int .i64 c, .int .u32 d, .int .i64 x, .int .u32 y] 25)).heap.size := by simp
    have hab := (Below.refl P2.W.heap.size P2.W).alloc (Nat.le_refl _) (.cells #[.int .i64 a, .int .u32 b, .int .i64 c, .int .u32 d, .int .i64 x, .int .u32 y] 25)
    obtain ⟨bb, o, ⟨zr, za⟩, ez, hbl, hzz, hcc⟩ := (RI.of_blk (enc := CBd) (k := 2) (xs := [(a, b), (c, d), (x, y)]) (n := 3) (fun _ => rfl) (Blk.new P2.W 25 #[.int .i64 a, .int .u32 b, .int .i64 c, .int .u32 d, .int .i64 x, .int .u32 y]) rfl rfl).at_ HK.out
    obtain ⟨rfl, rfl⟩ : P2.W.heap.size = bb ∧ 0 = o := by cases ez; exact ⟨rfl, rfl⟩
    have l0 := hcc 0 _ rfl
    have l1 := hcc 1 _ rfl
    have hg : ([(a, b), (c, d), (x, y)] : List Bd).getD K (0, 0) = (zr, za) := by rw [List.getD_eq_getElem?_getD, hzz]; rfl
    simp only [Nat.zero_add, Nat.add_zero] at l0 l1
    generalize (P2.W.alloc (.cells #[.int .i64 a, .int .u32 b, .int .i64 c, .int .u32 d, .int .i64 x, .int .u32 y] 25)) = w3 at *
    have hB3 := below_next P2.b hab
    have HB3 := Lib.hid (below_next HB0.out hB3)
    have q0 : ∀ p : Snc w3, p.W.cell? ⟨w.heap.size, 0, none⟩ = some (.int .i64 a) := fun p => e0 ⟨p.W, below_next hB3 p.b⟩
    have q1 : ∀ p : Snc w3, p.W.cell? ⟨w.heap.size, 1, none⟩ = some (.int .u32 b) := fun p => e1 ⟨p.W, below_next hB3 p.b⟩
    have q2 : ∀ p : Snc w3, p.W.cell? ⟨w.heap.size + 1, 0, none⟩ = some (.int .i64 c) := fun p => e2 ⟨p.W, below_next hB3 p.b⟩
    have q3 : ∀ p : Snc w3, p.W.cell? ⟨w.heap.size + 1, 1, none⟩ = some (.int .u32 d) := fun p => e3 ⟨p.W, below_next hB3 p.b⟩
    have q4 : ∀ p : Snc w3, p.W.cell? ⟨w.heap.size + 1 + 1, 0, none⟩ = some (.int .i64 x) := fun p => e4 ⟨p.W, below_next hB3 p.b⟩
    have q5 : ∀ p : Snc w3, p.W.cell? ⟨w.heap.size + 1 + 1, 1, none⟩ = some (.int .u32 y) := fun p => e5 ⟨p.W, below_next hB3 p.b⟩
    replace l0 := Snc.all fun W (hW : Below w3.heap.size w3 W) => (hW.cell (p := ⟨P2.W.heap.size, K * 2, none⟩) hl).trans l0
    replace l1 := Snc.all fun W (hW : Below w3.heap.size w3 W) => (hW.cell (p := ⟨P2.W.heap.size, K * 2 + 1, none⟩) hl).trans l1
    have R0 := bt_v (w0 := w3) (a := a) (b := b) (c := zr) (d := za) (V := false) (by have := HM.out 0 (by decide); rw [hg] at this; exact this)
    have R1 := bt_v (w0 := w3) (a := c) (b := d) (c := zr) (d := za) (V := false) (by have := HM.out 1 (by decide); rw [hg] at this; exact this)
    have R2 := bt_v (w0 := w3) (a := x) (b := y) (c := zr) (d := za) (V := false) (by have := HM.out 2 (by decide); rw [hg] at this; exact this)
    have R3 : ∀ p : Snc w3, Calls Try.prog 8 #[.int .i64 1, .int .i64 2] p.W fun e w' => e = .returned (.int .i64 1) ∧ ∃ Q : Snc w3, w' = Q.W := fun p => Calls.since_same (number_any 1 2 p.W (by decide) (by decide))
    have hk0 : (0 : Int) ≤ (K : Int) := by omega
    have hk3 : (K : Int) < 3 := by have := HK.out; omega
    have hk4 : K < 3 := HK.out
    clear e0 e1 e2 e3 e4 e5 hz hl hab ez hbl hzz hcc hg hB3 HM
    refine wp_region_since (by kernel_rfl) (by kernel_rfl) ?_
    repeat (go_big_quiet_step (first | (go_at_call 6; first | with_reducible exact R0 _ | with_reducible exact R1 _ | with_reducible exact R2 _) | (go_at_call 8; exact R3 _)))
    refine wpQuiet_nil ?_
    rintro w5 ⟨P5, rfl⟩
    have hB5 := below_next HB3.out P5.b
    clear q0 q1 q2 q3 q4 q5 l0 l1 R0 R1 R2 R3
    go_wp2
    go_ret
    exact ⟨rfl, hB5⟩
  · have H1 := Lib.hid (bt_v (w0 := w0) h1)
    have H2 := Lib.hid (bt_v (w0 := w0) h2)
    have H3 := Lib.hid (bt_v (w0 := w0) h3)
    have H4 := Lib.hid (bt_v (w0 := w0) h4)
    clear h1 h2 h3 h4
    go_upto_region 7 with (go_at_call 6; (first | (with_reducible refine (H1.out _).mono ?_) | (with_reducible refine (H2.out _).mono ?_) | (with_reducible refine (H3.out _).mono ?_) | (with_reducible refine (H4.out _).mono ?_)); rintro e w1 ⟨rfl, ⟨Q, rfl⟩⟩)
    go_upto_region 8 with (go_at_call 7; (with_reducible refine (HBE.out _).mono ?_); rintro e w1 ⟨rfl, hb1⟩; obtain ⟨P2, rfl⟩ : ∃ P : Snc w0, w1 = P.W := ⟨⟨_, below_next ((Snc.b _).alloc (Snc.b _).size _) hb1⟩, rfl⟩; clear hb1)
    go_upto_region 10 with fail
    have hz := P2.b.size
    have hl : P2.W.heap.size < (P2.W.alloc (.cells #[.int .i64 a, .int .u32 b, .int .i64 a, .int .u32 d, .int .i64 x, .int .u32 y] 25)).heap.size := by simp
    have hab := (Below.refl P2.W.heap.size P2.W).alloc (Nat.le_refl _) (.cells #[.int .i64 a, .int .u32 b, .int .i64 a, .int .u32 d, .int .i64 x, .int .u32 y] 25)
    obtain ⟨bb, o, ⟨zr, za⟩, ez, hbl, hzz, hcc⟩ := (RI.of_blk (enc := CBd) (k := 2) (xs := [(a, b), (a, d), (x, y)]) (n := 3) (fun _ => rfl) (Blk.new P2.W 25 #[.int .i64 a, .int .u32 b, .int .i64 a, .int .u32 d, .int .i64 x, .int .u32 y]) rfl rfl).at_ HK.out
    obtain ⟨rfl, rfl⟩ : P2.W.heap.size = bb ∧ 0 = o := by cases ez; exact ⟨rfl, rfl⟩
    have l0 := hcc 0 _ rfl
    have l1 := hcc 1 _ rfl
    have hg : ([(a, b), (a, d), (x, y)] : List Bd).getD K (0, 0) = (zr, za) := by rw [List.getD_eq_getElem?_getD, hzz]; rfl
    simp only [Nat.zero_add, Nat.add_zero] at l0 l1
    generalize (P2.W.alloc (.cells #[.int .i64 a, .int .u32 b, .int .i64 a, .int .u32 d, .int .i64 x, .int .u32 y] 25)) = w3 at *
    have hB3 := below_next P2.b hab
    have HB3 := Lib.hid (below_next HB0.out hB3)
    have q0 : ∀ p : Snc w3, p.W.cell? ⟨w.heap.size, 0, none⟩ = some (.int .i64 a) := fun p => e0 ⟨p.W, below_next hB3 p.b⟩
    have q1 : ∀ p : Snc w3, p.W.cell? ⟨w.heap.size, 1, none⟩ = some (.int .u32 b) := fun p => e1 ⟨p.W, below_next hB3 p.b⟩
    have q2 : ∀ p : Snc w3, p.W.cell? ⟨w.heap.size + 1, 0, none⟩ = some (.int .i64 a) := fun p => e2 ⟨p.W, below_next hB3 p.b⟩
    have q3 : ∀ p : Snc w3, p.W.cell? ⟨w.heap.size + 1, 1, none⟩ = some (.int .u32 d) := fun p => e3 ⟨p.W, below_next hB3 p.b⟩
    have q4 : ∀ p : Snc w3, p.W.cell? ⟨w.heap.size + 1 + 1, 0, none⟩ = some (.int .i64 x) := fun p => e4 ⟨p.W, below_next hB3 p.b⟩
    have q5 : ∀ p : Snc w3, p.W.cell? ⟨w.heap.size + 1 + 1, 1, none⟩ = some (.int .u32 y) := fun p => e5 ⟨p.W, below_next hB3 p.b⟩
    replace l0 := Snc.all fun W (hW : Below w3.heap.size w3 W) => (hW.cell (p := ⟨P2.W.heap.size, K * 2, none⟩) hl).trans l0
    replace l1 := Snc.all fun W (hW : Below w3.heap.size w3 W) => (hW.cell (p := ⟨P2.W.heap.size, K * 2 + 1, none⟩) hl).trans l1
    have R0 := bt_v (w0 := w3) (a := a) (b := b) (c := zr) (d := za) (V := false) (by have := HM.out 0 (by decide); rw [hg] at this; exact this)
    have R1 := bt_v (w0 := w3) (a := a) (b := d) (c := zr) (d := za) (V := false) (by have := HM.out 1 (by decide); rw [hg] at this; exact this)
    have R2 := bt_v (w0 := w3) (a := x) (b := y) (c := zr) (d := za) (V := false) (by have := HM.out 2 (by decide); rw [hg] at this; exact this)
    have R3 : ∀ p : Snc w3, Calls Try.prog 8 #[.int .i64 1, .int .i64 2] p.W fun e w' => e = .returned (.int .i64 1) ∧ ∃ Q : Snc w3, w' = Q.W := fun p => Calls.since_same (number_any 1 2 p.W (by decide) (by decide))
    have hk0 : (0 : Int) ≤ (K : Int) := by omega
    have hk3 : (K : Int) < 3 := by have := HK.out; omega
    have hk4 : K < 3 := HK.out
    clear e0 e1 e2 e3 e4 e5 hz hl hab ez hbl hzz hcc hg hB3 HM
    refine wp_region_since (by kernel_rfl) (by kernel_rfl) ?_
    repeat (go_big_quiet_step (first | (go_at_call 6; first | with_reducible exact R0 _ | with_reducible exact R1 _ | with_reducible exact R2 _) | (go_at_call 8; exact R3 _)))
    refine wpQuiet_nil ?_
    rintro w5 ⟨P5, rfl⟩
    have hB5 := below_next HB3.out P5.b
    clear q0 q1 q2 q3 q4 q5 l0 l1 R0 R1 R2 R3
    go_wp2
    go_ret
    exact ⟨rfl, hB5⟩
  · have H1 := Lib.hid (bt_v (w0 := w0) h1)
    have H2 := Lib.hid (bt_v (w0 := w0) h2)
    have H3 := Lib.hid (bt_v (w0 := w0) h3)
    have H4 := Lib.hid (bt_v (w0 := w0) h4)
    clear h1 h2 h3 h4
    go_upto_region 7 with (go_at_call 6; (first | (with_reducible refine (H1.out _).mono ?_) | (with_reducible refine (H2.out _).mono ?_) | (with_reducible refine (H3.out _).mono ?_) | (with_reducible refine (H4.out _).mono ?_)); rintro e w1 ⟨rfl, ⟨Q, rfl⟩⟩)
    go_upto_region 8 with (go_at_call 7; (with_reducible refine (HBE.out _).mono ?_); rintro e w1 ⟨rfl, hb1⟩; obtain ⟨P2, rfl⟩ : ∃ P : Snc w0, w1 = P.W := ⟨⟨_, below_next ((Snc.b _).alloc (Snc.b _).size _) hb1⟩, rfl⟩; clear hb1)
    go_upto_region 10 with fail
    have hz := P2.b.size
    have hl : P2.W.heap.size < (P2.W.alloc (.cells #[.int .i64 a, .int .u32 b, .int .i64 c, .int .u32 d, .int .i64 x, .int .u32 y] 25)).heap.size := by simp
    have hab := (Below.refl P2.W.heap.size P2.W).alloc (Nat.le_refl _) (.cells #[.int .i64 a, .int .u32 b, .int .i64 c, .int .u32 d, .int .i64 x, .int .u32 y] 25)
    obtain ⟨bb, o, ⟨zr, za⟩, ez, hbl, hzz, hcc⟩ := (RI.of_blk (enc := CBd) (k := 2) (xs := [(a, b), (c, d), (x, y)]) (n := 3) (fun _ => rfl) (Blk.new P2.W 25 #[.int .i64 a, .int .u32 b, .int .i64 c, .int .u32 d, .int .i64 x, .int .u32 y]) rfl rfl).at_ HK.out
    obtain ⟨rfl, rfl⟩ : P2.W.heap.size = bb ∧ 0 = o := by cases ez; exact ⟨rfl, rfl⟩
    have l0 := hcc 0 _ rfl
    have l1 := hcc 1 _ rfl
    have hg : ([(a, b), (c, d), (x, y)] : List Bd).getD K (0, 0) = (zr, za) := by rw [List.getD_eq_getElem?_getD, hzz]; rfl
    simp only [Nat.zero_add, Nat.add_zero] at l0 l1
    generalize (P2.W.alloc (.cells #[.int .i64 a, .int .u32 b, .int .i64 c, .int .u32 d, .int .i64 x, .int .u32 y] 25)) = w3 at *
    have hB3 := below_next P2.b hab
    have HB3 := Lib.hid (below_next HB0.out hB3)
    have q0 : ∀ p : Snc w3, p.W.cell? ⟨w.heap.size, 0, none⟩ = some (.int .i64 a) := fun p => e0 ⟨p.W, below_next hB3 p.b⟩
    have q1 : ∀ p : Snc w3, p.W.cell? ⟨w.heap.size, 1, none⟩ = some (.int .u32 b) := fun p => e1 ⟨p.W, below_next hB3 p.b⟩
    have q2 : ∀ p : Snc w3, p.W.cell? ⟨w.heap.size + 1, 0, none⟩ = some (.int .i64 c) := fun p => e2 ⟨p.W, below_next hB3 p.b⟩
    have q3 : ∀ p : Snc w3, p.W.cell? ⟨w.heap.size + 1, 1, none⟩ = some (.int .u32 d) := fun p => e3 ⟨p.W, below_next hB3 p.b⟩
    have q4 : ∀ p : Snc w3, p.W.cell? ⟨w.heap.size + 1 + 1, 0, none⟩ = some (.int .i64 x) := fun p => e4 ⟨p.W, below_next hB3 p.b⟩
    have q5 : ∀ p : Snc w3, p.W.cell? ⟨w.heap.size + 1 + 1, 1, none⟩ = some (.int .u32 y) := fun p => e5 ⟨p.W, below_next hB3 p.b⟩
    replace l0 := Snc.all fun W (hW : Below w3.heap.size w3 W) => (hW.cell (p := ⟨P2.W.heap.size, K * 2, none⟩) hl).trans l0
    replace l1 := Snc.all fun W (hW : Below w3.heap.size w3 W) => (hW.cell (p := ⟨P2.W.heap.size, K * 2 + 1, none⟩) hl).trans l1
    have R0 := bt_v (w0 := w3) (a := a) (b := b) (c := zr) (d := za) (V := false) (by have := HM.out 0 (by decide); rw [hg] at this; exact this)
    have R1 := bt_v (w0 := w3) (a := c) (b := d) (c := zr) (d := za) (V := false) (by have := HM.out 1 (by decide); rw [hg] at this; exact this)
    have R2 := bt_v (w0 := w3) (a := x) (b := y) (c := zr) (d := za) (V := false) (by have := HM.out 2 (by decide); rw [hg] at this; exact this)
    have R3 : ∀ p : Snc w3, Calls Try.prog 8 #[.int .i64 1, .int .i64 2] p.W fun e w' => e = .returned (.int .i64 1) ∧ ∃ Q : Snc w3, w' = Q.W := fun p => Calls.since_same (number_any 1 2 p.W (by decide) (by decide))
    have hk0 : (0 : Int) ≤ (K : Int) := by omega
    have hk3 : (K : Int) < 3 := by have := HK.out; omega
    have hk4 : K < 3 := HK.out
    clear e0 e1 e2 e3 e4 e5 hz hl hab ez hbl hzz hcc hg hB3 HM
    refine wp_region_since (by kernel_rfl) (by kernel_rfl) ?_
    repeat (go_big_quiet_step (first | (go_at_call 6; first | with_reducible exact R0 _ | with_reducible exact R1 _ | with_reducible exact R2 _) | (go_at_call 8; exact R3 _)))
    refine wpQuiet_nil ?_
    rintro w5 ⟨P5, rfl⟩
    have hB5 := below_next HB3.out P5.b
    clear q0 q1 q2 q3 q4 q5 l0 l1 R0 R1 R2 R3
    go_wp2
    go_ret
    exact ⟨rfl, hB5⟩
end Go.Proofs.Ytcbjhaonlfkdkaa

