/- Contracts of package ip, over the seat's program. Condition: four errors of the project lie in their variables. -/
import Derived.Test.YtgjpclmkjoghiaaDoorHd
import Derived.Test.YtgjpclmkjoghiaaDoorRefS
import Derived.Test.YtgjpclmkjoghiaaDoorSee
namespace Go.Proofs.YtgjpclmkjoghiaaDoor
open Go.RowKit Sm
def EnvE (er : Int → Value) (w : World) : Prop :=
  er 0 = .nilIface ∧ (∀ c : Int, c = 101 ∨ c = 102 ∨ c = 105 ∨ c = 103 → ∃ a, er c = ev a) ∧
  w.cell? ⟨1, 0, none⟩ = some (er 101) ∧ w.cell? ⟨2, 0, none⟩ = some (er 102) ∧ w.cell? ⟨0, 0, none⟩ = some (er 103) ∧ w.cell? ⟨3, 0, none⟩ = some (er 105)
theorem EnvE.below {er : Int → Value} {w w' : World} (h : EnvE er w) (hb : Below w.heap.size w w') : EnvE er w' := by
  obtain ⟨h0, h1, a1, a2, a3, a5⟩ := h
  exact ⟨h0, h1, (hb.cell (World.block_lt_of_cell? w _ a1)).trans a1, (hb.cell (World.block_lt_of_cell? w _ a2)).trans a2, (hb.cell (World.block_lt_of_cell? w _ a3)).trans a3, (hb.cell (World.block_lt_of_cell? w _ a5)).trans a5⟩
theorem within_any (n a b : Int) (w : World) :
    Calls Tryd.prog 33 #[.int .i64 n, .int .i64 a, .int .i64 b] w fun e w' => e = .returned (.bool (decide (a ≤ n ∧ n ≤ b))) ∧ w = w' := by
  by_cases h : a ≤ n
  · go_enter Tryd.func33, Tryd.ntmps33
    go_wp2
    go_ret
    exact ⟨ret_bool (by simp [h]), rfl⟩
  · have hd : decide (a ≤ n) = false := by simpa using h
    go_enter Tryd.func33, Tryd.ntmps33
    go_wp2
    go_ret
    exact ⟨ret_bool (by simp), rfl⟩
set_option maxHeartbeats 1000000 in
theorem fits_any (l i t p f o : Int) (w : World) :
    Calls Tryd.prog 21 #[hv l i t p f o] w fun e w' => e = .returned (.bool (hfit l i t p)) ∧ Below w.heap.size w w' := by
  have HH : hfit l i t p = (decide (20 ≤ l ∧ l ≤ 65535) && (decide (0 ≤ i ∧ i ≤ 65535) && (decide (0 ≤ t ∧ t ≤ 255) && decide (0 ≤ p ∧ p ≤ 255)))) := by
    unfold hfit; rw [Bool.eq_iff_iff]; simp; omega
  rw [HH]
  clear HH
  obtain ⟨b1, e1⟩ : ∃ b, decide (20 ≤ l ∧ l ≤ 65535) = b := ⟨_, rfl⟩
  obtain ⟨b2, e2⟩ : ∃ b, decide (0 ≤ i ∧ i ≤ 65535) = b := ⟨_, rfl⟩
  obtain ⟨b3, e3⟩ : ∃ b, decide (0 ≤ t ∧ t ≤ 255) = b := ⟨_, rfl⟩
  obtain ⟨b4, e4⟩ : ∃ b, decide (0 ≤ p ∧ p ≤ 255) = b := ⟨_, rfl⟩
  rw [e1, e2, e3, e4]
  have E1 := Lib.hid e1
  have E2 := Lib.hid e2
  have E3 := Lib.hid e3
  have E4 := Lib.hid e4
  clear e1 e2 e3 e4
  unfold hv
  cases b1 <;> cases b2 <;> cases b3
  all_goals
    go_enter Tryd.func21, Tryd.ntmps21
    go_wp2_with (go_at_call 33; refine (within_any _ _ _ _).mono ?_; rintro e w1 ⟨rfl, rfl⟩; first | rw [E1.out] | rw [E2.out] | rw [E3.out] | rw [E4.out])
    go_ret
    exact ⟨ret_bool (by simp), (Below.refl _ _).alloc (Nat.le_refl _) _⟩
theorem abytes_any (a : Int) (w : World) (_h : isA a) :
    Calls Tryd.prog 34 #[.int .u32 a] w fun e w' => e = .returned (.agg #[.int .u8 (a / 16777216), .int .u8 (a / 65536 % 256), .int .u8 (a / 256 % 256), .int .u8 (a % 256)]) ∧ Below w.heap.size w w' := by
  obtain ⟨_h0, _h1⟩ := _h
  go_enter Tryd.func34, Tryd.ntmps34
  go_wp2
  exact bodyPost_ret (v := .agg #[.int .u8 (a / 16777216), .int .u8 (a / 65536 % 256), .int .u8 (a / 256 % 256), .int .u8 (a % 256)]) (by simp [results, Tryd.results34, go_sem]) rfl ⟨rfl, (Below.refl _ _).alloc (Nat.le_refl _) _⟩
def pa (xs : List Int) (k : Nat) (a : Int) : Nat → List Int
  | 0 => xs
  | 1 => xs.set k (a / 16777216)
  | 2 => (xs.set k (a / 16777216)).set (k + 1) (a / 65536 % 256)
  | 3 => ((xs.set k (a / 16777216)).set (k + 1) (a / 65536 % 256)).set (k + 2) (a / 256 % 256)
  | _ => (((xs.set k (a / 16777216)).set (k + 1) (a / 65536 % 256)).set (k + 2) (a / 256 % 256)).set (k + 3) (a % 256)
theorem pa_len (xs : List Int) (k : Nat) (a : Int) (j : Nat) : (pa xs k a j).length = xs.length := by
  unfold pa; split <;> simp
theorem idx0 (x0 x1 x2 x3 : Value) : ∀ w, (Instr.index 65 (.agg #[x0, x1, x2, x3]) (.int .i64 0)).run Tryd.prog w = .ok x0 w := fun _ => by kernel_rfl
theorem idx1 (x0 x1 x2 x3 : Value) : ∀ w, (Instr.index 65 (.agg #[x0, x1, x2, x3]) (.int .i64 1)).run Tryd.prog w = .ok x1 w := fun _ => by kernel_rfl
theorem idx2 (x0 x1 x2 x3 : Value) : ∀ w, (Instr.index 65 (.agg #[x0, x1, x2, x3]) (.int .i64 2)).run Tryd.prog w = .ok x2 w := fun _ => by kernel_rfl
theorem idx3 (x0 x1 x2 x3 : Value) : ∀ w, (Instr.index 65 (.agg #[x0, x1, x2, x3]) (.int .i64 3)).run Tryd.prog w = .ok x3 w := fun _ => by kernel_rfl
def Far (g : Nat) (w w' : World) : Prop := ∀ b, b ≠ g → b < w.heap.size → w'.heap[b]? = w.heap[b]?
theorem Far.store {g : Nat} {w w' : World} (h : Far g w w') (i : Nat) (u : Value) : Far g w (w'.setCell ⟨g, i, none⟩ u) := fun b hb hl => (Below.heap_setCell w' ⟨g, i, none⟩ u b hb).trans (h b hb hl)
theorem Blk.off {g N : Nat} {w w' : World} {t : TypeId} {cs : Array Value} (h : Blk w N t cs) (hf : Far g w w') (hn : N ≠ g) : Blk w' N t cs := (hf N hn h.lt).trans h
set_option maxHeartbeats 1000000 in
theorem putAddr_any (g k n c : Nat) (xs : List Int) (a : Int) (base : Nat) (w : World) (hown : w.ownsRow base 5 1 (.slice (some ⟨g, 0, none⟩) n c) n (B8 xs)) (hk : k + 4 ≤ n) (hx : xs.length = n) (ha : isA a) (hb : base ≤ g) :
    Calls Tryd.prog 22 #[.slice (some ⟨g, k, none⟩) (n - k) (c - k), .int .u32 a] w fun e w' => e = .returned (.tuple #[]) ∧ w'.ownsRow base 5 1 (.slice (some ⟨g, 0, none⟩) n c) n (B8 (pa xs k a 4)) ∧ Below base w w' ∧ Far g w w' := by
  have HA := Lib.hid ha
  obtain ⟨ha0, ha1⟩ := ha
  go_enter Tryd.func22, Tryd.ntmps22
  go_wp2_with (go_at_call 34; refine (abytes_any a _ HA.out).mono ?_; rintro e w1 ⟨rfl, hb1⟩)
  have hlt : g < w.heap.size := (hown.lt g rfl).2
  have hown1 := own_next hown hb1
  have hB1 : Below base w w1 := hb1.mono (by omega)
  have HO := Lib.hid hown1
  have HB := Lib.hid hB1
  have HF := Lib.hid (show Far g w w1 from fun b _ hl => hb1.block b hl)
  clear hown hown1 hB1 hb1
  go_loopw [8] (fun i wr => ∃ j : Nat, j ≤ 4 ∧ i = .int .i64 j ∧ wr.ownsRow base 5 1 (.slice (some ⟨g, 0, none⟩) n c) n (B8 (pa xs k a j)) ∧ Below base w wr ∧ Far g w wr) (fun i _ => 4 - (intOf i).toNat)
  case atStart => exact ⟨0, by omega, rfl, HO.out, HB.out, HF.out⟩
  case round =>
    obtain ⟨j, hj, hi, hO, hW, hF⟩ := hrel
    clear HO HB HF
    by_cases h4 : j < 4
    · have hj' : j = 0 ∨ j = 1 ∨ j = 2 ∨ j = 3 := by omega
      rcases hj' with rfl | rfl | rfl | rfl
      · have hi' : u8 = .int .i64 0 := hi
        clear hi; subst hi'
        have hix := idx0 (.int .u8 (a / 16777216)) (.int .u8 (a / 65536 % 256)) (.int .u8 (a / 256 % 256)) (.int .u8 (a % 256))
        have f0 : wr.frozen? ⟨g, k, none⟩ = false := hO.frozenAt (k)
        have c0 : wr.cell? ⟨g, k, none⟩ = _ := (hO.cellAt (k) (by omega)).trans (B8_at (by rw [pa_len]; omega))
        have hi0 : (0 : Int) < ((n - k : Nat) : Int) := by omega
        have HO := Lib.hid (own_set hO (k) (a / 16777216))
        have HB := Lib.hid (below_store (i := k) hW hb (.int .u8 (a / 16777216)))
        have HF := Lib.hid (hF.store (k) (.int .u8 (a / 16777216)))
        clear hO hW hF
        go_wp2
        go_roundw
        case rel => exact ⟨1, by omega, by go_num, HO.out, HB.out, HF.out⟩
        case measure => simp [intOf]
      · have hi' : u8 = .int .i64 1 := hi
        clear hi; subst hi'
        have hix := idx1 (.int .u8 (a / 16777216)) (.int .u8 (a / 65536 % 256)) (.int .u8 (a / 256 % 256)) (.int .u8 (a % 256))
        have f0 : wr.frozen? ⟨g, k + 1, none⟩ = false := hO.frozenAt (k + 1)
        have c0 : wr.cell? ⟨g, k + 1, none⟩ = _ := (hO.cellAt (k + 1) (by omega)).trans (B8_at (by rw [pa_len]; omega))
        have hi0 : (1 : Int) < ((n - k : Nat) : Int) := by omega
        have HO := Lib.hid (own_set hO (k + 1) (a / 65536 % 256))
        have HB := Lib.hid (below_store (i := k + 1) hW hb (.int .u8 (a / 65536 % 256)))
        have HF := Lib.hid (hF.store (k + 1) (.int .u8 (a / 65536 % 256)))
        clear hO hW hF
        go_wp2
        go_roundw
        case rel => exact ⟨2, by omega, by go_num, HO.out, HB.out, HF.out⟩
        case measure => simp [intOf]
      · have hi' : u8 = .int .i64 2 := hi
        clear hi; subst hi'
        have hix := idx2 (.int .u8 (a / 16777216)) (.int .u8 (a / 65536 % 256)) (.int .u8 (a / 256 % 256)) (.int .u8 (a % 256))
        have f0 : wr.frozen? ⟨g, k + 2, none⟩ = false := hO.frozenAt (k + 2)
        have c0 : wr.cell? ⟨g, k + 2, none⟩ = _ := (hO.cellAt (k + 2) (by omega)).trans (B8_at (by rw [pa_len]; omega))
        have hi0 : (2 : Int) < ((n - k : Nat) : Int) := by omega
        have HO := Lib.hid (own_set hO (k + 2) (a / 256 % 256))
        have HB := Lib.hid (below_store (i := k + 2) hW hb (.int .u8 (a / 256 % 256)))
        have HF := Lib.hid (hF.store (k + 2) (.int .u8 (a / 256 % 256)))
        clear hO hW hF
        go_wp2
        go_roundw
        case rel => exact ⟨3, by omega, by go_num, HO.out, HB.out, HF.out⟩
        case measure => simp [intOf]
      · have hi' : u8 = .int .i64 3 := hi
        clear hi; subst hi'
        have hix := idx3 (.int .u8 (a / 16777216)) (.int .u8 (a / 65536 % 256)) (.int .u8 (a / 256 % 256)) (.int .u8 (a % 256))
        have f0 : wr.frozen? ⟨g, k + 3, none⟩ = false := hO.frozenAt (k + 3)
        have c0 : wr.cell? ⟨g, k + 3, none⟩ = _ := (hO.cellAt (k + 3) (by omega)).trans (B8_at (by rw [pa_len]; omega))
        have hi0 : (3 : Int) < ((n - k : Nat) : Int) := by omega
        have HO := Lib.hid (own_set hO (k + 3) (a % 256))
        have HB := Lib.hid (below_store (i := k + 3) hW hb (.int .u8 (a % 256)))
        have HF := Lib.hid (hF.store (k + 3) (.int .u8 (a % 256)))
        clear hO hW hF
        go_wp2
        go_roundw
        case rel => exact ⟨4, by omega, by go_num, HO.out, HB.out, HF.out⟩
        case measure => simp [intOf]
    · obtain rfl : j = 4 := by omega
      have hi' : u8 = .int .i64 4 := hi
      clear hi; subst hi'
      have HO := Lib.hid hO
      have HB := Lib.hid hW
      have HF := Lib.hid hF
      clear hO hW hF
      go_wp2
      exact bodyPost_end (v := .tuple #[]) (by simp [results, Tryd.results22, go_sem]) rfl ⟨rfl, HO.out, HB.out, HF.out⟩
set_option maxHeartbeats 1000000 in
theorem ibytes_no (er : Int → Value) (l i t p f o : Int) (w : World) (hE : EnvE er w) (h : hfit l i t p = false) :
    Calls Tryd.prog 8 #[hv l i t p f o] w fun e w' => e = .returned (.tuple #[.slice none 0 0, er 103]) ∧ Below w.heap.size w w' := by
  have HF := Lib.hid (fun W => fits_any l i t p f o W)
  rw [h] at HF
  have HE := Lib.hid hE
  clear hE h
  obtain ⟨H, hH⟩ : ∃ H, H = er := ⟨_, rfl⟩
  unfold hv at *
  go_enter Tryd.func8, Tryd.ntmps8
  go_wp2_with (go_at_call 21; refine (HF.out _).mono ?_; rintro e w1 ⟨rfl, hb1⟩)
  have hB := below_next ((Below.refl _ _).alloc (Nat.le_refl _) _) hb1
  have hc := (HE.out.below hB).2.2.2.2.1
  go_quiet (fail)
  go_wp2
  go_ret2
  exact ⟨rfl, below_drewN hB _⟩
theorem own_drew {w : World} {base : Nat} {e : TypeId} {v : Value} {n : Nat} {ys : List Value} (h : w.ownsRow base e 1 v n ys) : w.drew.ownsRow base e 1 v n ys := h
theorem made20 {w : World} {base : Nat} {v : Value} (h : w.ownsRow base 5 1 v 20 (madeCells (Value.int .u8 0).cells (20 * 1)).toList) : w.ownsRow base 5 1 v 20 (B8 [0, 0, 0, 0, 0, 0, 0, 0, 0, 0, 0, 0, 0, 0, 0, 0, 0, 0, 0, 0]) := by
  have e : (madeCells (Value.int .u8 0).cells (20 * 1)).toList = List.replicate 20 (.int .u8 0) := toList_madeCells_one _ _
  rw [e] at h
  exact h
set_option maxHeartbeats 1000000 in
theorem ibytes_yes (l i t p f o : Int) (w : World) (h : hfit l i t p = true) (hf : isA f) (ho : isA o) :
    Calls Tryd.prog 8 #[hv l i t p f o] w fun e w' => ∃ A c, e = .returned (.tuple #[.slice A 20 c, .nilIface]) ∧ w'.ownsRow w.heap.size 5 1 (.slice A 20 c) 20 (B8 (hbs l i t p f o)) ∧ Below w.heap.size w w' := by
  have HF := Lib.hid (fun W => fits_any l i t p f o W)
  rw [h] at HF
  have HH := Lib.hid h
  simp only [hfit, decide_eq_true_eq] at h
  obtain ⟨h0, h1, h2, h3, h4, h5, h6, h7⟩ := h
  have Hf := Lib.hid hf
  have Ho := Lib.hid ho
  clear hf ho
  obtain ⟨i0, hi, hz0, hz1, hz2⟩ := info_parts info_u8
  unfold hv at *
  go_enter Tryd.func8, Tryd.ntmps8
  go_wp2_with (first
    | (go_at_call 21; refine (HF.out _).mono ?_; rintro e w1 ⟨rfl, hb1⟩
       have hK1 : Blk w1 w.heap.size 25 #[.int .i64 l, .int .i64 i, .int .i64 t, .int .i64 p, .int .u32 f, .int .u32 o] := (Blk.new w _ _).next hb1
       have hB1 := below_next ((Below.refl _ w).alloc (Nat.le_refl _) _) hb1
       clear hb1)
    | (at_make; refine wpList_make_full _ rfl _ _ 26 rfl w.heap.size 5 i0 (.int .u8 0) 1 Tryd.underlying26 hi hz0 hz1 .i64 .i64 20 20 20 rfl rfl rfl rfl (by rw [hz2]; omega) (by unfold maxLen; omega) hB1.size ?_; intro w2 hown hgrow
       have hb2 : Below w1.heap.size w1 w2 := (Below.refl _ _).grown hgrow (Nat.le_refl _) (by intro k hk; cases hk)
       have hK2 := hK1.next hb2
       have hown := made20 hown
       have hB2 := below_next hB1 hb2
       have hNG := hK1.lt
       have c0 : w2.cell? ⟨w.heap.size, 0, none⟩ = some (.int .i64 l) := hK2.cell 0
       have c1 : w2.cell? ⟨w.heap.size, 1, none⟩ = some (.int .i64 i) := hK2.cell 1
       have c2 : w2.cell? ⟨w.heap.size, 2, none⟩ = some (.int .i64 t) := hK2.cell 2
       have c3 : w2.cell? ⟨w.heap.size, 3, none⟩ = some (.int .i64 p) := hK2.cell 3
       have c4 : w2.cell? ⟨w.heap.size, 4, none⟩ = some (.int .u32 f) := hK2.cell 4
       have c5 : w2.cell? ⟨w.heap.size, 5, none⟩ = some (.int .u32 o) := hK2.cell 5
       have f0 : w2.frozen? ⟨w1.heap.size, 0, none⟩ = false := hown.frozenAt 0
       have g0 : w2.cell? ⟨w1.heap.size, 0, none⟩ = some (.int .u8 0) := hown.cellAt 0 (by omega)
       have f2 : w2.frozen? ⟨w1.heap.size, 2, none⟩ = false := hown.frozenAt 2
       have g2 : w2.cell? ⟨w1.heap.size, 2, none⟩ = some (.int .u8 0) := hown.cellAt 2 (by omega)
       have f3 : w2.frozen? ⟨w1.heap.size, 3, none⟩ = false := hown.frozenAt 3
       have g3 : w2.cell? ⟨w1.heap.size, 3, none⟩ = some (.int .u8 0) := hown.cellAt 3 (by omega)
       have f4 : w2.frozen? ⟨w1.heap.size, 4, none⟩ = false := hown.frozenAt 4
       have g4 : w2.cell? ⟨w1.heap.size, 4, none⟩ = some (.int .u8 0) := hown.cellAt 4 (by omega)
       have f5 : w2.frozen? ⟨w1.heap.size, 5, none⟩ = false := hown.frozenAt 5
       have g5 : w2.cell? ⟨w1.heap.size, 5, none⟩ = some (.int .u8 0) := hown.cellAt 5 (by omega)
       have f8 : w2.frozen? ⟨w1.heap.size, 8, none⟩ = false := hown.frozenAt 8
       have g8 : w2.cell? ⟨w1.heap.size, 8, none⟩ = some (.int .u8 0) := hown.cellAt 8 (by omega)
       have f9 : w2.frozen? ⟨w1.heap.size, 9, none⟩ = false := hown.frozenAt 9
       have g9 : w2.cell? ⟨w1.heap.size, 9, none⟩ = some (.int .u8 0) := hown.cellAt 9 (by omega)
       have hne : w.heap.size ≠ w1.heap.size := by omega
       have hne' : w1.heap.size ≠ w.heap.size := by omega
       have HO := Lib.hid hown
       have HB := Lib.hid hB2
       have HG := Lib.hid hNG
       have HK := Lib.hid hK2
       clear hown hB2 hNG hK2 hK1 hB1 hgrow hb2))
  go_region
  go_wp2_with fail
  go_region
  go_wp2_with fail
  go_region
  have HX := own_set (own_set (own_set (own_set (own_set (own_set (own_set HO.out 0 69) 2 (l / 256)) 3 (l % 256)) 4 (i / 256)) 5 (i % 256)) 8 t) 9 p
  have hW := below_store (i := 9) (below_store (i := 8) (below_store (i := 5) (below_store (i := 4) (below_store (i := 3) (below_store (i := 2) (below_store (i := 0) HB.out (Nat.le_of_lt HG.out) (.int .u8 69)) (Nat.le_of_lt HG.out) (.int .u8 (l / 256))) (Nat.le_of_lt HG.out) (.int .u8 (l % 256))) (Nat.le_of_lt HG.out) (.int .u8 (i / 256))) (Nat.le_of_lt HG.out) (.int .u8 (i % 256))) (Nat.le_of_lt HG.out) (.int .u8 t)) (Nat.le_of_lt HG.out) (.int .u8 p)
  have hK := ((((((HK.out.far (p := ⟨w1.heap.size, 0, none⟩) hne (.int .u8 69)).far (p := ⟨w1.heap.size, 2, none⟩) hne (.int .u8 (l / 256))).far (p := ⟨w1.heap.size, 3, none⟩) hne (.int .u8 (l % 256))).far (p := ⟨w1.heap.size, 4, none⟩) hne (.int .u8 (i / 256))).far (p := ⟨w1.heap.size, 5, none⟩) hne (.int .u8 (i % 256))).far (p := ⟨w1.heap.size, 8, none⟩) hne (.int .u8 t)).far (p := ⟨w1.heap.size, 9, none⟩) hne (.int .u8 p)
  have HX := own_drew (own_drew (own_drew HX))
  have hK := hK.drew.drew.drew
  have hW := hW.drew.drew.drew
  go_wp2_with fail
  generalize hX : ((((((([0, 0, 0, 0, 0, 0, 0, 0, 0, 0, 0, 0, 0, 0, 0, 0, 0, 0, 0, 0] : List Int).set 0 69).set 2 (l / 256)).set 3 (l % 256)).set 4 (i / 256)).set 5 (i % 256)).set 8 t).set 9 p = X at HX
  have hXl : X.length = 20 := by rw [← hX]; rfl
  have e0 : pa (pa X 12 f 4) 16 o 4 = hdr l i t p f o := by rw [← hX]; rfl
  clear hX
  generalize World.drew _ = W3 at *
  have HX := Lib.hid HX
  have hNl := hK.lt
  have HG1 := Lib.hid (Nat.le_of_lt HG.out)
  have k4 : W3.cell? ⟨w.heap.size, 4, none⟩ = some (.int .u32 f) := hK.cell 4
  have HKK := Lib.hid hK
  have HWW := Lib.hid hW
  clear hK hW f0 f2 f3 f4 f5 f8 f9 g0 g2 g3 g4 g5 g8 g9 c0 c1 c2 c3 c4 c5
  go_region_with (go_at_call 22; refine (putAddr_any w1.heap.size 12 20 20 X f w.heap.size _ (own_drew HX.out) (by omega) hXl Hf.out HG1.out).mono ?_; rintro e w4 ⟨rfl, hO4, hW4, hF4⟩)
  have hK4 := HKK.out.drew.off hF4 hne
  have hW4 := HWW.out.drew.trans hW4
  have k5 : w4.cell? ⟨w.heap.size, 5, none⟩ = some (.int .u32 o) := hK4.cell 5
  have HO4 := Lib.hid hO4
  have HW4 := Lib.hid hW4
  have hN4 := hK4.lt
  clear hK4 hW4 hF4 hO4 k4 HX HKK HWW
  go_wp2_with fail
  go_region_with (go_at_call 22; refine (putAddr_any w1.heap.size 16 20 20 _ o w.heap.size _ (own_drew HO4.out) (by omega) (by rw [pa_len]; exact hXl) Ho.out HG1.out).mono ?_; rintro e w5 ⟨rfl, hO5, hW5, hF5⟩)
  rw [e0] at hO5
  have hW5 := HW4.out.drew.trans hW5
  obtain ⟨_, _, he, hnc, hr, _⟩ := own_form hO5 (hdr_b HH.out Hf.out Ho.out)
  simp only [Value.slice.injEq, true_and] at he
  obtain ⟨rfl, rfl⟩ := he
  have HW5 := Lib.hid hW5
  clear hW5 hO5 hF5
  go_wp2_with (go_at_call 23; refine (put_any _ 20 20 _ 10 _ hr (by omega)).mono ?_; rintro e w6 ⟨A6, c6, rfl, hO6, hW6⟩)
  go_ret2
  exact ⟨A6, c6, rfl, own_up hO6 HW5.out.size, HW5.out.trans (hW6.mono HW5.out.size)⟩
end Go.Proofs.YtgjpclmkjoghiaaDoor
