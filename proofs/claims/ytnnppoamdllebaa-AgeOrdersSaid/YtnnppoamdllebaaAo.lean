/- The order of things, over the seat's program: order, Less, the closure of All. -/
import Derived.Test.YtnnppoamdllebaaAg
import Derived.Test.YtnnppoamdllebaaEa
import Derived.Test.YtnnppoamdllebaaCo
import Derived.Deep.Cut
namespace Go.Proofs.Ytnnppoamdllebaa
open Go.RowKit Sm
/-- the first that is not 0 -/
def orL : List Int → Int
  | [] => 0
  | x :: r => if x = 0 then orL r else x
theorem orL_at {xs : List Int} {k : Nat} {x : Int} (h : ∀ j y, j < k → xs[j]? = some y → y = 0) (hk : xs[k]? = some x) (hx : x ≠ 0) : orL xs = x := by
  induction xs generalizing k with
  | nil => simp at hk
  | cons a r ih =>
    unfold orL
    cases k with
    | zero =>
      simp only [List.getElem?_cons_zero, Option.some.injEq] at hk
      subst hk
      rw [if_neg hx]
    | succ k =>
      rw [if_pos (h 0 a (by omega) rfl)]
      exact ih (k := k) (fun j y hj hy => h (j + 1) y (by omega) (by simpa using hy)) (by simpa using hk)
theorem orL_none {xs : List Int} (h : ∀ (j : Nat) y, xs[j]? = some y → y = 0) : orL xs = 0 := by
  induction xs with
  | nil => rfl
  | cons a r ih =>
    unfold orL
    rw [if_pos (h 0 a rfl)]
    exact ih fun j y hy => h (j + 1) y (by simpa using hy)
theorem or_any (g n c : Nat) (xs : List Int) (w : World) (hl : xs.length = n) (hn : n ≤ 1000) (hc : ∀ (i : Nat) x, xs[i]? = some x → w.cell? ⟨g, i, none⟩ = some (.int .i64 x)) :
    Calls Try.prog 31 #[.slice (some ⟨g, 0, none⟩) n c] w fun e w' => e = .returned (.int .i64 (orL xs)) ∧ w = w' := by
  have HC := Lib.hid hc
  have HL := Lib.hid hl
  clear hc hl
  go_enter Try.func31, Try.ntmps31
  go_wp2_with fail
  go_loop [8] (fun i => ∃ k : Nat, k ≤ n ∧ i = .int .i64 k ∧ Hid (∀ j y, j < k → xs[j]? = some y → y = 0)) (fun i => n - (intOf i).toNat)
  case atStart => exact ⟨0, by omega, rfl, Lib.hid (fun j y hj => by omega)⟩
  case round =>
    obtain ⟨k, hk, rfl, hz⟩ := hrel
    rcases Nat.lt_or_ge k n with hlt | hge
    · have hx : xs[k]? = some (xs[k]'(by rw [HL.out]; exact hlt)) := List.getElem?_eq_getElem _
      generalize xs[k]'(by rw [HL.out]; exact hlt) = x at hx
      have HX := Lib.hid hx
      have hcell : w.cell? ⟨g, k, none⟩ = some (.int .i64 x) := HC.out k x hx
      have hi : (k : Int) < (n : Int) := by omega
      clear hx
      by_cases h : x = 0
      · have HZ : Hid (∀ j y, j < k + 1 → xs[j]? = some y → y = 0) := Lib.hid (fun j y hj hy => by
          rcases Nat.lt_or_ge j k with h1 | h1
          · exact hz.out j y h1 hy
          · obtain rfl : j = k := by omega
            have := HX.out
            rw [hy] at this
            cases this
            exact h)
        subst h
        go_wp2
        go_round
        case rel => exact ⟨k + 1, hlt, by go_num, HZ⟩
        case measure => simp [intOf]; omega
      · have hn' : (x != 0) = true := by simpa using h
        have HE : Hid (orL xs = x) := Lib.hid (orL_at hz.out HX.out h)
        clear h
        go_wp2
        go_ret
        exact ⟨ret_int HE.out.symm, rfl⟩
    · obtain rfl : k = n := by omega
      have hd : decide ((k : Int) < (k : Int)) = false := by simp
      have HE : Hid (orL xs = 0) := Lib.hid (orL_none fun j y hy => hz.out j y (by have := (List.getElem?_eq_some_iff.1 hy).1; rw [HL.out] at this; exact this) hy)
      go_wp2
      go_ret
      exact ⟨ret_int HE.out.symm, rfl⟩
def ordT (x y : Th) : Int := orL [cmpI x.1 y.1, cmpI x.2.1 y.2.1, cmpI x.2.2.2.2 y.2.2.2.2, cmpI x.2.2.2.1 y.2.2.2.1, cmpI x.2.2.1 y.2.2.1]
set_option maxRecDepth 100000 in
set_option maxHeartbeats 4000000 in
theorem torder_raw (a0 a1 a2 a3 a4 b0 b1 b2 b3 b4 : Int) (w : World) : Calls Try.prog 26 #[.agg #[.int .i64 a0, .int .i64 a1, .int .u32 a2, .int .u32 a3, .int .u32 a4], .agg #[.int .i64 b0, .int .i64 b1, .int .u32 b2, .int .u32 b3, .int .u32 b4]] w fun e w' => e = .returned (.int .i64 (ordT (a0, a1, a2, a3, a4) (b0, b1, b2, b3, b4))) ∧ Gr w w' := by
  have hk0 := (Blk.new w 28 #[.int .i64 a0, .int .i64 a1, .int .u32 a2, .int .u32 a3, .int .u32 a4]).alloc (.cells #[.int .i64 b0, .int .i64 b1, .int .u32 b2, .int .u32 b3, .int .u32 b4] 28)
  have hk1 := Blk.new (w.alloc (.cells #[.int .i64 a0, .int .i64 a1, .int .u32 a2, .int .u32 a3, .int .u32 a4] 28)) 28 #[.int .i64 b0, .int .i64 b1, .int .u32 b2, .int .u32 b3, .int .u32 b4]
  rw [show (w.alloc (.cells #[.int .i64 a0, .int .i64 a1, .int .u32 a2, .int .u32 a3, .int .u32 a4] 28)).heap.size = w.heap.size + 1 by simp] at hk1
  have hG := Lib.hid (((Gr.refl w).alloc (.cells #[.int .i64 a0, .int .i64 a1, .int .u32 a2, .int .u32 a3, .int .u32 a4] 28)).alloc (.cells #[.int .i64 b0, .int .i64 b1, .int .u32 b2, .int .u32 b3, .int .u32 b4] 28))
  go_enter Try.func26, Try.ntmps26
  go_upto_region 1 with fail
  generalize (w.alloc (.cells #[.int .i64 a0, .int .i64 a1, .int .u32 a2, .int .u32 a3, .int .u32 a4] 28)).alloc (.cells #[.int .i64 b0, .int .i64 b1, .int .u32 b2, .int .u32 b3, .int .u32 b4] 28) = W1 at *
  have fa0 : ∀ W, Gr W1 W → W.cell? ⟨w.heap.size, 0, none⟩ = some (.int .i64 a0) := fun W hW => (hk0.next hW.below).cell 0
  have fb0 : ∀ W, Gr W1 W → W.cell? ⟨w.heap.size + 1, 0, none⟩ = some (.int .i64 b0) := fun W hW => (hk1.next hW.below).cell 0
  have fa1 : ∀ W, Gr W1 W → W.cell? ⟨w.heap.size, 1, none⟩ = some (.int .i64 a1) := fun W hW => (hk0.next hW.below).cell 1
  have fb1 : ∀ W, Gr W1 W → W.cell? ⟨w.heap.size + 1, 1, none⟩ = some (.int .i64 b1) := fun W hW => (hk1.next hW.below).cell 1
  have fa2 : ∀ W, Gr W1 W → W.cell? ⟨w.heap.size, 2, none⟩ = some (.int .u32 a2) := fun W hW => (hk0.next hW.below).cell 2
  have fb2 : ∀ W, Gr W1 W → W.cell? ⟨w.heap.size + 1, 2, none⟩ = some (.int .u32 b2) := fun W hW => (hk1.next hW.below).cell 2
  have fa3 : ∀ W, Gr W1 W → W.cell? ⟨w.heap.size, 3, none⟩ = some (.int .u32 a3) := fun W hW => (hk0.next hW.below).cell 3
  have fb3 : ∀ W, Gr W1 W → W.cell? ⟨w.heap.size + 1, 3, none⟩ = some (.int .u32 b3) := fun W hW => (hk1.next hW.below).cell 3
  have fa4 : ∀ W, Gr W1 W → W.cell? ⟨w.heap.size, 4, none⟩ = some (.int .u32 a4) := fun W hW => (hk0.next hW.below).cell 4
  have fb4 : ∀ W, Gr W1 W → W.cell? ⟨w.heap.size + 1, 4, none⟩ = some (.int .u32 b4) := fun W hW => (hk1.next hW.below).cell 4
  clear hk0 hk1
  refine wp_region_held_drew (S := fun _ => True) (by kernel_rfl) trivial (fun _ => ?_)
  refine wpAnyH_each (md := .any) (m := 1) (rem := [0, 1, 2, 3, 4, 5, 6, 7, 8, 9, 10, 11, 12, 13, 14, 15, 16, 17, 18, 19, 20, 21, 22, 23, 24, 25, 26, 27, 28, 29, 30]) (tail := [31]) (deps := fun i => match i with | 1 => [0] | 3 => [2] | 4 => [1, 3] | 6 => [5] | 8 => [7] | 9 => [6, 8] | 11 => [10] | 12 => [11] | 14 => [13] | 15 => [14] | 16 => [12, 15] | 18 => [17] | 19 => [18] | 21 => [20] | 22 => [21] | 23 => [19, 22] | 25 => [24] | 27 => [26] | 28 => [25, 27] | 29 => [4, 9, 16, 23, 28] | 30 => [29] | _ => []) (fun _ W => Gr W1 W) (fun _ w _ w' => Gr w w')
    (fun ix ds v W => match ix with | 0 => v = .pointer (some ⟨w.heap.size, 0, none⟩) | 1 => v = .int .i64 a0 | 2 => v = .pointer (some ⟨w.heap.size + 1, 0, none⟩) | 3 => v = .int .i64 b0 | 4 => v = .int .i64 (cmpI a0 b0) | 5 => v = .pointer (some ⟨w.heap.size, 1, none⟩) | 6 => v = .int .i64 a1 | 7 => v = .pointer (some ⟨w.heap.size + 1, 1, none⟩) | 8 => v = .int .i64 b1 | 9 => v = .int .i64 (cmpI a1 b1) | 10 => v = .pointer (some ⟨w.heap.size, 3, none⟩) | 11 => v = .pointer (some ⟨w.heap.size, 4, none⟩) | 12 => v = .int .u32 a4 | 13 => v = .pointer (some ⟨w.heap.size + 1, 3, none⟩) | 14 => v = .pointer (some ⟨w.heap.size + 1, 4, none⟩) | 15 => v = .int .u32 b4 | 16 => v = .int .i64 (cmpI a4 b4) | 17 => v = .pointer (some ⟨w.heap.size, 3, none⟩) | 18 => v = .pointer (some ⟨w.heap.size, 3, none⟩) | 19 => v = .int .u32 a3 | 20 => v = .pointer (some ⟨w.heap.size + 1, 3, none⟩) | 21 => v = .pointer (some ⟨w.heap.size + 1, 3, none⟩) | 22 => v = .int .u32 b3 | 23 => v = .int .i64 (cmpI a3 b3) | 24 => v = .pointer (some ⟨w.heap.size, 2, none⟩) | 25 => v = .int .u32 a2 | 26 => v = .pointer (some ⟨w.heap.size + 1, 2, none⟩) | 27 => v = .int .u32 b2 | 28 => v = .int .i64 (cmpI a2 b2) | 29 => ∃ h, v = .slice (some ⟨h, 0, none⟩) 5 5 ∧ Blk W h 3 #[.int .i64 (cmpI a0 b0), .int .i64 (cmpI a1 b1), .int .i64 (cmpI a4 b4), .int .i64 (cmpI a3 b3), .int .i64 (cmpI a2 b2)] | 30 => v = .int .i64 (ordT (a0, a1, a2, a3, a4) (b0, b1, b2, b3, b4)) | _ => True) (eachB_spec (by kernel_rfl)) (fun _ _ _ _ _ _ _ h k => Gr.trans h k) (fun _ _ _ => trivial) ?_ (fun _ _ _ _ => True) (fun _ _ _ _ _ _ _ _ _ _ _ _ _ _ => ⟨trivial, trivial⟩) ?_ ?_ (Gr.refl _).drew
  · intro i hi j _ hij hjd ds v u l W W' _ _ hk h
    simp only [List.mem_cons, List.not_mem_nil, or_false] at hi
    rcases hi with rfl | rfl | rfl | rfl | rfl | rfl | rfl | rfl | rfl | rfl | rfl | rfl | rfl | rfl | rfl | rfl | rfl | rfl | rfl | rfl | rfl | rfl | rfl | rfl | rfl | rfl | rfl | rfl | rfl | rfl | rfl
    · exact h
    · exact h
    · exact h
    · exact h
    · exact h
    · exact h
    · exact h
    · exact h
    · exact h
    · exact h
    · exact h
    · exact h
    · exact h
    · exact h
    · exact h
    · exact h
    · exact h
    · exact h
    · exact h
    · exact h
    · exact h
    · exact h
    · exact h
    · exact h
    · exact h
    · exact h
    · exact h
    · exact h
    · exact h
    · obtain ⟨h', e, hb⟩ := h; exact ⟨h', e, hb.next hk.below⟩
    · exact h
  · refine AllO.cons [] rfl rfl (fun vs l W hl hT hd => ?_) ?_
    · dsimp only [lay, List.foldl, List.map, dstOf]
      go_wp2
      exact ⟨rfl, _, rfl, Gr.refl _, rfl⟩
    refine AllO.cons [0] rfl rfl (fun vs l W hl hT hd => ?_) ?_
    · have e0 : vs 0 = .pointer (some ⟨w.heap.size, 0, none⟩) := hd 0 (by simp)
      have fx := fa0 W hT
      dsimp only [lay, List.foldl, List.map, dstOf]
      rw [e0]
      go_wp2
      exact ⟨rfl, _, rfl, Gr.refl _, rfl⟩
    refine AllO.cons [] rfl rfl (fun vs l W hl hT hd => ?_) ?_
    · dsimp only [lay, List.foldl, List.map, dstOf]
      go_wp2
      exact ⟨rfl, _, rfl, Gr.refl _, rfl⟩
    refine AllO.cons [2] rfl rfl (fun vs l W hl hT hd => ?_) ?_
    · have e2 : vs 2 = .pointer (some ⟨w.heap.size + 1, 0, none⟩) := hd 2 (by simp)
      have fx := fb0 W hT
      dsimp only [lay, List.foldl, List.map, dstOf]
      rw [e2]
      go_wp2
      exact ⟨rfl, _, rfl, Gr.refl _, rfl⟩
    refine AllO.cons [1, 3] rfl rfl (fun vs l W hl hT hd => ?_) ?_
    · have e1 : vs 1 = .int .i64 a0 := hd 1 (by simp)
      have e3 : vs 3 = .int .i64 b0 := hd 3 (by simp)
      dsimp only [lay, List.foldl, List.map, dstOf]
      rw [e1, e3]
      go_wp2_with (go_at_call 32; refine (cmp_int _ _ _).mono ?_; rintro e w3 ⟨rfl, rfl⟩)
      exact ⟨rfl, _, rfl, Gr.refl _, rfl⟩
    refine AllO.cons [] rfl rfl (fun vs l W hl hT hd => ?_) ?_
    · dsimp only [lay, List.foldl, List.map, dstOf]
      go_wp2
      exact ⟨rfl, _, rfl, Gr.refl _, rfl⟩
    refine AllO.cons [5] rfl rfl (fun vs l W hl hT hd => ?_) ?_
    · have e5 : vs 5 = .pointer (some ⟨w.heap.size, 1, none⟩) := hd 5 (by simp)
      have fx := fa1 W hT
      dsimp only [lay, List.foldl, List.map, dstOf]
      rw [e5]
      go_wp2
      exact ⟨rfl, _, rfl, Gr.refl _, rfl⟩
    refine AllO.cons [] rfl rfl (fun vs l W hl hT hd => ?_) ?_
    · dsimp only [lay, List.foldl, List.map, dstOf]
      go_wp2
      exact ⟨rfl, _, rfl, Gr.refl _, rfl⟩
    refine AllO.cons [7] rfl rfl (fun vs l W hl hT hd => ?_) ?_
    · have e7 : vs 7 = .pointer (some ⟨w.heap.size + 1, 1, none⟩) := hd 7 (by simp)
      have fx := fb1 W hT
      dsimp only [lay, List.foldl, List.map, dstOf]
      rw [e7]
      go_wp2
      exact ⟨rfl, _, rfl, Gr.refl _, rfl⟩
    refine AllO.cons [6, 8] rfl rfl (fun vs l W hl hT hd => ?_) ?_
    · have e6 : vs 6 = .int .i64 a1 := hd 6 (by simp)
      have e8 : vs 8 = .int .i64 b1 := hd 8 (by simp)
      dsimp only [lay, List.foldl, List.map, dstOf]
      rw [e6, e8]
      go_wp2_with (go_at_call 32; refine (cmp_int _ _ _).mono ?_; rintro e w3 ⟨rfl, rfl⟩)
      exact ⟨rfl, _, rfl, Gr.refl _, rfl⟩
    refine AllO.cons [] rfl rfl (fun vs l W hl hT hd => ?_) ?_
    · dsimp only [lay, List.foldl, List.map, dstOf]
      go_wp2
      exact ⟨rfl, _, rfl, Gr.refl _, rfl⟩
    refine AllO.cons [10] rfl rfl (fun vs l W hl hT hd => ?_) ?_
    · have e10 : vs 10 = .pointer (some ⟨w.heap.size, 3, none⟩) := hd 10 (by simp)
      dsimp only [lay, List.foldl, List.map, dstOf]
      rw [e10]
      go_wp2
      exact ⟨rfl, _, rfl, Gr.refl _, rfl⟩
    refine AllO.cons [11] rfl rfl (fun vs l W hl hT hd => ?_) ?_
    · have e11 : vs 11 = .pointer (some ⟨w.heap.size, 4, none⟩) := hd 11 (by simp)
      have fx := fa4 W hT
      dsimp only [lay, List.foldl, List.map, dstOf]
      rw [e11]
      go_wp2
      exact ⟨rfl, _, rfl, Gr.refl _, rfl⟩
    refine AllO.cons [] rfl rfl (fun vs l W hl hT hd => ?_) ?_
    · dsimp only [lay, List.foldl, List.map, dstOf]
      go_wp2
      exact ⟨rfl, _, rfl, Gr.refl _, rfl⟩
    refine AllO.cons [13] rfl rfl (fun vs l W hl hT hd => ?_) ?_
    · have e13 : vs 13 = .pointer (some ⟨w.heap.size + 1, 3, none⟩) := hd 13 (by simp)
      dsimp only [lay, List.foldl, List.map, dstOf]
      rw [e13]
      go_wp2
      exact ⟨rfl, _, rfl, Gr.refl _, rfl⟩
    refine AllO.cons [14] rfl rfl (fun vs l W hl hT hd => ?_) ?_
    · have e14 : vs 14 = .pointer (some ⟨w.heap.size + 1, 4, none⟩) := hd 14 (by simp)
      have fx := fb4 W hT
      dsimp only [lay, List.foldl, List.map, dstOf]
      rw [e14]
      go_wp2
      exact ⟨rfl, _, rfl, Gr.refl _, rfl⟩
    refine AllO.cons [12, 15] rfl rfl (fun vs l W hl hT hd => ?_) ?_
    · have e12 : vs 12 = .int .u32 a4 := hd 12 (by simp)
      have e15 : vs 15 = .int .u32 b4 := hd 15 (by simp)
      dsimp only [lay, List.foldl, List.map, dstOf]
      rw [e12, e15]
      go_wp2_with (go_at_call 33; refine (cmp_addr _ _ _).mono ?_; rintro e w3 ⟨rfl, rfl⟩)
      exact ⟨rfl, _, rfl, Gr.refl _, rfl⟩
    refine AllO.cons [] rfl rfl (fun vs l W hl hT hd => ?_) ?_
    · dsimp only [lay, List.foldl, List.map, dstOf]
      go_wp2
      exact ⟨rfl, _, rfl, Gr.refl _, rfl⟩
    refine AllO.cons [17] rfl rfl (fun vs l W hl hT hd => ?_) ?_
    · have e17 : vs 17 = .pointer (some ⟨w.heap.size, 3, none⟩) := hd 17 (by simp)
      dsimp only [lay, List.foldl, List.map, dstOf]
      rw [e17]
      go_wp2
      exact ⟨rfl, _, rfl, Gr.refl _, rfl⟩
    refine AllO.cons [18] rfl rfl (fun vs l W hl hT hd => ?_) ?_
    · have e18 : vs 18 = .pointer (some ⟨w.heap.size, 3, none⟩) := hd 18 (by simp)
      have fx := fa3 W hT
      dsimp only [lay, List.foldl, List.map, dstOf]
      rw [e18]
      go_wp2
      exact ⟨rfl, _, rfl, Gr.refl _, rfl⟩
    refine AllO.cons [] rfl rfl (fun vs l W hl hT hd => ?_) ?_
    · dsimp only [lay, List.foldl, List.map, dstOf]
      go_wp2
      exact ⟨rfl, _, rfl, Gr.refl _, rfl⟩
    refine AllO.cons [20] rfl rfl (fun vs l W hl hT hd => ?_) ?_
    · have e20 : vs 20 = .pointer (some ⟨w.heap.size + 1, 3, none⟩) := hd 20 (by simp)
      dsimp only [lay, List.foldl, List.map, dstOf]
      rw [e20]
      go_wp2
      exact ⟨rfl, _, rfl, Gr.refl _, rfl⟩
    refine AllO.cons [21] rfl rfl (fun vs l W hl hT hd => ?_) ?_
    · have e21 : vs 21 = .pointer (some ⟨w.heap.size + 1, 3, none⟩) := hd 21 (by simp)
      have fx := fb3 W hT
      dsimp only [lay, List.foldl, List.map, dstOf]
      rw [e21]
      go_wp2
      exact ⟨rfl, _, rfl, Gr.refl _, rfl⟩
    refine AllO.cons [19, 22] rfl rfl (fun vs l W hl hT hd => ?_) ?_
    · have e19 : vs 19 = .int .u32 a3 := hd 19 (by simp)
      have e22 : vs 22 = .int .u32 b3 := hd 22 (by simp)
      dsimp only [lay, List.foldl, List.map, dstOf]
      rw [e19, e22]
      go_wp2_with (go_at_call 33; refine (cmp_addr _ _ _).mono ?_; rintro e w3 ⟨rfl, rfl⟩)
      exact ⟨rfl, _, rfl, Gr.refl _, rfl⟩
    refine AllO.cons [] rfl rfl (fun vs l W hl hT hd => ?_) ?_
    · dsimp only [lay, List.foldl, List.map, dstOf]
      go_wp2
      exact ⟨rfl, _, rfl, Gr.refl _, rfl⟩
    refine AllO.cons [24] rfl rfl (fun vs l W hl hT hd => ?_) ?_
    · have e24 : vs 24 = .pointer (some ⟨w.heap.size, 2, none⟩) := hd 24 (by simp)
      have fx := fa2 W hT
      dsimp only [lay, List.foldl, List.map, dstOf]
      rw [e24]
      go_wp2
      exact ⟨rfl, _, rfl, Gr.refl _, rfl⟩
    refine AllO.cons [] rfl rfl (fun vs l W hl hT hd => ?_) ?_
    · dsimp only [lay, List.foldl, List.map, dstOf]
      go_wp2
      exact ⟨rfl, _, rfl, Gr.refl _, rfl⟩
    refine AllO.cons [26] rfl rfl (fun vs l W hl hT hd => ?_) ?_
    · have e26 : vs 26 = .pointer (some ⟨w.heap.size + 1, 2, none⟩) := hd 26 (by simp)
      have fx := fb2 W hT
      dsimp only [lay, List.foldl, List.map, dstOf]
      rw [e26]
      go_wp2
      exact ⟨rfl, _, rfl, Gr.refl _, rfl⟩
    refine AllO.cons [25, 27] rfl rfl (fun vs l W hl hT hd => ?_) ?_
    · have e25 : vs 25 = .int .u32 a2 := hd 25 (by simp)
      have e27 : vs 27 = .int .u32 b2 := hd 27 (by simp)
      dsimp only [lay, List.foldl, List.map, dstOf]
      rw [e25, e27]
      go_wp2_with (go_at_call 33; refine (cmp_addr _ _ _).mono ?_; rintro e w3 ⟨rfl, rfl⟩)
      exact ⟨rfl, _, rfl, Gr.refl _, rfl⟩
    refine AllO.cons [4, 9, 16, 23, 28] rfl rfl (fun vs l W hl hT hd => ?_) ?_
    · have e4 : vs 4 = .int .i64 (cmpI a0 b0) := hd 4 (by simp)
      have e9 : vs 9 = .int .i64 (cmpI a1 b1) := hd 9 (by simp)
      have e16 : vs 16 = .int .i64 (cmpI a4 b4) := hd 16 (by simp)
      have e23 : vs 23 = .int .i64 (cmpI a3 b3) := hd 23 (by simp)
      have e28 : vs 28 = .int .i64 (cmpI a2 b2) := hd 28 (by simp)
      dsimp only [lay, List.foldl, List.map, dstOf]
      rw [e4, e9, e16, e23, e28]
      go_wp2
      exact ⟨rfl, _, rfl, (Gr.refl _).alloc _, _, rfl, Blk.new _ _ _⟩
    refine AllO.cons [29] rfl rfl (fun vs l W hl hT hd => ?_) AllO.nil
    · obtain ⟨h', e29, hb'⟩ := hd 29 (by simp)
      dsimp only [lay, List.foldl, List.map, dstOf]
      rw [e29]
      go_wp2_with (go_at_call 31; refine (or_any h' 5 5 [cmpI a0 b0, cmpI a1 b1, cmpI a4 b4, cmpI a3 b3, cmpI a2 b2] W rfl (by decide) (fun i x hx => by match i, hx with | 0, hx => cases hx; exact hb'.cell 0 | 1, hx => cases hx; exact hb'.cell 1 | 2, hx => cases hx; exact hb'.cell 2 | 3, hx => cases hx; exact hb'.cell 3 | 4, hx => cases hx; exact hb'.cell 4)).mono ?_; rintro e w3 ⟨rfl, rfl⟩)
      exact ⟨rfl, _, rfl, Gr.refl _, rfl⟩
  · intro vs l W hall hT hF _ aE LE ha hL
    have e0 : vs 0 = .pointer (some ⟨w.heap.size, 0, none⟩) := hF 0 (by simp)
    have e1 : vs 1 = .int .i64 a0 := hF 1 (by simp)
    have e2 : vs 2 = .pointer (some ⟨w.heap.size + 1, 0, none⟩) := hF 2 (by simp)
    have e3 : vs 3 = .int .i64 b0 := hF 3 (by simp)
    have e4 : vs 4 = .int .i64 (cmpI a0 b0) := hF 4 (by simp)
    have e5 : vs 5 = .pointer (some ⟨w.heap.size, 1, none⟩) := hF 5 (by simp)
    have e6 : vs 6 = .int .i64 a1 := hF 6 (by simp)
    have e7 : vs 7 = .pointer (some ⟨w.heap.size + 1, 1, none⟩) := hF 7 (by simp)
    have e8 : vs 8 = .int .i64 b1 := hF 8 (by simp)
    have e9 : vs 9 = .int .i64 (cmpI a1 b1) := hF 9 (by simp)
    have e10 : vs 10 = .pointer (some ⟨w.heap.size, 3, none⟩) := hF 10 (by simp)
    have e11 : vs 11 = .pointer (some ⟨w.heap.size, 4, none⟩) := hF 11 (by simp)
    have e12 : vs 12 = .int .u32 a4 := hF 12 (by simp)
    have e13 : vs 13 = .pointer (some ⟨w.heap.size + 1, 3, none⟩) := hF 13 (by simp)
    have e14 : vs 14 = .pointer (some ⟨w.heap.size + 1, 4, none⟩) := hF 14 (by simp)
    have e15 : vs 15 = .int .u32 b4 := hF 15 (by simp)
    have e16 : vs 16 = .int .i64 (cmpI a4 b4) := hF 16 (by simp)
    have e17 : vs 17 = .pointer (some ⟨w.heap.size, 3, none⟩) := hF 17 (by simp)
    have e18 : vs 18 = .pointer (some ⟨w.heap.size, 3, none⟩) := hF 18 (by simp)
    have e19 : vs 19 = .int .u32 a3 := hF 19 (by simp)
    have e20 : vs 20 = .pointer (some ⟨w.heap.size + 1, 3, none⟩) := hF 20 (by simp)
    have e21 : vs 21 = .pointer (some ⟨w.heap.size + 1, 3, none⟩) := hF 21 (by simp)
    have e22 : vs 22 = .int .u32 b3 := hF 22 (by simp)
    have e23 : vs 23 = .int .i64 (cmpI a3 b3) := hF 23 (by simp)
    have e24 : vs 24 = .pointer (some ⟨w.heap.size, 2, none⟩) := hF 24 (by simp)
    have e25 : vs 25 = .int .u32 a2 := hF 25 (by simp)
    have e26 : vs 26 = .pointer (some ⟨w.heap.size + 1, 2, none⟩) := hF 26 (by simp)
    have e27 : vs 27 = .int .u32 b2 := hF 27 (by simp)
    have e28 : vs 28 = .int .i64 (cmpI a2 b2) := hF 28 (by simp)
    obtain ⟨h', e29, hb'⟩ := hF 29 (by simp)
    have e30 : vs 30 = .int .i64 (ordT (a0, a1, a2, a3, a4) (b0, b1, b2, b3, b4)) := hF 30 (by simp)
    have hL' : LE = #[true, true, true, true, true, true, true, true, true, true, true, true, true, true, true, true, true, true, true, true, true, true, true, true, true, true, true, true, true, true, true, false] := hL.trans (by kernel_rfl)
    dsimp only [lay, List.foldl, dstOf] at ha
    rw [e0, e1, e2, e3, e4, e5, e6, e7, e8, e9, e10, e11, e12, e13, e14, e15, e16, e17, e18, e19, e20, e21, e22, e23, e24, e25, e26, e27, e28, e29, e30] at ha
    clear e0 e1 e2 e3 e4 e5 e6 e7 e8 e9 e10 e11 e12 e13 e14 e15 e16 e17 e18 e19 e20 e21 e22 e23 e24 e25 e26 e27 e28 e29 e30 hL hF
    subst ha hL'
    refine wpAnyH_ready (rs := [31]) (by kernel_rfl) (by simp) ?_
    refine AllReadyH.cons rfl (fun K hK => ?_) AllReadyH.nil
    go_simp
    refine hK.out _ _ trivial (fun _ => ?_)
    clear hK
    clear K
    refine wpAnyH_done (by kernel_rfl) ?_ _
    have hg := Lib.hid (hG.out.trans hT)
    clear hb' hT hG
    go_wp2
    go_ret
    exact ⟨rfl, hg.out⟩
theorem torder_any (x y : Th) (w : World) : Calls Try.prog 26 #[tv x, tv y] w fun e w' => e = .returned (.int .i64 (ordT x y)) ∧ Gr w w' := torder_raw _ _ _ _ _ _ _ _ _ _ w
/-- less by the first in which they differ -/
def lx (a b : Int) (r : Prop) : Prop := a < b ∨ (a = b ∧ r)
def ltT (x y : Th) : Prop := lx x.1 y.1 (lx x.2.1 y.2.1 (lx x.2.2.2.2 y.2.2.2.2 (lx x.2.2.2.1 y.2.2.2.1 (lx x.2.2.1 y.2.2.1 False))))
theorem lx_irrefl {a : Int} {r : Prop} (h : ¬ r) : ¬ lx a a r := by unfold lx; rintro (h1 | ⟨_, h1⟩); omega; exact h h1
theorem lx_trans {a b c : Int} {r s t : Prop} (h : r → s → t) (h1 : lx a b r) (h2 : lx b c s) : lx a c t := by
  unfold lx at *
  rcases h1 with h1 | ⟨h1, hr⟩
  · rcases h2 with h2 | ⟨h2, hs⟩ <;> exact .inl (by omega)
  · rcases h2 with h2 | ⟨h2, hs⟩
    · exact .inl (by omega)
    · exact .inr ⟨by omega, h hr hs⟩
theorem lx_total {a b : Int} {r s q : Prop} (h : ¬ r → ¬ s → q) (h1 : ¬ lx a b r) (h2 : ¬ lx b a s) : a = b ∧ q := by
  unfold lx at *
  have e : a = b := by
    rcases Int.lt_trichotomy a b with h3 | h3 | h3
    · exact absurd (.inl h3) h1
    · exact h3
    · exact absurd (.inl h3) h2
  exact ⟨e, h (fun hr => h1 (.inr ⟨e, hr⟩)) (fun hs => h2 (.inr ⟨e.symm, hs⟩))⟩
theorem ltT_irrefl (x : Th) : ¬ ltT x x := lx_irrefl (lx_irrefl (lx_irrefl (lx_irrefl (lx_irrefl (fun h => h)))))
theorem ltT_trans {x y z : Th} (h1 : ltT x y) (h2 : ltT y z) : ltT x z := lx_trans (lx_trans (lx_trans (lx_trans (lx_trans (fun h _ => h))))) h1 h2
theorem ltT_total {x y : Th} (h1 : ¬ ltT x y) (h2 : ¬ ltT y x) : x = y := by
  obtain ⟨e1, e2, e3, e4, e5, _⟩ := lx_total (lx_total (lx_total (lx_total (lx_total (q := True) (fun _ _ => trivial))))) h1 h2
  exact Prod.ext e1 (Prod.ext e2 (Prod.ext e5 (Prod.ext e4 e3)))
theorem cmp_or {a b : Int} {xs : List Int} {r : Prop} (h : orL xs < 0 ↔ r) : orL (cmpI a b :: xs) < 0 ↔ lx a b r := by
  unfold orL lx cmpI
  by_cases h1 : a < b
  · simp [h1]
  · by_cases h2 : b < a
    · have : a ≠ b := by omega
      simp [h1, h2, this]
    · have : a = b := by omega
      subst this
      simp [h]
theorem ord_ltT (x y : Th) : ordT x y < 0 ↔ ltT x y := cmp_or (cmp_or (cmp_or (cmp_or (cmp_or (by simp [orL])))))
set_option maxRecDepth 100000 in
theorem less_any (x y : Th) (w : World) : Calls Try.prog 15 #[tv x, tv y] w fun e w' => e = .returned (.bool (decide (ordT x y < 0))) ∧ Below w.heap.size w w' := by
  have hC := Lib.hid (fun W => torder_any x y W)
  have hB := Lib.hid (((Below.refl w.heap.size w).alloc (Nat.le_refl _) (.cells #[.int .i64 x.1, .int .i64 x.2.1, .int .u32 x.2.2.1, .int .u32 x.2.2.2.1, .int .u32 x.2.2.2.2] 28)).alloc (by simp) (.cells #[.int .i64 y.1, .int .i64 y.2.1, .int .u32 y.2.2.1, .int .u32 y.2.2.2.1, .int .u32 y.2.2.2.2] 28))
  unfold tv at hC ⊢
  obtain ⟨a0, a1, a2, a3, a4⟩ := x
  obtain ⟨b0, b1, b2, b3, b4⟩ := y
  simp only at hC hB ⊢
  generalize ordT (a0, a1, a2, a3, a4) (b0, b1, b2, b3, b4) = v at *
  go_enter Try.func15, Try.ntmps15
  go_wp2_with (go_at_call 26; refine (hC.out _).mono ?_; rintro e w3 ⟨rfl, hg⟩)
  go_ret
  exact ⟨rfl, below_next hB.out hg.below⟩
set_option maxRecDepth 100000 in
theorem clos_any (x y : Ex) (w : World) : Calls Try.prog 29 #[ev x, ev y] w fun e w' => e = .returned (.int .i64 (ordT x.e.t y.e.t)) ∧ Gr w w' := by
  obtain ⟨⟨⟨a0, a1, a2, a3, a4⟩, a5, ⟨k1, f1, t1, s1, g1, r1, c1, o1, l1⟩⟩, A1, n1, p1⟩ := x
  obtain ⟨⟨⟨b0, b1, b2, b3, b4⟩, b5, ⟨k2, f2, t2, s2, g2, r2, c2, o2, l2⟩⟩, A2, n2, p2⟩ := y
  have hC := Lib.hid (fun W => torder_any (a0, a1, a2, a3, a4) (b0, b1, b2, b3, b4) W)
  unfold tv at hC
  dsimp only [ev, encE] at hC ⊢
  have hG := Lib.hid (((Gr.refl w).alloc (.cells #[.int .i64 a0, .int .i64 a1, .int .u32 a2, .int .u32 a3, .int .u32 a4, .int .i64 a5, .int .i64 k1, .int .u32 f1, .int .u32 t1, .int .u32 s1, .int .u32 g1, .int .i64 r1, .int .i64 c1, .bool o1, .slice A1 n1 p1] 56)).alloc (.cells #[.int .i64 b0, .int .i64 b1, .int .u32 b2, .int .u32 b3, .int .u32 b4, .int .i64 b5, .int .i64 k2, .int .u32 f2, .int .u32 t2, .int .u32 s2, .int .u32 g2, .int .i64 r2, .int .i64 c2, .bool o2, .slice A2 n2 p2] 56))
  generalize ordT (a0, a1, a2, a3, a4) (b0, b1, b2, b3, b4) = v at *
  go_enter Try.func29, Try.ntmps29
  go_wp2_with (go_at_call 26; refine (hC.out _).mono ?_; rintro e w3 ⟨rfl, hg⟩)
  go_ret
  exact ⟨rfl, hG.out.trans hg⟩
end Go.Proofs.Ytnnppoamdllebaa

