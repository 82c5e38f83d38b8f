/- A row of addresses under way: what sorts it touches; cmp.Less at addresses; the plain insertion sort; over the seat's program. A row of addresses under way, as an array (the plain theory of the sort is the library's): insertionSortOrdered, siftDownOrdered, heapSortOrdered, reverseRangeOrdered; over the seat's program. -/
import Derived.Test.YtdljpokhcfhhfaaGreatDoorAs
import Derived.Test.YtdljpokhcfhhfaaGreatDoorKit
import Derived.Test.YtdljpokhcfhhfaaGreatDoorProg
import Derived.Deep.Cut
import Derived.Handy
import Derived.Sort.LotD3
namespace Go.Proofs.YtdljpokhcfhhfaaGreatDoor
open Go.RowKit Sm
/-- one address sinks to its place -/
def sinkA : List Int → Nat → List Int
  | xs, 0 => xs
  | xs, j + 1 => if xs.getD (j + 1) 0 < xs.getD j 0 then sinkA ((xs.set (j + 1) (xs.getD j 0)).set j (xs.getD (j + 1) 0)) j else xs
def insA (xs : List Int) : Nat → List Int
  | 0 => xs
  | k + 1 => sinkA (insA xs k) (k + 1)
def sortA (xs : List Int) : List Int := insA xs (xs.length - 1)
theorem sink_no {ys : List Int} {j : Nat} {x y : Int} (hx : ys.getD (j + 1) 0 = x) (hy : ys.getD j 0 = y) (h : decide (x < y) = false) : sinkA ys (j + 1) = ys := by
  unfold sinkA
  rw [hx, hy, if_neg (by simpa using h)]
theorem sink_yes {ys : List Int} {j : Nat} {x y : Int} (hx : ys.getD (j + 1) 0 = x) (hy : ys.getD j 0 = y) (h : decide (x < y) = true) : sinkA ys (j + 1) = sinkA ((ys.set (j + 1) y).set j x) j := by
  conv => lhs; unfold sinkA
  rw [hx, hy, if_pos (by simpa using h)]
theorem sinkA_len : ∀ (j : Nat) (xs : List Int), (sinkA xs j).length = xs.length
  | 0, xs => rfl
  | j + 1, xs => by
    unfold sinkA
    split
    · rw [sinkA_len j]; simp
    · rfl
theorem insA_len (xs : List Int) : ∀ k, (insA xs k).length = xs.length
  | 0 => rfl
  | k + 1 => by unfold insA; rw [sinkA_len, insA_len xs k]
theorem nan_any (x : Int) (w : World) : Calls Tryz.prog 260 #[.int .u32 x] w fun e w' => e = .returned (.bool false) ∧ w = w' := by
  go_enter Tryz.func260, Tryz.ntmps260
  go_wp2
  go_ret
  exact ⟨ret_bool (by simp), rfl⟩
theorem less_any (x y : Int) (w : World) : Calls Tryz.prog 232 #[.int .u32 x, .int .u32 y] w fun e w' => e = .returned (.bool (decide (x < y))) ∧ w = w' := by
  go_enter Tryz.func232, Tryz.ntmps232
  go_wp2_with (go_at_call 260; refine (nan_any _ _).mono ?_; rintro e w1 ⟨rfl, rfl⟩)
  go_ret
  exact ⟨rfl, rfl⟩
theorem lessV {w0 : World} {x y : Int} {V : Bool} (h : decide (x < y) = V) (P : Snc w0) : Calls Tryz.prog 232 #[.int .u32 x, .int .u32 y] P.W fun e w' => e = .returned (.bool V) ∧ ∃ Q : Snc w0, w' = Q.W :=
  Calls.since_same (by have := less_any x y P.W; rw [h] at this; exact this)
/-- a row of addresses under way: owned, in its block; all else as it was -/
structure Sr (w : World) (base g n c : Nat) (ys : List Int) (W : World) : Prop where
  own : W.ownsRow base 42 1 (.slice (some ⟨g, 0, none⟩) n c) n (A32 ys)
  grow : w.grownBy W (some g)
  len : ys.length = n
theorem Sr.since {w W W' : World} {base g n c : Nat} {ys : List Int} (h : Sr w base g n c ys W) (hb : Below W.heap.size W W') : Sr w base g n c ys W' :=
  ⟨own_next h.own hb, ⟨hb.os.trans h.grow.os, hb.tape.trans h.grow.tape, hb.output.trans h.grow.output, Nat.le_trans h.grow.size hb.size, fun k hk hne => (hb.block k (Nat.lt_of_lt_of_le hk h.grow.size)).trans (h.grow.block k hk hne)⟩, h.len⟩
theorem Sr.drew {w W : World} {base g n c : Nat} {ys : List Int} (h : Sr w base g n c ys W) : Sr w base g n c ys W.drew := h.since (Below.refl _ _).drew
theorem Sr.set_ {w W : World} {base g n c : Nat} {ys : List Int} (h : Sr w base g n c ys W) (i : Nat) (v : Int) : Sr w base g n c (ys.set i v) (W.setCell ⟨g, i, none⟩ (.int .u32 v)) :=
  ⟨own_seta h.own i v, ⟨h.grow.os, h.grow.tape, h.grow.output, by simpa using h.grow.size, fun k hk hne => (Below.heap_setCell W ⟨g, i, none⟩ _ k (fun e => hne (by rw [e]))).trans (h.grow.block k hk hne)⟩, by simpa using h.len⟩
theorem Sr.start {w : World} {base g n c : Nat} {ys : List Int} (h : w.ownsRow base 42 1 (.slice (some ⟨g, 0, none⟩) n c) n (A32 ys)) : Sr w base g n c ys w :=
  ⟨h, ⟨rfl, rfl, rfl, Nat.le_refl _, fun _ _ _ => rfl⟩, by have := h.1; rw [A32_len] at this; omega⟩
theorem Sr.below {w W : World} {base g n c : Nat} {ys : List Int} (h : Sr w base g n c ys W) (hb : base ≤ w.heap.size) : Below base w W :=
  (Below.refl base w).grown h.grow hb (by intro j hj; cases hj; exact (h.own.lt g rfl).1)
theorem Sr.cell {w W : World} {base g n c : Nat} {ys : List Int} (h : Sr w base g n c ys W) {i : Nat} (hi : i < n) : W.cell? ⟨g, i, none⟩ = some (.int .u32 (ys.getD i 0)) := by
  rw [h.own.cellAt i (by omega)]
  exact A32_at (by rw [h.len]; exact hi)
theorem Sr.frozen {w W : World} {base g n c : Nat} {ys : List Int} (h : Sr w base g n c ys W) (i : Nat) : W.frozen? ⟨g, i, none⟩ = false := h.own.frozenAt i
end Go.Proofs.YtdljpokhcfhhfaaGreatDoor
namespace Go.Proofs.YtdljpokhcfhhfaaGreatDoor
open Go.RowKit Sm

structure Sd (w : World) (base g n c : Nat) (d : Array Int) (W : World) : Prop where
  s : Sr w base g n c d.toList W
theorem bang (d : Array Int) (i : Nat) : d.toList.getD i 0 = d[i]! := by
  rw [List.getD_eq_getElem?_getD, Array.getElem?_toList, Array.getElem!_eq_getD, Array.getD_eq_getD_getElem?]
  rfl
theorem Sd.size {w W : World} {base g n c : Nat} {d : Array Int} (h : Sd w base g n c d W) : d.size = n := by have := h.s.len; simpa using this
theorem Sd.cell {w W : World} {base g n c : Nat} {d : Array Int} (h : Sd w base g n c d W) {i : Nat} (hi : i < n) : W.cell? ⟨g, i, none⟩ = some (.int .u32 d[i]!) := by rw [h.s.cell hi, bang]
theorem Sd.frozen {w W : World} {base g n c : Nat} {d : Array Int} (h : Sd w base g n c d W) (i : Nat) : W.frozen? ⟨g, i, none⟩ = false := h.s.frozen i
theorem Sd.since {w W W' : World} {base g n c : Nat} {d : Array Int} (h : Sd w base g n c d W) (hb : Below W.heap.size W W') : Sd w base g n c d W' := ⟨h.s.since hb⟩
theorem Sd.drew {w W : World} {base g n c : Nat} {d : Array Int} (h : Sd w base g n c d W) : Sd w base g n c d W.drew := ⟨h.s.drew⟩
theorem Sd.swap {w W : World} {base g n c : Nat} {d : Array Int} (h : Sd w base g n c d W) (i j : Nat) :
    Sd w base g n c (Sort.swp d i j) ((W.setCell ⟨g, i, none⟩ (.int .u32 d[j]!)).setCell ⟨g, j, none⟩ (.int .u32 d[i]!)) :=
  ⟨by
    have := (h.s.set_ i d[j]!).set_ j d[i]!
    unfold Sort.swp
    rw [Array.toList_setIfInBounds, Array.toList_setIfInBounds]
    exact this⟩
theorem Sd.start {w : World} {base g n c : Nat} {d : Array Int} (h : w.ownsRow base 42 1 (.slice (some ⟨g, 0, none⟩) n c) n (A32 d.toList)) : Sd w base g n c d w := ⟨Sr.start h⟩
/-- what came of it in a callee goes on here -/
theorem Sd.then {w W W' : World} {base g n c : Nat} {d d' : Array Int} (h : Sd w base g n c d W) (h' : Sd W base g n c d' W') : Sd w base g n c d' W' :=
  ⟨⟨h'.s.own, ⟨h'.s.grow.os.trans h.s.grow.os, h'.s.grow.tape.trans h.s.grow.tape, h'.s.grow.output.trans h.s.grow.output, Nat.le_trans h.s.grow.size h'.s.grow.size, fun k hk hne => (h'.s.grow.block k (Nat.lt_of_lt_of_le hk h.s.grow.size) hne).trans (h.s.grow.block k hk hne)⟩, h'.s.len⟩⟩
theorem Sd.again {w W : World} {base g n c : Nat} {d : Array Int} (h : Sd w base g n c d W) : Sd W base g n c d W := ⟨Sr.start h.s.own⟩
/-! the insertion sort -/
theorem ins_no {a : Nat} {ys : Array Int} {j : Nat} {x y : Int} (hx : ys[j + 1]! = x) (hy : ys[j]! = y) (h : decide (x < y) = false) : Sort.insInner Sort.ltInt a (j + 1) ys = ys := by
  unfold Sort.insInner Sort.ltInt
  rw [hx, hy, h, Bool.and_false, if_neg (by decide)]
theorem ins_yes {a : Nat} {ys : Array Int} {j : Nat} {x y : Int} (ha : a ≤ j) (hx : ys[j + 1]! = x) (hy : ys[j]! = y) (h : decide (x < y) = true) : Sort.insInner Sort.ltInt a (j + 1) ys = Sort.insInner Sort.ltInt a j (Sort.swp ys (j + 1) j) := by
  conv => lhs; unfold Sort.insInner
  rw [if_pos (by unfold Sort.ltInt; rw [hx, hy, h, Bool.and_true]; simp; omega)]
theorem ins_stop (a : Nat) (ys : Array Int) : Sort.insInner Sort.ltInt a a ys = ys := by
  cases a with
  | zero => rfl
  | succ a => unfold Sort.insInner; simp
theorem out_go {a b i : Nat} {d : Array Int} (h : i < b) : Sort.insOuter Sort.ltInt a b i d = Sort.insOuter Sort.ltInt a b (i + 1) (Sort.insInner Sort.ltInt a i d) := by
  rw [Sort.insOuter, if_pos h]
theorem out_end {a b i : Nat} {d : Array Int} (h : ¬ i < b) : Sort.insOuter Sort.ltInt a b i d = d := by
  rw [Sort.insOuter, if_neg h]
set_option maxRecDepth 100000 in
set_option maxHeartbeats 4000000 in
theorem pinsert_any (base g n c a b : Nat) (d : Array Int) (w : World) (h : Sd w base g n c d w) (hab : a ≤ b) (hb : b ≤ n) (hn2 : n ≤ 1000000000) :
    Calls Tryz.prog 226 #[.slice (some ⟨g, 0, none⟩) n c, .int .i64 (a : Int), .int .i64 (b : Int)] w fun e w' => e = .returned (.tuple #[]) ∧ Sd w base g n c (Sort.insertionSort Sort.ltInt d a b) w' := by
  have H0 := Lib.hid h
  clear h
  go_enter Tryz.func226, Tryz.ntmps226
  go_wp2
  go_loopw [6] (fun i wr => ∃ (t : Nat) (dk : Array Int), a < t ∧ t ≤ b + 1 ∧ i = .int .i64 (t : Int) ∧ Hid (Sort.insOuter Sort.ltInt a b t dk = Sort.insertionSort Sort.ltInt d a b) ∧ Hid (Sd w base g n c dk wr)) (fun i _ => b + 1 - (intOf i).toNat)
  case atStart => exact ⟨a + 1, d, by omega, by omega, by go_num, Lib.hid rfl, H0⟩
  case round =>
    obtain ⟨t, dk, hat, htb, rfl, HI, HS⟩ := hrel
    by_cases hk1 : t < b
    · have hlt : (t : Int) < (b : Int) := by omega
      have HI2 := Lib.hid ((out_go hk1).symm.trans HI.out)
      clear HI
      go_wp2
      go_loopw [7] (fun jv wr2 => ∃ (j : Nat) (ys : Array Int), a ≤ j ∧ j ≤ t ∧ jv = .int .i64 (j : Int) ∧ Hid (Sort.insInner Sort.ltInt a j ys = Sort.insInner Sort.ltInt a t dk) ∧ Hid (Sd w base g n c ys wr2)) (fun jv _ => (intOf jv).toNat)
      case atStart => exact ⟨t, dk, by omega, Nat.le_refl _, by go_num, Lib.hid rfl, HS⟩
      case round =>
        obtain ⟨j, ys, hja, hj, rfl, HE, HY⟩ := hrel
        rcases Nat.lt_or_ge a j with hj1 | hj1
        · obtain ⟨j, rfl⟩ : ∃ j', j = j' + 1 := ⟨j - 1, by omega⟩
          have e1 : ((j + 1 : Nat) : Int) = (j : Int) + 1 := by omega
          obtain ⟨x, hx⟩ : ∃ x, ys[j + 1]! = x := ⟨_, rfl⟩
          obtain ⟨y, hy⟩ : ∃ y, ys[j]! = y := ⟨_, rfl⟩
          have c1 : ∀ p : Snc wr, p.W.cell? ⟨g, j + 1, none⟩ = some (.int .u32 x) := fun p => by rw [← hx]; exact (HY.out.since p.b).cell (by omega)
          have c0 : ∀ p : Snc wr, p.W.cell? ⟨g, j, none⟩ = some (.int .u32 y) := fun p => by rw [← hy]; exact (HY.out.since p.b).cell (by omega)
          have hj0 : (a : Int) < (j : Int) + 1 := by omega
          have i1 : (j : Int) + 1 < (n : Int) := by omega
          have i0 : (j : Int) < (n : Int) := by omega
          have i2 : (0 : Int) ≤ (j : Int) := by omega
          have hja2 : a ≤ j := by omega
          cases hlt2 : decide (x < y) with
          | false =>
            have R0 := lessV (w0 := wr) hlt2
            have HE2 := Lib.hid ((ins_no hx hy hlt2).symm.trans HE.out)
            clear HE hx hy
            go_upto_region 4 with fail
            refine wp_region_since (by kernel_rfl) (by kernel_rfl) ?_
            repeat (go_big_quiet_step ((go_at_call 232; with_reducible exact R0 _)))
            refine wpQuiet_nil ?_
            rintro w5 ⟨P5, rfl⟩
            have HS5 := Lib.hid (HY.out.since P5.b)
            clear HY c0 c1 R0
            generalize P5.W = W5 at *
            go_wp2
            go_roundw
            case rel => exact ⟨t + 1, ys, by omega, by omega, by go_num, by rw [HE2.out]; exact HI2, HS5⟩
            case measure => simp [intOf]; omega
          | true =>
            have R0 := lessV (w0 := wr) hlt2
            have HE2 := Lib.hid ((ins_yes hja2 hx hy hlt2).symm.trans HE.out)
            have HX := Lib.hid hx
            have HYy := Lib.hid hy
            clear HE hx hy
            go_upto_region 4 with fail
            refine wp_region_since (by kernel_rfl) (by kernel_rfl) ?_
            repeat (go_big_quiet_step ((go_at_call 232; with_reducible exact R0 _)))
            refine wpQuiet_nil ?_
            rintro w5 ⟨P5, rfl⟩
            have HS5 := Lib.hid (HY.out.since P5.b)
            clear HY c0 c1 R0
            generalize P5.W = W5 at *
            have bx : (j + 1) < n := by omega
            have by_ : j < n := by omega
            obtain ⟨vx, hvx'⟩ : ∃ vx, (ys)[(j + 1)]! = vx := ⟨_, rfl⟩
            obtain ⟨vy, hvy'⟩ : ∃ vy, (ys)[j]! = vy := ⟨_, rfl⟩
            have cx : W5.cell? ⟨g, (j + 1), none⟩ = some (.int .u32 vx) := by rw [← hvx']; exact HS5.out.cell bx
            have cy : W5.cell? ⟨g, j, none⟩ = some (.int .u32 vy) := by rw [← hvy']; exact HS5.out.cell by_
            have fx : W5.frozen? ⟨g, (j + 1), none⟩ = false := HS5.out.frozen _
            have fy : W5.frozen? ⟨g, j, none⟩ = false := HS5.out.frozen _
            obtain ⟨vz, cz⟩ := Go.RowKit.cell?_setCell_some (w := W5) (p := ⟨g, (j + 1), none⟩) (x := .int .u32 vy) (q := ⟨g, j, none⟩) cy
            have HS6 : Hid (Sd w base g n c (Sort.swp (ys) (j + 1) j) ((W5.setCell ⟨g, (j + 1), none⟩ (.int .u32 vy)).setCell ⟨g, j, none⟩ (.int .u32 vx)).drew) := Lib.hid (by
              rw [← hvx', ← hvy']
              exact (HS5.out.swap (j + 1) j).drew)
            clear hvx' hvy'
            go_upto_region 6 with fail
            go_region
            clear cx cy fx fy cz
            all_goals go_wp2
            all_goals go_roundw
            case rel => exact ⟨j, _, hja2, by omega, by go_num, HE2, HS6⟩
            case measure => simp [intOf]
        · obtain rfl : a = j := by omega
          have hE := Lib.hid ((ins_stop a ys).symm.trans HE.out)
          have hd : ¬ (a : Int) < (a : Int) := by omega
          go_upto_region 4 with fail
          refine wp_region_since (by kernel_rfl) (by kernel_rfl) ?_
          repeat (go_big_quiet_step (fail))
          refine wpQuiet_nil ?_
          rintro w5 ⟨P5, rfl⟩
          have HS5 := Lib.hid (HY.out.since P5.b)
          clear HY HE
          go_wp2
          go_roundw
          case rel => exact ⟨t + 1, ys, by omega, by omega, by go_num, by rw [hE.out]; exact HI2, HS5⟩
          case measure => simp [intOf]; omega
    · have hlt : decide ((t : Int) < (b : Int)) = false := by simp; omega
      have hlt' : ¬ (t : Int) < (b : Int) := by omega
      have HE := Lib.hid ((out_end hk1).symm.trans HI.out)
      clear HI hat htb hk1
      go_wp2
      go_returns
      refine ⟨rfl, ?_⟩
      rw [← HE.out]
      exact HS.out
end Go.Proofs.YtdljpokhcfhhfaaGreatDoor

