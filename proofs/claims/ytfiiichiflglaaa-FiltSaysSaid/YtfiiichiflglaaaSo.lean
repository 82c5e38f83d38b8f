/- A row of addresses under way: what sorts it touches; cmp.Less at addresses; the plain insertion sort; over the seat's program. -/
import Derived.Test.YtfiiichiflglaaaAs
import Derived.Test.YtfiiichiflglaaaQb
import Derived.Test.YtfiiichiflglaaaProg
import Derived.Deep.Cut
import Derived.Handy
namespace Go.Proofs.Ytfiiichiflglaaa
open Go.RowKit Sm
/-- one address sinks to its place -/
def sinkA : List Int → Nat → List Int
  | xs, 0 => xs
  | xs, j + 1 => if xs.getD (j + 1) 0 < xs.getD j 0 then sinkA ((xs.set (j + 1) (xs.getD j 0)).set j (xs.getD (j + 1) 0)) j else xs
def insA (xs : List Int) : Nat → List Int
  | 0 => xs
  | k + 1 => sinkA (insA xs k) (k + 1)
def sortA (xs : List Int) : List Int := insA xs (xs.length - 1)
theorem sink_no {ys : List Int} {j : Nat} {x y : Int} (hx : ys.getD (j + 1) 0 = x) (hy : ys.getD j 0 = y) (h : decide (x < y) = false) : sinkA ys (j + 1) = ys := by
  unfold sinkA
  rw [hx, hy, if_neg (by simpa using h)]
theorem sink_yes {ys : List Int} {j : Nat} {x y : Int} (hx : ys.getD (j + 1) 0 = x) (hy : ys.getD j 0 = y) (h : decide (x < y) = true) : sinkA ys (j + 1) = sinkA ((ys.set (j + 1) y).set j x) j := by
  conv => lhs; unfold sinkA
  rw [hx, hy, if_pos (by simpa using h)]
theorem sinkA_len : ∀ (j : Nat) (xs : List Int), (sinkA xs j).length = xs.length
  | 0, xs => rfl
  | j + 1, xs => by
    unfold sinkA
    split
    · rw [sinkA_len j]; simp
    · rfl
theorem insA_len (xs : List Int) : ∀ k, (insA xs k).length = xs.length
  | 0 => rfl
  | k + 1 => by unfold insA; rw [sinkA_len, insA_len xs k]
theorem nan_any (x : Int) (w : World) : Calls Try.prog 63 #[.int .u32 x] w fun e w' => e = .returned (.bool false) ∧ w = w' := by
  go_enter Try.func63, Try.ntmps63
  go_wp2
  go_ret
  exact ⟨ret_bool (by simp), rfl⟩
theorem less_any (x y : Int) (w : World) : Calls Try.prog 53 #[.int .u32 x, .int .u32 y] w fun e w' => e = .returned (.bool (decide (x < y))) ∧ w = w' := by
  go_enter Try.func53, Try.ntmps53
  go_wp2_with (go_at_call 63; refine (nan_any _ _).mono ?_; rintro e w1 ⟨rfl, rfl⟩)
  go_ret
  exact ⟨rfl, rfl⟩
theorem lessV {w0 : World} {x y : Int} {V : Bool} (h : decide (x < y) = V) (P : Snc w0) : Calls Try.prog 53 #[.int .u32 x, .int .u32 y] P.W fun e w' => e = .returned (.bool V) ∧ ∃ Q : Snc w0, w' = Q.W :=
  Calls.since_same (by have := less_any x y P.W; rw [h] at this; exact this)
/-- a row of addresses under way: owned, in its block; all else as it was -/
structure Sr (w : World) (base g n c : Nat) (ys : List Int) (W : World) : Prop where
  own : W.ownsRow base 27 1 (.slice (some ⟨g, 0, none⟩) n c) n (A32 ys)
  grow : w.grownBy W (some g)
  len : ys.length = n
theorem Sr.since {w W W' : World} {base g n c : Nat} {ys : List Int} (h : Sr w base g n c ys W) (hb : Below W.heap.size W W') : Sr w base g n c ys W' :=
  ⟨own_next h.own hb, ⟨hb.os.trans h.grow.os, hb.tape.trans h.grow.tape, hb.output.trans h.grow.output, Nat.le_trans h.grow.size hb.size, fun k hk hne => (hb.block k (Nat.lt_of_lt_of_le hk h.grow.size)).trans (h.grow.block k hk hne)⟩, h.len⟩
theorem Sr.drew {w W : World} {base g n c : Nat} {ys : List Int} (h : Sr w base g n c ys W) : Sr w base g n c ys W.drew := h.since (Below.refl _ _).drew
theorem Sr.set_ {w W : World} {base g n c : Nat} {ys : List Int} (h : Sr w base g n c ys W) (i : Nat) (v : Int) : Sr w base g n c (ys.set i v) (W.setCell ⟨g, i, none⟩ (.int .u32 v)) :=
  ⟨own_seta h.own i v, ⟨h.grow.os, h.grow.tape, h.grow.output, by simpa using h.grow.size, fun k hk hne => (Below.heap_setCell W ⟨g, i, none⟩ _ k (fun e => hne (by rw [e]))).trans (h.grow.block k hk hne)⟩, by simpa using h.len⟩
theorem Sr.start {w : World} {base g n c : Nat} {ys : List Int} (h : w.ownsRow base 27 1 (.slice (some ⟨g, 0, none⟩) n c) n (A32 ys)) : Sr w base g n c ys w :=
  ⟨h, ⟨rfl, rfl, rfl, Nat.le_refl _, fun _ _ _ => rfl⟩, by have := h.1; rw [A32_len] at this; omega⟩
theorem Sr.below {w W : World} {base g n c : Nat} {ys : List Int} (h : Sr w base g n c ys W) (hb : base ≤ w.heap.size) : Below base w W :=
  (Below.refl base w).grown h.grow hb (by intro j hj; cases hj; exact (h.own.lt g rfl).1)
theorem Sr.cell {w W : World} {base g n c : Nat} {ys : List Int} (h : Sr w base g n c ys W) {i : Nat} (hi : i < n) : W.cell? ⟨g, i, none⟩ = some (.int .u32 (ys.getD i 0)) := by
  rw [h.own.cellAt i (by omega)]
  exact A32_at (by rw [h.len]; exact hi)
theorem Sr.frozen {w W : World} {base g n c : Nat} {ys : List Int} (h : Sr w base g n c ys W) (i : Nat) : W.frozen? ⟨g, i, none⟩ = false := h.own.frozenAt i
end Go.Proofs.Ytfiiichiflglaaa

