/- slices.Sort at addresses, of up to twelve: by insertion; over the seat's program. -/
import Derived.Test.YtjbinmjjnneilaaGreatDoorAs
import Derived.Test.YtjbinmjjnneilaaGreatDoorQb
import Derived.Test.YtjbinmjjnneilaaGreatDoorShelf
import Derived.Deep.Cut
import Derived.Handy
namespace Go.Proofs.YtjbinmjjnneilaaGreatDoor
open Go.RowKit Sm
/-- one address sinks to its place -/
def sinkA : List Int → Nat → List Int
  | xs, 0 => xs
  | xs, j + 1 => if xs.getD (j + 1) 0 < xs.getD j 0 then sinkA ((xs.set (j + 1) (xs.getD j 0)).set j (xs.getD (j + 1) 0)) j else xs
def insA (xs : List Int) : Nat → List Int
  | 0 => xs
  | k + 1 => sinkA (insA xs k) (k + 1)
def sortA (xs : List Int) : List Int := insA xs (xs.length - 1)
theorem sink_no {ys : List Int} {j : Nat} {x y : Int} (hx : ys.getD (j + 1) 0 = x) (hy : ys.getD j 0 = y) (h : decide (x < y) = false) : sinkA ys (j + 1) = ys := by
  unfold sinkA
  rw [hx, hy, if_neg (by simpa using h)]
theorem sink_yes {ys : List Int} {j : Nat} {x y : Int} (hx : ys.getD (j + 1) 0 = x) (hy : ys.getD j 0 = y) (h : decide (x < y) = true) : sinkA ys (j + 1) = sinkA ((ys.set (j + 1) y).set j x) j := by
  conv => lhs; unfold sinkA
  rw [hx, hy, if_pos (by simpa using h)]
theorem sinkA_len : ∀ (j : Nat) (xs : List Int), (sinkA xs j).length = xs.length
  | 0, xs => rfl
  | j + 1, xs => by
    unfold sinkA
    split
    · rw [sinkA_len j]; simp
    · rfl
theorem insA_len (xs : List Int) : ∀ k, (insA xs k).length = xs.length
  | 0 => rfl
  | k + 1 => by unfold insA; rw [sinkA_len, insA_len xs k]
theorem nan_any (x : Int) (w : World) : Calls Tryz.prog 151 #[.int .u32 x] w fun e w' => e = .returned (.bool false) ∧ w = w' := by
  go_enter Tryz.func151, Tryz.ntmps151
  go_wp2
  go_ret
  exact ⟨ret_bool (by simp), rfl⟩
theorem less_any (x y : Int) (w : World) : Calls Tryz.prog 134 #[.int .u32 x, .int .u32 y] w fun e w' => e = .returned (.bool (decide (x < y))) ∧ w = w' := by
  go_enter Tryz.func134, Tryz.ntmps134
  go_wp2_with (go_at_call 151; refine (nan_any _ _).mono ?_; rintro e w1 ⟨rfl, rfl⟩)
  go_ret
  exact ⟨rfl, rfl⟩
theorem lessV {w0 : World} {x y : Int} {V : Bool} (h : decide (x < y) = V) (P : Snc w0) : Calls Tryz.prog 134 #[.int .u32 x, .int .u32 y] P.W fun e w' => e = .returned (.bool V) ∧ ∃ Q : Snc w0, w' = Q.W :=
  Calls.since_same (by have := less_any x y P.W; rw [h] at this; exact this)
/-- a row of addresses under way: owned, in its block; all else as it was -/
structure Sr (w : World) (base g n c : Nat) (ys : List Int) (W : World) : Prop where
  own : W.ownsRow base 43 1 (.slice (some ⟨g, 0, none⟩) n c) n (A32 ys)
  grow : w.grownBy W (some g)
  len : ys.length = n
theorem Sr.since {w W W' : World} {base g n c : Nat} {ys : List Int} (h : Sr w base g n c ys W) (hb : Below W.heap.size W W') : Sr w base g n c ys W' :=
  ⟨own_next h.own hb, ⟨hb.os.trans h.grow.os, hb.tape.trans h.grow.tape, hb.output.trans h.grow.output, Nat.le_trans h.grow.size hb.size, fun k hk hne => (hb.block k (Nat.lt_of_lt_of_le hk h.grow.size)).trans (h.grow.block k hk hne)⟩, h.len⟩
theorem Sr.drew {w W : World} {base g n c : Nat} {ys : List Int} (h : Sr w base g n c ys W) : Sr w base g n c ys W.drew := h.since (Below.refl _ _).drew
theorem Sr.set_ {w W : World} {base g n c : Nat} {ys : List Int} (h : Sr w base g n c ys W) (i : Nat) (v : Int) : Sr w base g n c (ys.set i v) (W.setCell ⟨g, i, none⟩ (.int .u32 v)) :=
  ⟨own_seta h.own i v, ⟨h.grow.os, h.grow.tape, h.grow.output, by simpa using h.grow.size, fun k hk hne => (Below.heap_setCell W ⟨g, i, none⟩ _ k (fun e => hne (by rw [e]))).trans (h.grow.block k hk hne)⟩, by simpa using h.len⟩
theorem Sr.start {w : World} {base g n c : Nat} {ys : List Int} (h : w.ownsRow base 43 1 (.slice (some ⟨g, 0, none⟩) n c) n (A32 ys)) : Sr w base g n c ys w :=
  ⟨h, ⟨rfl, rfl, rfl, Nat.le_refl _, fun _ _ _ => rfl⟩, by have := h.1; rw [A32_len] at this; omega⟩
theorem Sr.below {w W : World} {base g n c : Nat} {ys : List Int} (h : Sr w base g n c ys W) (hb : base ≤ w.heap.size) : Below base w W :=
  (Below.refl base w).grown h.grow hb (by intro j hj; cases hj; exact (h.own.lt g rfl).1)
theorem Sr.cell {w W : World} {base g n c : Nat} {ys : List Int} (h : Sr w base g n c ys W) {i : Nat} (hi : i < n) : W.cell? ⟨g, i, none⟩ = some (.int .u32 (ys.getD i 0)) := by
  rw [h.own.cellAt i (by omega)]
  exact A32_at (by rw [h.len]; exact hi)
theorem Sr.frozen {w W : World} {base g n c : Nat} {ys : List Int} (h : Sr w base g n c ys W) (i : Nat) : W.frozen? ⟨g, i, none⟩ = false := h.own.frozenAt i
set_option maxRecDepth 100000 in
set_option maxHeartbeats 4000000 in
theorem insert_any (base g n c : Nat) (xs : List Int) (w : World) (h : w.ownsRow base 43 1 (.slice (some ⟨g, 0, none⟩) n c) n (A32 xs)) (hn : 0 < n) (hn2 : n ≤ 1000) :
    Calls Tryz.prog 128 #[.slice (some ⟨g, 0, none⟩) n c, .int .i64 0, .int .i64 n] w fun e w' => e = .returned (.tuple #[]) ∧ Sr w base g n c (sortA xs) w' := by
  have H0 := Lib.hid (Sr.start h)
  have hlen := H0.out.len
  have HN : Hid (sortA xs = insA xs (n - 1)) := Lib.hid (by unfold sortA; rw [hlen])
  clear h
  go_enter Tryz.func128, Tryz.ntmps128
  go_wp2
  go_loopw [6] (fun i wr => ∃ k : Nat, k < n ∧ i = .int .i64 ((k : Int) + 1) ∧ Hid (Sr w base g n c (insA xs k) wr)) (fun i _ => n - (intOf i).toNat)
  case atStart => exact ⟨0, hn, rfl, H0⟩
  case round =>
    obtain ⟨k, hk, rfl, HS⟩ := hrel
    by_cases hk1 : k + 1 < n
    · have hlt : (k : Int) + 1 < (n : Int) := by omega
      go_wp2
      go_loopw [7] (fun jv wr2 => ∃ (j : Nat) (ys : List Int), j ≤ k + 1 ∧ jv = .int .i64 (j : Int) ∧ Hid (sinkA ys j = insA xs (k + 1)) ∧ Hid (Sr w base g n c ys wr2)) (fun jv _ => (intOf jv).toNat)
      case atStart => exact ⟨k + 1, insA xs k, Nat.le_refl _, by go_num, Lib.hid rfl, HS⟩
      case round =>
        obtain ⟨j, ys, hj, rfl, HE, HY⟩ := hrel
        rcases j with _ | j
        · have hE := HE.out
          unfold sinkA at hE
          have R0 : True := trivial
          go_upto_region 4 with fail
          refine wp_region_since (by kernel_rfl) (by kernel_rfl) ?_
          repeat (go_big_quiet_step (fail))
          refine wpQuiet_nil ?_
          rintro w5 ⟨P5, rfl⟩
          have HS5 := Lib.hid (HY.out.since P5.b)
          clear HY
          go_wp2
          go_roundw
          case rel => exact ⟨k + 1, by omega, by go_num, by rw [← hE]; exact HS5⟩
          case measure => simp [intOf]; omega
        · have e1 : ((j + 1 : Nat) : Int) = (j : Int) + 1 := by omega
          obtain ⟨x, hx⟩ : ∃ x, ys.getD (j + 1) 0 = x := ⟨_, rfl⟩
          obtain ⟨y, hy⟩ : ∃ y, ys.getD j 0 = y := ⟨_, rfl⟩
          have c1 : ∀ p : Snc wr, p.W.cell? ⟨g, j + 1, none⟩ = some (.int .u32 x) := fun p => by rw [← hx]; exact (HY.out.since p.b).cell (by omega)
          have c0 : ∀ p : Snc wr, p.W.cell? ⟨g, j, none⟩ = some (.int .u32 y) := fun p => by rw [← hy]; exact (HY.out.since p.b).cell (by omega)
          have hj0 : (0 : Int) < (j : Int) + 1 := by omega
          have i1 : (j : Int) + 1 < (n : Int) := by omega
          have i0 : (j : Int) < (n : Int) := by omega
          cases hlt2 : decide (x < y) with
          | false =>
            have R0 := lessV (w0 := wr) hlt2
            have HE2 := Lib.hid ((sink_no hx hy hlt2).symm.trans HE.out)
            clear HE hx hy
            go_upto_region 4 with fail
            refine wp_region_since (by kernel_rfl) (by kernel_rfl) ?_
            repeat (go_big_quiet_step ((go_at_call 134; with_reducible exact R0 _)))
            refine wpQuiet_nil ?_
            rintro w5 ⟨P5, rfl⟩
            have HS5 := Lib.hid (HY.out.since P5.b)
            clear HY c0 c1 R0
            generalize P5.W = W5 at *
            go_wp2
            go_roundw
            case rel => exact ⟨k + 1, by omega, by go_num, by rw [← HE2.out]; exact HS5⟩
            case measure => simp [intOf]; omega
          | true =>
            have R0 := lessV (w0 := wr) hlt2
            have HE2 := Lib.hid ((sink_yes hx hy hlt2).symm.trans HE.out)
            have HX := Lib.hid hx
            have HYy := Lib.hid hy
            clear HE hx hy
            go_upto_region 4 with fail
            refine wp_region_since (by kernel_rfl) (by kernel_rfl) ?_
            repeat (go_big_quiet_step ((go_at_call 134; with_reducible exact R0 _)))
            refine wpQuiet_nil ?_
            rintro w5 ⟨P5, rfl⟩
            have HS5 := Lib.hid (HY.out.since P5.b)
            clear HY c0 c1 R0
            generalize P5.W = W5 at *
            have c1 : W5.cell? ⟨g, j + 1, none⟩ = some (.int .u32 x) := by rw [← HX.out]; exact HS5.out.cell (by omega)
            have c0 : W5.cell? ⟨g, j, none⟩ = some (.int .u32 y) := by rw [← HYy.out]; exact HS5.out.cell (by omega)
            have f1 : W5.frozen? ⟨g, j + 1, none⟩ = false := HS5.out.frozen _
            have f0 : W5.frozen? ⟨g, j, none⟩ = false := HS5.out.frozen _
            go_upto_region 6 with fail
            go_region
            have HS6 := Lib.hid ((HS5.out.drew.set_ (j + 1) y).set_ j x)
            clear c0 c1 f0 f1
            go_wp2
            go_roundw
            case rel => exact ⟨j, _, by omega, by go_num, HE2, HS6⟩
            case measure => simp [intOf]
    · have hlt : decide ((k : Int) + 1 < (n : Int)) = false := by simp; omega
      have hk2 : k = n - 1 := by omega
      go_wp2
      go_returns
      refine ⟨rfl, ?_⟩
      rw [HN.out, ← hk2]
      exact HS.out
theorem pdq_any (base g n c : Nat) (l : Int) (xs : List Int) (w : World) (h : w.ownsRow base 43 1 (.slice (some ⟨g, 0, none⟩) n c) n (A32 xs)) (hn : 0 < n) (hn2 : n ≤ 12) :
    Calls Tryz.prog 108 #[.slice (some ⟨g, 0, none⟩) n c, .int .i64 0, .int .i64 n, .int .i64 l] w fun e w' => e = .returned (.tuple #[]) ∧ Sr w base g n c (sortA xs) w' := by
  have hd : (n : Int) ≤ 12 := by omega
  have H := Lib.hid h
  clear h
  go_enter Tryz.func108, Tryz.ntmps108
  go_wp2
  go_loopw [1, 2, 3, 8, 9] (fun a b l' x y wr => a = .int .i64 0 ∧ b = .int .i64 n ∧ l' = .int .i64 l ∧ x = .bool true ∧ y = .bool true ∧ w = wr) (fun _ _ _ _ _ _ => 0)
  case atStart => exact ⟨rfl, rfl, rfl, rfl, rfl, rfl⟩
  case round =>
    obtain ⟨rfl, rfl, rfl, rfl, rfl, rfl⟩ := hrel
    go_wp2_with (go_at_call 128; refine (insert_any base g n c xs _ H.out hn (by omega)).mono ?_; rintro e w1 ⟨rfl, hb1⟩)
    go_returns
    exact ⟨rfl, hb1⟩
theorem sort_any (base g n c : Nat) (xs : List Int) (w : World) (h : w.ownsRow base 43 1 (.slice (some ⟨g, 0, none⟩) n c) n (A32 xs)) (hn : 0 < n) (hn2 : n ≤ 12) :
    Calls Tryz.prog 59 #[.slice (some ⟨g, 0, none⟩) n c] w fun e w' => e = .returned (.tuple #[]) ∧ Sr w base g n c (sortA xs) w' := by
  have HL := Lib.hid (fun W => Tryz.bits_Len (n : Int) W (by omega) (by omega))
  go_enter Tryz.func59, Tryz.ntmps59
  go_wp2_with (first
    | (go_at_call 109; refine (HL.out _).mono ?_; rintro e w1 ⟨rfl, rfl⟩)
    | (go_at_call 108; refine (pdq_any base g n c _ xs _ h hn hn2).mono ?_; rintro e w1 ⟨rfl, hb⟩))
  go_returns
  exact ⟨rfl, hb⟩
end Go.Proofs.YtjbinmjjnneilaaGreatDoor

