/- Bids of a link: which of two is better, which of some is the best; over the seat's program. -/
import Derived.Test.YtdljpokhcfhhfaaGreatDoorKit
import Derived.Test.YtdljpokhcfhhfaaGreatDoorBytes
import Derived.Deep.Cut
import Derived.Test.YtdljpokhcfhhfaaGreatDoorProg
namespace Go.Proofs.YtdljpokhcfhhfaaGreatDoor
open Go.RowKit
abbrev Bd := Int × Int
def CBd : Bd → List Value := fun b => [.int .i64 b.1, .int .u32 b.2]
def wfBd : Bd → Prop := fun b => (-9223372036854775808 ≤ b.1 ∧ b.1 ≤ 9223372036854775807) ∧ (0 ≤ b.2 ∧ b.2 ≤ 4294967295)
def beats (p q : Bd) : Bool := if p.1 = q.1 then decide (q.2 < p.2) else decide (q.1 < p.1)
def bestP (xs : List Bd) : Nat → Nat
  | 0 => 0
  | k + 1 => if beats (xs.getD k (0, 0)) (xs.getD (bestP xs k) (0, 0)) then k else bestP xs k
theorem bestP_lt (xs : List Bd) (k : Nat) : bestP xs k ≤ k - 1 := by
  induction k with
  | zero => exact Nat.le_refl _
  | succ k ih => unfold bestP; split <;> omega
theorem bflat_at {α : Type} {enc : α → List Value} {k j : Nat} {v : Value} (hk : ∀ x, (enc x).length = k) : ∀ (ys : List α) (i : Nat) (x : α), ys[i]? = some x → (enc x)[j]? = some v → (ys.flatMap enc)[i * k + j]? = some v
  | [], i, x, h, _ => by simp at h
  | y :: ys, i, x, h, hj => by
    rw [List.flatMap_cons]
    cases i with
    | zero =>
      simp only [List.getElem?_cons_zero, Option.some.injEq] at h
      subst h
      rw [Nat.zero_mul, Nat.zero_add, List.getElem?_append_left (List.getElem?_eq_some_iff.1 hj).1]
      exact hj
    | succ i =>
      simp only [List.getElem?_cons_succ] at h
      rw [List.getElem?_append_right (by rw [hk, Nat.succ_mul]; omega), hk, show (i + 1) * k + j - k = i * k + j by rw [Nat.succ_mul]; omega]
      exact bflat_at hk ys i x h hj
theorem RI.of_blk {α : Type} {enc : α → List Value} {k : Nat} {w : World} {n : Nat} {xs : List α} {g : Nat} {t : TypeId} {cs : Array Value} (hk : ∀ x, (enc x).length = k) (h : Blk w g t cs) (e : cs.toList = xs.flatMap enc) (hn : xs.length = n) :
    RI enc k w (some ⟨g, 0, none⟩) n xs :=
  ⟨hn, fun _ => ⟨g, 0, rfl, h.lt, fun i x hx j v hv => by
    rw [Nat.zero_add, h.cell, ← Array.getElem?_toList, e]
    exact bflat_at hk xs i x hx hv⟩⟩
theorem better_any (p q : Bd) (w : World) : Calls Tryz.prog 122 #[.agg #[.int .i64 p.1, .int .u32 p.2], .agg #[.int .i64 q.1, .int .u32 q.2]] w fun e w' => e = .returned (.bool (beats p q)) ∧ Below w.heap.size w w' := by
  obtain ⟨a, b⟩ := p
  obtain ⟨c, d⟩ := q
  have HE : Hid (beats (a, b) (c, d) = if a = c then decide (d < b) else decide (c < a)) := Lib.hid rfl
  go_enter Tryz.func122, Tryz.ntmps122
  by_cases h : a = c
  · have h1 : (a != c) = false := by simpa using h
    go_wp2
    go_ret
    exact ⟨by rw [HE.out, if_pos h]; rfl, ((Below.refl w.heap.size w).alloc (Nat.le_refl _) _).alloc (by simp) _⟩
  · have h1 : (a != c) = true := by simpa using h
    go_wp2
    go_ret
    exact ⟨by rw [HE.out, if_neg h]; rfl, ((Below.refl w.heap.size w).alloc (Nat.le_refl _) _).alloc (by simp) _⟩
set_option maxRecDepth 100000 in
set_option maxHeartbeats 2000000 in
theorem best_any (A : Option Addr) (n c : Nat) (xs : List Bd) (w : World) (h : RI CBd 2 w A n xs) (hn : n ≤ 1048576) :
    Calls Tryz.prog 71 #[.slice A n c] w fun e w' => e = .returned (.tuple #[.int .i64 (bestP xs n), .bool (decide (0 < n))]) ∧ Below w.heap.size w w' := by
  have HR : Hid (∀ W, Below w.heap.size w W → RI CBd 2 W A n xs) := Lib.hid fun W hW => h.next hW
  clear h
  go_enter Tryz.func71, Tryz.ntmps71
  go_wp2_with fail
  go_loopw [4, 9] (fun bst i wr => ∃ k : Nat, k ≤ n ∧ bst = .int .i64 (bestP xs k) ∧ i = .int .i64 k ∧ Below w.heap.size w wr) (fun _ i _ => n - (intOf i).toNat)
  case atStart => exact ⟨0, by omega, rfl, rfl, Below.refl _ _⟩
  case round =>
    obtain ⟨k, hk, rfl, rfl, hb⟩ := hrel
    have HB := Lib.hid hb
    rcases Nat.lt_or_ge k n with hlt | hge
    · obtain ⟨b, o, x, rfl, hbl, hx, hc⟩ := (HR.out wr hb).at_ hlt
      have hlt' : (k : Int) < (n : Int) := by omega
      have hk0 : (0 : Int) ≤ (k : Int) := by omega
      have c0 : wr.cell? ⟨b, o + k * 2, none⟩ = some (.int .i64 x.1) := hc 0 _ rfl
      have c1 : wr.cell? ⟨b, o + k * 2 + 1, none⟩ = some (.int .u32 x.2) := hc 1 _ rfl
      have hq := bestP_lt xs k
      have HX : Hid (xs.getD k (0, 0) = x) := Lib.hid (by rw [List.getD_eq_getElem?_getD, hx]; rfl)
      have HS : Hid (bestP xs (k + 1) = if beats x (xs.getD (bestP xs k) (0, 0)) then k else bestP xs k) := Lib.hid (by rw [← HX.out]; rfl)
      generalize hbq : bestP xs k = q at *
      obtain ⟨b', o', y, e1, hbl', hy, hc'⟩ := (HR.out wr hb).at_ (show q < n by omega)
      obtain ⟨rfl, rfl⟩ : b = b' ∧ o = o' := by cases e1; exact ⟨rfl, rfl⟩
      have hqn : (q : Int) < (n : Int) := by omega
      have HY : Hid (xs.getD q (0, 0) = y) := Lib.hid (by rw [List.getD_eq_getElem?_getD, hy]; rfl)
      have d0 : ∀ W, Below wr.heap.size wr W → W.cell? ⟨b, o + q * 2, none⟩ = some (.int .i64 y.1) := fun W hW => (hW.cell (p := ⟨b, o + q * 2, none⟩) hbl).trans (hc' 0 _ rfl)
      have d1 : ∀ W, Below wr.heap.size wr W → W.cell? ⟨b, o + q * 2 + 1, none⟩ = some (.int .u32 y.2) := fun W hW => (hW.cell (p := ⟨b, o + q * 2 + 1, none⟩) hbl).trans (hc' 1 _ rfl)
      clear hc hc' hx hy e1 hq hbq hb
      go_upto_region 5 with fail
      have HB1 := Lib.hid (HB.out.alloc HB.out.size (.cells #[.int .i64 x.1, .int .u32 x.2] 152))
      have e0 : (wr.alloc (.cells #[.int .i64 x.1, .int .u32 x.2] 152)).cell? ⟨wr.heap.size, 0, none⟩ = some (.int .i64 x.1) := by go_simp
      have e1 : (wr.alloc (.cells #[.int .i64 x.1, .int .u32 x.2] 152)).cell? ⟨wr.heap.size, 1, none⟩ = some (.int .u32 x.2) := by go_simp
      have hl1 : wr.heap.size < (wr.alloc (.cells #[.int .i64 x.1, .int .u32 x.2] 152)).heap.size := by simp
      have hab := (Below.refl wr.heap.size wr).alloc (Nat.le_refl _) (.cells #[.int .i64 x.1, .int .u32 x.2] 152)
      generalize wr.alloc (.cells #[.int .i64 x.1, .int .u32 x.2] 152) = wa at *
      replace d0 := Snc.all fun W (hW : Below wa.heap.size wa W) => d0 W (hab.trans (hW.mono hab.size))
      replace d1 := Snc.all fun W (hW : Below wa.heap.size wa W) => d1 W (hab.trans (hW.mono hab.size))
      replace e0 := Snc.all fun W (hW : Below wa.heap.size wa W) => (hW.cell (p := ⟨wr.heap.size, 0, none⟩) hl1).trans e0
      replace e1 := Snc.all fun W (hW : Below wa.heap.size wa W) => (hW.cell (p := ⟨wr.heap.size, 1, none⟩) hl1).trans e1
      clear c0 c1 hl1 hab hbl hbl' HB
      rw [HY.out] at HS
      cases hbt : beats x y with
      | false =>
        have RB : ∀ W, Calls Tryz.prog 122 #[.agg #[.int .i64 x.1, .int .u32 x.2], .agg #[.int .i64 y.1, .int .u32 y.2]] W fun e w' => e = .returned (.bool false) ∧ Below W.heap.size W w' := fun W => by
          have := better_any x y W
          rw [hbt] at this
          exact this
        rw [hbt, if_neg (by decide)] at HS
        refine wp_region_since (by kernel_rfl) (by kernel_rfl) ?_
        repeat (go_big_quiet_step ((go_at_call 122; exact Calls.since (RB _))))
        refine wpQuiet_nil ?_
        rintro w5 ⟨⟨w6, hb6⟩, rfl⟩
        have hB6 := below_next HB1.out hb6
        clear hb6 d0 d1 e0 e1 RB hbt
        go_wp2
        go_roundw
        case rel => exact ⟨k + 1, by omega, by rw [HS.out], by go_num, hB6⟩
        case measure => simp [intOf]; omega
      | true =>
        have RB : ∀ W, Calls Tryz.prog 122 #[.agg #[.int .i64 x.1, .int .u32 x.2], .agg #[.int .i64 y.1, .int .u32 y.2]] W fun e w' => e = .returned (.bool true) ∧ Below W.heap.size W w' := fun W => by
          have := better_any x y W
          rw [hbt] at this
          exact this
        rw [hbt, if_pos rfl] at HS
        refine wp_region_since (by kernel_rfl) (by kernel_rfl) ?_
        repeat (go_big_quiet_step ((go_at_call 122; exact Calls.since (RB _))))
        refine wpQuiet_nil ?_
        rintro w5 ⟨⟨w6, hb6⟩, rfl⟩
        have hB6 := below_next HB1.out hb6
        clear hb6 d0 d1 e0 e1 RB hbt
        go_wp2
        go_roundw
        case rel => exact ⟨k + 1, by omega, by rw [HS.out], by go_num, hB6⟩
        case measure => simp [intOf]; omega
    · obtain rfl : k = n := by omega
      have hlt' : decide ((k : Int) < (k : Int)) = false := by simp
      go_wp2
      go_ret2
      refine ⟨?_, HB.out⟩
      simp
/-- the chapter's examples -/
theorem first12_any (w : World) : Calls Tryz.prog 27 #[] w fun e w' => e = .returned (.bool true) ∧ Below w.heap.size w w' := by
  have hb1 := (Below.refl w.heap.size w).alloc (Nat.le_refl _) (.cells #[.int .i64 1, .int .u32 0] 152)
  have HB1 := Lib.hid hb1
  have H1 := Lib.hid (RI.of_blk (enc := CBd) (k := 2) (xs := [(1, 0)]) (n := 1) (fun _ => rfl) (Blk.new w 152 #[.int .i64 1, .int .u32 0]) rfl rfl)
  clear hb1
  go_enter Tryz.func27, Tryz.ntmps27
  go_wp2_with (first
    | (go_at_call 71; with_reducible refine (best_any _ 1 _ _ _ H1.out (by decide)).mono ?_; rintro e w1 ⟨rfl, hb1⟩; have HB2 := Lib.hid (below_next HB1.out hb1); clear hb1)
    | (go_at_call 71; refine (best_any none 0 0 [] _ (RI.none_ _ _ _ _) (by decide)).mono ?_; rintro e w2 ⟨rfl, hb2⟩; have HB3 := Lib.hid (below_next HB2.out hb2); clear hb2))
  go_ret
  exact ⟨rfl, HB3.out⟩
end Go.Proofs.YtdljpokhcfhhfaaGreatDoor

