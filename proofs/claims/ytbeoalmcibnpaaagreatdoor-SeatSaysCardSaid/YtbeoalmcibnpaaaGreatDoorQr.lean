/- The least of addresses, a router's turn a tick later; over the seat's program. -/
import Derived.Test.YtbeoalmcibnpaaaGreatDoorAs
import Derived.Test.YtbeoalmcibnpaaaGreatDoorKit
import Derived.Test.YtbeoalmcibnpaaaGreatDoorBytes
import Derived.Deep.Cut
import Derived.Test.YtbeoalmcibnpaaaGreatDoorProg
namespace Go.Proofs.YtbeoalmcibnpaaaGreatDoor
open Go.RowKit Sm
def leastP (xs : List Int) : Nat → Nat
  | 0 => 0
  | k + 1 => if xs.getD k 0 < xs.getD (leastP xs k) 0 then k else leastP xs k
theorem leastP_lt (xs : List Int) (k : Nat) : leastP xs k ≤ k - 1 := by
  induction k with
  | zero => exact Nat.le_refl _
  | succ k ih => unfold leastP; split <;> omega
theorem leastP_all (xs : List Int) : ∀ k, (∀ i, i < k → ¬ xs.getD i 0 < xs.getD (leastP xs k) 0) ∧ (∀ i, i < leastP xs k → xs.getD (leastP xs k) 0 < xs.getD i 0)
  | 0 => ⟨fun i hi => by omega, fun i hi => by unfold leastP at hi; omega⟩
  | k + 1 => by
    obtain ⟨h1, h2⟩ := leastP_all xs k
    have hq := leastP_lt xs k
    unfold leastP
    by_cases h : xs.getD k 0 < xs.getD (leastP xs k) 0
    · rw [if_pos h]
      refine ⟨fun i hi => ?_, fun i hi => ?_⟩
      · rcases Nat.lt_or_ge i k with hi | hi
        · have := h1 i hi; omega
        · obtain rfl : i = k := by omega
          omega
      · have := h1 i hi; omega
    · rw [if_neg h]
      refine ⟨fun i hi => ?_, h2⟩
      rcases Nat.lt_or_ge i k with hi | hi
      · exact h1 i hi
      · obtain rfl : i = k := by omega
        exact h
theorem leastP_app (xs : List Int) (a : Int) : ∀ k, k ≤ xs.length → leastP (xs ++ [a]) k = leastP xs k
  | 0, _ => rfl
  | k + 1, h => by
    have ih := leastP_app xs a k (by omega)
    have hq := leastP_lt xs k
    have e1 : (xs ++ [a]).getD k 0 = xs.getD k 0 := by simp [List.getD_eq_getElem?_getD, List.getElem?_append_left (show k < xs.length by omega)]
    have e2 : (xs ++ [a]).getD (leastP xs k) 0 = xs.getD (leastP xs k) 0 := by simp [List.getD_eq_getElem?_getD, List.getElem?_append_left (show leastP xs k < xs.length by omega)]
    unfold leastP
    rw [ih, e1, e2]
/-- the least address is less than one's own -/
def lessP (xs : List Int) (own : Int) : Bool := decide (0 < xs.length) && decide (xs.getD (leastP xs xs.length) 0 < own)
/-- a router's turn a tick later: whether it asks, for how long it leaves that to another one -/
def qstepP (o own : Int) (xs : List Int) : Int × Int :=
  if lessP xs own = true then (0, 3) else if max o 1 - 1 > 0 then (0, max o 1 - 1) else (1, 0)
set_option maxRecDepth 100000 in
set_option maxHeartbeats 2000000 in
theorem least_any (A : Option Addr) (n c : Nat) (xs : List Int) (w : World) (h : AR w A n xs) (hn : n ≤ 1048576) :
    Calls Tryz.prog 64 #[.slice A n c] w fun e w' => e = .returned (.tuple #[.int .i64 (leastP xs n), .bool (decide (0 < n))]) ∧ Below w.heap.size w w' := by
  have HR := Lib.hid h
  have hat : ∀ k, k < n → ∃ b o, A = some ⟨b, o, none⟩ ∧ w.cell? ⟨b, o + k, none⟩ = some (.int .u32 (xs.getD k 0)) := fun k hk => by
    obtain ⟨b, o, e, _, hc⟩ := h.at_ hk
    exact ⟨b, o, e, hc⟩
  clear h
  go_enter Tryz.func64, Tryz.ntmps64
  go_wp2_with fail
  go_loopw [4, 9] (fun bst i wr => ∃ k : Nat, k ≤ n ∧ bst = .int .i64 (leastP xs k) ∧ i = .int .i64 k ∧ wr = w) (fun _ i _ => n - (intOf i).toNat)
  case atStart => exact ⟨0, by omega, rfl, rfl, rfl⟩
  case round =>
    obtain ⟨k, hk, rfl, rfl, rfl⟩ := hrel
    rcases Nat.lt_or_ge k n with hlt | hge
    · obtain ⟨b, o, rfl, hc⟩ := hat k hlt
      have hq := leastP_lt xs k
      have HS : Hid (leastP xs (k + 1) = if xs.getD k 0 < xs.getD (leastP xs k) 0 then k else leastP xs k) := Lib.hid rfl
      have HQ : Hid (leastP xs k < n) := Lib.hid (by omega)
      generalize leastP xs k = q at *
      obtain ⟨b', o', e1, hc'⟩ := hat q HQ.out
      obtain ⟨rfl, rfl⟩ : b = b' ∧ o = o' := by cases e1; exact ⟨rfl, rfl⟩
      have hlt' : (k : Int) < (n : Int) := by omega
      have hk0 : (0 : Int) ≤ (k : Int) := by omega
      have hqn : (q : Int) < (n : Int) := by have := HQ.out; omega
      have hq0 : (0 : Int) ≤ (q : Int) := by omega
      generalize xs.getD k 0 = x at *
      generalize xs.getD q 0 = y at *
      clear hat e1 hq
      by_cases hd : x < y
      · rw [if_pos hd] at HS
        have hd' : decide (x < y) = true := by simpa using hd
        go_wp2
        go_roundw
        case rel => exact ⟨k + 1, by omega, by rw [HS.out], by go_num, trivial⟩
        case measure => simp [intOf]; omega
      · rw [if_neg hd] at HS
        have hd' : decide (x < y) = false := by simpa using hd
        go_wp2
        go_roundw
        case rel => exact ⟨k + 1, by omega, by rw [HS.out], by go_num, trivial⟩
        case measure => simp [intOf]; omega
    · obtain rfl : k = n := by omega
      have hlt' : decide ((k : Int) < (k : Int)) = false := by simp
      go_wp2
      go_ret2
      refine ⟨?_, Below.refl _ _⟩
      simp
theorem lessP_of {xs : List Int} {n : Nat} (h : xs.length = n) (own : Int) : lessP xs own = (decide (0 < n) && decide (xs.getD (leastP xs n) 0 < own)) := by subst h; rfl
theorem ret_step (tm : Array Value) (N : Nat) (W : World) (v0 v1 : Value) (h2 : tm.getD 6 undef = .pointer (some ⟨N, 0, none⟩)) (c0 : W.cell? ⟨N, 0, none⟩ = some v0) (c1 : W.cell? ⟨N, 1, none⟩ = some v1) :
    (results Tryz.f65 tm).run Tryz.prog W = .ok (.agg #[v0, v1]) W := by
  have h2' : tm[6]?.getD undef = .pointer (some ⟨N, 0, none⟩) := by simpa using h2
  simp [results, Tryz.results65, go_sem, h2', c0, c1]
theorem qstore2 {W : World} {N b : Nat} {t : TypeId} {u0 u1 : Value} (h : Blk W N t #[u0, u1]) (hN : b ≤ N) (w : World) (hB : Below b w W) (v0 v1 : Value) : ∃ W2, W2 = (W.setCell ⟨N, 0, none⟩ v0).setCell ⟨N, 1, none⟩ v1 ∧ W2.cell? ⟨N, 0, none⟩ = some v0 ∧ W2.cell? ⟨N, 1, none⟩ = some v1 ∧ Below b w W2 := by
  have hk : Blk ((W.setCell ⟨N, 0, none⟩ v0).setCell ⟨N, 1, none⟩ v1) N t #[v0, v1] := (h.set_ 0 v0).set_ 1 v1
  exact ⟨_, rfl, hk.cell 0, hk.cell 1, (hB.setCell (by simpa using hN) _).setCell (by simpa using hN) _⟩
/-- the two blocks that a step lays: its turn, its answer -/
theorem step_new (w : World) (a b : Value) (t t' : TypeId) : ∃ W1, W1 = (w.alloc (.cells #[a, b] t)).alloc (.cells #[.int .i64 0, .int .i64 0] t') ∧ Below w.heap.size w W1 ∧ w.heap.size + 1 < W1.heap.size ∧ W1.cell? ⟨w.heap.size, 1, none⟩ = some b ∧ Blk W1 (w.heap.size + 1) t' #[.int .i64 0, .int .i64 0] := by
  refine ⟨_, rfl, ((Below.refl _ _).alloc (Nat.le_refl _) _).alloc (by simp) _, by simp, by go_simp, ?_⟩
  have := Blk.new (w.alloc (.cells #[a, b] t)) t' #[.int .i64 0, .int .i64 0]
  simpa using this
set_option maxRecDepth 100000 in
set_option maxHeartbeats 2000000 in
theorem step_any (k o own : Int) (A : Option Addr) (n c : Nat) (xs : List Int) (w : World) (h : AR w A n xs) (hn : n ≤ 1048576) (ho : -9223372036854775808 ≤ o ∧ o ≤ 9223372036854775807) :
    Calls Tryz.prog 65 #[.agg #[.int .i64 k, .int .i64 o], .int .u32 own, .slice A n c] w fun e w' => e = .returned (.agg #[.int .i64 (qstepP o own xs).1, .int .i64 (qstepP o own xs).2]) ∧ Below w.heap.size w w' := by
  have HR := Lib.hid h
  have HE : Hid (qstepP o own xs = if lessP xs own = true then (0, 3) else if max o 1 - 1 > 0 then (0, max o 1 - 1) else (1, 0)) := Lib.hid rfl
  have HL := Lib.hid (lessP_of h.len own)
  have HQ := Lib.hid (leastP_lt xs n)
  clear h
  obtain ⟨W1, hW1, hb1, hs1, hc1, hk1⟩ := step_new w (.int .i64 k) (.int .i64 o) 113 113
  have HB1 := Lib.hid hb1
  have HK1 := Lib.hid hk1
  have HC1 := Lib.hid hc1
  have HS1 := Lib.hid hs1
  have HR1 := Lib.hid (HR.out.next hb1)
  go_enter Tryz.func65, Tryz.ntmps65
  go_upto_region 1 with fail
  rw [← hW1]
  clear hW1 hb1 hs1 hc1 hk1
  have rest : ∀ w2, Below W1.heap.size W1 w2 → w2.cell? ⟨w.heap.size, 1, none⟩ = some (.int .i64 o) ∧ Blk w2 (w.heap.size + 1) 113 #[.int .i64 0, .int .i64 0] ∧ Below w.heap.size w w2 := fun w2 hb2 =>
    ⟨(hb2.cell (p := ⟨w.heap.size, 1, none⟩) (by have := HS1.out; simp; omega)).trans HC1.out, HK1.out.next hb2, HB1.out.trans (hb2.mono HB1.out.size)⟩
  have HST := Lib.hid rest
  clear rest
  rcases Nat.eq_zero_or_pos n with rfl | h0
  · have h1 : decide (0 < 0) = false := by simp
    rw [h1, Bool.false_and] at HL
    rw [HL.out, if_neg (by decide)] at HE
    go_upto_region 4 with (go_at_call 64; with_reducible refine (least_any A 0 c xs _ HR1.out hn).mono ?_; rintro e w2 ⟨rfl, hb2⟩; obtain ⟨hc2, hk2, hb3⟩ := HST.out w2 hb2; have HB2 := Lib.hid hb3; have HK2 := Lib.hid hk2; have HR2 := Lib.hid (HR1.out.next hb2); clear hb2 hb3 hk2)
    rcases Int.lt_or_le 1 o with ho1 | ho1
    · rw [show max o 1 - 1 = o - 1 by omega, if_pos (by omega)] at HE
      have hm : ¬ o < 1 := by omega
      have hm2 : (0 : Int) < o - 1 := by omega
      go_upto_region 5 with fail
      have z0 := HK2.out.cell 0
      have z1 := HK2.out.cell 1
      have zf := HK2.out.frozen 0
      have zg := HK2.out.frozen 1
      go_wp2
      obtain ⟨W3, hW3, c0, c1, hB3⟩ := qstore2 HK2.out (Nat.le_succ w.heap.size) w HB2.out (.int .i64 0) (.int .i64 (o - 1))
      rw [← hW3]
      clear hW3
      refine bodyPost_ret (ret_step _ (w.heap.size + 1) _ _ _ rfl c0 c1) rfl ?_
      exact ⟨by rw [HE.out], hB3⟩
    · rw [show max o 1 - 1 = 0 by omega, if_neg (by decide)] at HE
      have hm : (if o < 1 then 1 else o) = 1 := by split <;> omega
      go_upto_region 5 with fail
      have z0 := HK2.out.cell 0
      have z1 := HK2.out.cell 1
      have zf := HK2.out.frozen 0
      have zg := HK2.out.frozen 1
      go_wp2
      obtain ⟨W3, hW3, c0, c1, hB3⟩ := qstore2 HK2.out (Nat.le_succ w.heap.size) w HB2.out (.int .i64 1) (.int .i64 0)
      rw [← hW3]
      clear hW3
      refine bodyPost_ret (ret_step _ (w.heap.size + 1) _ _ _ rfl c0 c1) rfl ?_
      exact ⟨by rw [HE.out], hB3⟩
  · have h1 : decide (0 < n) = true := by simp; omega
    rw [h1, Bool.true_and] at HL
    go_upto_region 2 with (go_at_call 64; with_reducible refine (least_any A n c xs _ HR1.out hn).mono ?_; rintro e w2 ⟨rfl, hb2⟩; obtain ⟨hc2, hk2, hb3⟩ := HST.out w2 hb2; have HB2 := Lib.hid hb3; have HK2 := Lib.hid hk2; have HR2 := Lib.hid (HR1.out.next hb2); clear hb2 hb3 hk2)
    obtain ⟨b, o', rfl, _, hx⟩ := HR2.out.at_ (k := leastP xs n) (by have := HQ.out; omega)
    have hq0 : (0 : Int) ≤ (leastP xs n : Int) := by omega
    have hq1 : (leastP xs n : Int) < (n : Int) := by have := HQ.out; omega
    generalize xs.getD (leastP xs n) 0 = x at *
    generalize leastP xs n = q at *
    clear h1
    by_cases hd : x < own
    · have hd' : decide (x < own) = true := by simpa using hd
      rw [hd'] at HL
      rw [HL.out, if_pos rfl] at HE
      have HK3 := HK2
      have z0 := HK2.out.cell 0
      have z1 := HK2.out.cell 1
      have zf := HK2.out.frozen 0
      have zg := HK2.out.frozen 1
      go_wp2
      obtain ⟨W3, hW3, c0, c1, hB3⟩ := qstore2 HK2.out (Nat.le_succ w.heap.size) w HB2.out (.int .i64 0) (.int .i64 3)
      rw [← hW3]
      clear hW3
      refine bodyPost_ret (ret_step _ (w.heap.size + 1) _ _ _ rfl c0 c1) rfl ?_
      exact ⟨by rw [HE.out], hB3⟩
    · have hd' : decide (x < own) = false := by simpa using hd
      rw [hd'] at HL
      rw [HL.out, if_neg (by decide)] at HE
      go_upto_region 4 with fail
      rcases Int.lt_or_le 1 o with ho1 | ho1
      · rw [show max o 1 - 1 = o - 1 by omega, if_pos (by omega)] at HE
        have hm : ¬ o < 1 := by omega
        have hm2 : (0 : Int) < o - 1 := by omega
        go_upto_region 5 with fail
        have z0 := HK2.out.cell 0
        have z1 := HK2.out.cell 1
        have zf := HK2.out.frozen 0
        have zg := HK2.out.frozen 1
        go_wp2
        obtain ⟨W3, hW3, c0, c1, hB3⟩ := qstore2 HK2.out (Nat.le_succ w.heap.size) w HB2.out (.int .i64 0) (.int .i64 (o - 1))
        rw [← hW3]
        clear hW3
        refine bodyPost_ret (ret_step _ (w.heap.size + 1) _ _ _ rfl c0 c1) rfl ?_
        exact ⟨by rw [HE.out], hB3⟩
      · rw [show max o 1 - 1 = 0 by omega, if_neg (by decide)] at HE
        have hm : (if o < 1 then 1 else o) = 1 := by split <;> omega
        go_upto_region 5 with fail
        have z0 := HK2.out.cell 0
        have z1 := HK2.out.cell 1
        have zf := HK2.out.frozen 0
        have zg := HK2.out.frozen 1
        go_wp2
        obtain ⟨W3, hW3, c0, c1, hB3⟩ := qstore2 HK2.out (Nat.le_succ w.heap.size) w HB2.out (.int .i64 1) (.int .i64 0)
        rw [← hW3]
        clear hW3
        refine bodyPost_ret (ret_step _ (w.heap.size + 1) _ _ _ rfl c0 c1) rfl ?_
        exact ⟨by rw [HE.out], hB3⟩
/-- the chapter's examples -/
theorem first13_any (w : World) : Calls Tryz.prog 63 #[] w fun e w' => e = .returned (.bool true) ∧ Below w.heap.size w w' := by
  have hs := step_any 0 0 5 none 0 0 [] w (AR.none_ _ _) (by decide) (by decide)
  rw [show qstepP 0 5 [] = (1, 0) by decide] at hs
  go_enter Tryz.func63, Tryz.ntmps63
  go_wp2_with (go_at_call 65; with_reducible refine hs.mono ?_; rintro e w1 ⟨rfl, hb1⟩)
  go_ret
  exact ⟨rfl, hb1.alloc hb1.size _⟩
end Go.Proofs.YtbeoalmcibnpaaaGreatDoor

