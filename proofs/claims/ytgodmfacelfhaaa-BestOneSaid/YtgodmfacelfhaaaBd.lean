/- Who forwards: which of two bids is better, which of some is the best. -/
import Derived.Test.YtgodmfacelfhaaaBb
import Derived.Shelf.Abstract
namespace Go.Proofs.Ytgodmfacelfhaaa
open Go.RowKit
def cheaper (p q : Bd) : Bool := if p.1 = q.1 then decide (q.2 < p.2) else decide (p.1 < q.1)
def leastB (xs : List Bd) : Nat → Nat
  | 0 => 0
  | k + 1 => if cheaper (xs.getD k (0, 0)) (xs.getD (leastB xs k) (0, 0)) then k else leastB xs k
theorem leastB_lt (xs : List Bd) (k : Nat) : leastB xs k ≤ k - 1 := by
  induction k with
  | zero => exact Nat.le_refl _
  | succ k ih => unfold leastB; split <;> omega
theorem bbetter_any (p q : Bd) (w : World) : Calls Try.prog 10 #[.agg #[.int .i64 p.1, .int .u32 p.2], .agg #[.int .i64 q.1, .int .u32 q.2]] w fun e w' => e = .returned (.bool (cheaper p q)) ∧ Below w.heap.size w w' := by
  obtain ⟨a, b⟩ := p
  obtain ⟨c, d⟩ := q
  have HE : Hid (cheaper (a, b) (c, d) = if a = c then decide (d < b) else decide (a < c)) := Lib.hid rfl
  go_enter Try.func10, Try.ntmps10
  by_cases h : a = c
  · have h1 : (a != c) = false := by simpa using h
    go_wp2
    go_ret
    exact ⟨by rw [HE.out, if_pos h]; rfl, ((Below.refl w.heap.size w).alloc (Nat.le_refl _) _).alloc (by simp) _⟩
  · have h1 : (a != c) = true := by simpa using h
    go_wp2
    go_ret
    exact ⟨by rw [HE.out, if_neg h]; rfl, ((Below.refl w.heap.size w).alloc (Nat.le_refl _) _).alloc (by simp) _⟩
set_option maxRecDepth 100000 in
set_option maxHeartbeats 2000000 in
theorem bbest_any (A : Option Addr) (n c : Nat) (xs : List Bd) (w : World) (h : RI CBd 2 w A n xs) (hn : n ≤ 1048576) :
    Calls Try.prog 8 #[.slice A n c] w fun e w' => e = .returned (.tuple #[.int .i64 (leastB xs n), .bool (decide (0 < n))]) ∧ Below w.heap.size w w' := by
  have HR : Hid (∀ W, Below w.heap.size w W → RI CBd 2 W A n xs) := Lib.hid fun W hW => h.next hW
  clear h
  go_enter Try.func8, Try.ntmps8
  go_wp2_with fail
  go_loopw [4, 9] (fun bst i wr => ∃ k : Nat, k ≤ n ∧ bst = .int .i64 (leastB xs k) ∧ i = .int .i64 k ∧ Below w.heap.size w wr) (fun _ i _ => n - (intOf i).toNat)
  case atStart => exact ⟨0, by omega, rfl, rfl, Below.refl _ _⟩
  case round =>
    obtain ⟨k, hk, rfl, rfl, hb⟩ := hrel
    have HB := Lib.hid hb
    rcases Nat.lt_or_ge k n with hlt | hge
    · obtain ⟨b, o, x, rfl, hbl, hx, hc⟩ := (HR.out wr hb).at_ hlt
      have hlt' : (k : Int) < (n : Int) := by omega
      have hk0 : (0 : Int) ≤ (k : Int) := by omega
      have c0 : wr.cell? ⟨b, o + k * 2, none⟩ = some (.int .i64 x.1) := hc 0 _ rfl
      have c1 : wr.cell? ⟨b, o + k * 2 + 1, none⟩ = some (.int .u32 x.2) := hc 1 _ rfl
      have hq := leastB_lt xs k
      have HX : Hid (xs.getD k (0, 0) = x) := Lib.hid (by rw [List.getD_eq_getElem?_getD, hx]; rfl)
      have HS : Hid (leastB xs (k + 1) = if cheaper x (xs.getD (leastB xs k) (0, 0)) then k else leastB xs k) := Lib.hid (by rw [← HX.out]; rfl)
      generalize hbq : leastB xs k = q at *
      obtain ⟨b', o', y, e1, hbl', hy, hc'⟩ := (HR.out wr hb).at_ (show q < n by omega)
      obtain ⟨rfl, rfl⟩ : b = b' ∧ o = o' := by cases e1; exact ⟨rfl, rfl⟩
      have hqn : (q : Int) < (n : Int) := by omega
      have HY : Hid (xs.getD q (0, 0) = y) := Lib.hid (by rw [List.getD_eq_getElem?_getD, hy]; rfl)
      have d0 : ∀ W, Below wr.heap.size wr W → W.cell? ⟨b, o + q * 2, none⟩ = some (.int .i64 y.1) := fun W hW => (hW.cell (p := ⟨b, o + q * 2, none⟩) hbl).trans (hc' 0 _ rfl)
      have d1 : ∀ W, Below wr.heap.size wr W → W.cell? ⟨b, o + q * 2 + 1, none⟩ = some (.int .u32 y.2) := fun W hW => (hW.cell (p := ⟨b, o + q * 2 + 1, none⟩) hbl).trans (hc' 1 _ rfl)
      clear hc hc' hx hy e1 hq hbq hb
      go_upto_region 5 with fail
      have HB1 := Lib.hid (HB.out.alloc HB.out.size (.cells #[.int .i64 x.1, .int .u32 x.2] 30))
      have e0 : (wr.alloc (.cells #[.int .i64 x.1, .int .u32 x.2] 30)).cell? ⟨wr.heap.size, 0, none⟩ = some (.int .i64 x.1) := by go_simp
      have e1 : (wr.alloc (.cells #[.int .i64 x.1, .int .u32 x.2] 30)).cell? ⟨wr.heap.size, 1, none⟩ = some (.int .u32 x.2) := by go_simp
      have hl1 : wr.heap.size < (wr.alloc (.cells #[.int .i64 x.1, .int .u32 x.2] 30)).heap.size := by simp
      have hab := (Below.refl wr.heap.size wr).alloc (Nat.le_refl _) (.cells #[.int .i64 x.1, .int .u32 x.2] 30)
      generalize wr.alloc (.cells #[.int .i64 x.1, .int .u32 x.2] 30) = wa at *
      replace d0 := Snc.all fun W (hW : Below wa.heap.size wa W) => d0 W (hab.trans (hW.mono hab.size))
      replace d1 := Snc.all fun W (hW : Below wa.heap.size wa W) => d1 W (hab.trans (hW.mono hab.size))
      replace e0 := Snc.all fun W (hW : Below wa.heap.size wa W) => (hW.cell (p := ⟨wr.heap.size, 0, none⟩) hl1).trans e0
      replace e1 := Snc.all fun W (hW : Below wa.heap.size wa W) => (hW.cell (p := ⟨wr.heap.size, 1, none⟩) hl1).trans e1
      clear c0 c1 hl1 hab hbl hbl' HB
      rw [HY.out] at HS
      cases hbt : cheaper x y with
      | false =>
        have RB : ∀ W, Calls Try.prog 10 #[.agg #[.int .i64 x.1, .int .u32 x.2], .agg #[.int .i64 y.1, .int .u32 y.2]] W fun e w' => e = .returned (.bool false) ∧ Below W.heap.size W w' := fun W => by
          have := bbetter_any x y W
          rw [hbt] at this
          exact this
        rw [hbt, if_neg (by decide)] at HS
        refine wp_region_since (by kernel_rfl) (by kernel_rfl) ?_
        repeat (go_big_quiet_step ((go_at_call 10; exact Calls.since (RB _))))
        refine wpQuiet_nil ?_
        rintro w5 ⟨⟨w6, hb6⟩, rfl⟩
        have hB6 := below_next HB1.out hb6
        clear hb6 d0 d1 e0 e1 RB hbt
        go_wp2
        go_roundw
        case rel => exact ⟨k + 1, by omega, by rw [HS.out], by go_num, hB6⟩
        case measure => simp [intOf]; omega
      | true =>
        have RB : ∀ W, Calls Try.prog 10 #[.agg #[.int .i64 x.1, .int .u32 x.2], .agg #[.int .i64 y.1, .int .u32 y.2]] W fun e w' => e = .returned (.bool true) ∧ Below W.heap.size W w' := fun W => by
          have := bbetter_any x y W
          rw [hbt] at this
          exact this
        rw [hbt, if_pos rfl] at HS
        refine wp_region_since (by kernel_rfl) (by kernel_rfl) ?_
        repeat (go_big_quiet_step ((go_at_call 10; exact Calls.since (RB _))))
        refine wpQuiet_nil ?_
        rintro w5 ⟨⟨w6, hb6⟩, rfl⟩
        have hB6 := below_next HB1.out hb6
        clear hb6 d0 d1 e0 e1 RB hbt
        go_wp2
        go_roundw
        case rel => exact ⟨k + 1, by omega, by rw [HS.out], by go_num, hB6⟩
        case measure => simp [intOf]; omega
    · obtain rfl : k = n := by omega
      have hlt' : decide ((k : Int) < (k : Int)) = false := by simp
      go_wp2
      go_ret2
      refine ⟨?_, HB.out⟩
      simp
set_option maxHeartbeats 1000000 in
theorem idxB_any (g : Nat) (lb : Array Value) (eg : ∀ args w, (callFunc g args).run Try.prog w = .ok (.enter g args) w) (p : Bd → Bool) (A : Option Addr) (n c : Nat) (xs : List Bd) (w : World) (hr : RI CBd 2 w A n xs) (hn : n ≤ 1048576)
    (hp : ∀ (W : World) (x : Bd), Below w.heap.size w W → Calls Try.prog g (#[.agg #[.int .i64 x.1, .int .u32 x.2]] ++ lb) W fun e w' => e = .returned (.bool (p x)) ∧ Below W.heap.size W w') :
    Calls Try.prog 15 #[.slice A n c, .func (.func g) #[] lb] w fun e w' => (∃ v : Int, e = .returned (.int .i64 v) ∧ decide (0 ≤ v) = xs.any p) ∧ Below w.heap.size w w' := by
  have HP := Lib.hid hp
  have HR := Lib.hid hr
  have hB0 := Lib.hid (Below.refl w.heap.size w)
  clear hp hr
  go_enter Try.func15, Try.ntmps15
  go_wp2
  go_loopw [8] (fun i wr => ∃ k : Nat, k ≤ n ∧ i = .int .i64 k ∧ Hid (∀ (j : Nat) x, j < k → xs[j]? = some x → p x = false) ∧ Hid (Below w.heap.size w wr)) (fun i _ => n - (intOf i).toNat)
  case atStart => exact ⟨0, Nat.zero_le _, rfl, fun j x hj => absurd hj (Nat.not_lt_zero _), hB0⟩
  case round =>
    obtain ⟨k, hk, rfl, hno, hbw⟩ := hrel
    rcases Nat.lt_or_ge k n with hlt | hge
    · obtain ⟨bq, oq, x, rfl, hb, hx, hc⟩ := RI.at_ (RI.next HR.out hbw.out) hlt
      have hcall := Lib.hid (HP.out wr x hbw.out)
      have hi0 : (k : Int) < n := by omega
      have HX := Lib.hid hx
      clear hx
      have h0 : wr.cell? ⟨bq, oq + k * 2, none⟩ = some (.int .i64 x.1) := hc 0 _ rfl
      have h1 : wr.cell? ⟨bq, oq + k * 2 + 1, none⟩ = some (.int .u32 x.2) := hc 1 _ rfl
      clear hc
      cases hq : p x with
      | true =>
        have HQ := Lib.hid hq
        rw [hq] at hcall
        clear hq
        go_wp2_with (go_at_fn g; refine hcall.out.mono ?_; rintro e w1 ⟨rfl, hb1⟩; have HB1 := Lib.hid (below_next hbw.out hb1); clear hb1)
        go_ret
        refine ⟨⟨_, rfl, ?_⟩, HB1.out⟩
        rw [List.any_eq_true.2 ⟨x, List.mem_of_getElem? HX.out, HQ.out⟩]
        simp
      | false =>
        have HQ := Lib.hid hq
        rw [hq] at hcall
        clear hq
        go_wp2_with (go_at_fn g; refine hcall.out.mono ?_; rintro e w1 ⟨rfl, hb1⟩; have HB1 := Lib.hid (below_next hbw.out hb1); clear hb1)
        go_roundw
        case rel => exact ⟨k + 1, by omega, by go_num, (show Hid _ from fun j y hj hy => by
            by_cases e : j = k
            · subst e; rw [HX.out] at hy; injection hy with hy; rw [← hy]; exact HQ.out
            · exact hno.out j y (by omega) hy), HB1⟩
        case measure => simp [intOf]; omega
    · obtain rfl : k = n := by omega
      have HE := Lib.hid (show xs.any p = false by
        rw [List.any_eq_false]
        intro x hx
        obtain ⟨j, hj⟩ := List.mem_iff_getElem?.1 hx
        have := hno.out j x (by have := (List.getElem?_eq_some_iff.1 hj).1; rw [HR.out.len] at this; exact this) hj
        simp [this])
      clear hno
      go_wp2
      go_ret
      refine ⟨⟨_, rfl, ?_⟩, hbw.out⟩
      rw [HE.out]; simp
theorem hasB_any (g : Nat) (lb : Array Value) (eg : ∀ args w, (callFunc g args).run Try.prog w = .ok (.enter g args) w) (p : Bd → Bool) (A : Option Addr) (n c : Nat) (xs : List Bd) (w : World) (hr : RI CBd 2 w A n xs) (hn : n ≤ 1048576)
    (hp : ∀ (W : World) (x : Bd), Below w.heap.size w W → Calls Try.prog g (#[.agg #[.int .i64 x.1, .int .u32 x.2]] ++ lb) W fun e w' => e = .returned (.bool (p x)) ∧ Below W.heap.size W w') :
    Calls Try.prog 12 #[.slice A n c, .func (.func g) #[] lb] w fun e w' => e = .returned (.bool (xs.any p)) ∧ Below w.heap.size w w' := by
  have H := Lib.hid (idxB_any g lb eg p A n c xs w hr hn hp)
  clear hp hr
  generalize xs.any p = r at *
  go_enter Try.func12, Try.ntmps12
  go_wp2_with (go_at_call 15; refine H.out.mono ?_; rintro e w1 ⟨⟨v, rfl, HA⟩, hb1⟩)
  go_ret
  exact ⟨by rw [← HA]; rfl, hb1⟩
/-- one bid is better than the one that the closure holds -/
theorem cheapfn_any (a b : Int) (g : Nat) (w : World) (h0 : w.cell? ⟨g, 0, none⟩ = some (.int .i64 a)) (h1 : w.cell? ⟨g, 1, none⟩ = some (.int .u32 b)) (hl : g < w.heap.size) (x : Bd) :
    Calls Try.prog 13 #[.agg #[.int .i64 x.1, .int .u32 x.2], .pointer (some ⟨g, 0, none⟩)] w fun e w' => e = .returned (.bool (cheaper x (a, b))) ∧ Below w.heap.size w w' := by
  have hb0 := (Below.refl w.heap.size w).alloc (Nat.le_refl _) (.cells #[.int .i64 x.1, .int .u32 x.2] 30)
  have HB0 := Lib.hid hb0
  have f0 := (hb0.cell (p := ⟨g, 0, none⟩) hl).trans h0
  have f1 := (hb0.cell (p := ⟨g, 1, none⟩) hl).trans h1
  have H := Lib.hid fun W => bbetter_any x (a, b) W
  clear hb0
  go_enter Try.func13, Try.ntmps13
  go_wp2_with (go_at_call 10; (with_reducible refine (H.out _).mono ?_); rintro e w1 ⟨rfl, hb1⟩; have HB1 := Lib.hid (below_next HB0.out hb1); clear hb1)
  go_ret
  exact ⟨rfl, HB1.out⟩
def lostP (own : Bd) (ex : Bool) (no : Nat) (same : List Bd) : Bool := (!ex && decide (0 < no)) || same.any fun x => cheaper x own
theorem lost_any (a b : Int) (ex : Bool) (A : Option Addr) (n c : Nat) (xs : List Bd) (B : Option Addr) (m d : Nat) (w : World) (h : RI CBd 2 w A n xs) (hn : n ≤ 1048576) :
    Calls Try.prog 9 #[.agg #[.int .i64 a, .int .u32 b], .bool ex, .slice A n c, .slice B m d] w fun e w' => e = .returned (.bool (lostP (a, b) ex m xs)) ∧ Below w.heap.size w w' := by
  have hb0 := (Below.refl w.heap.size w).alloc (Nat.le_refl _) (.cells #[.int .i64 a, .int .u32 b] 30)
  have HB0 := Lib.hid hb0
  have hl : w.heap.size < (w.alloc (.cells #[.int .i64 a, .int .u32 b] 30)).heap.size := by simp
  have f0 : (w.alloc (.cells #[.int .i64 a, .int .u32 b] 30)).cell? ⟨w.heap.size, 0, none⟩ = some (.int .i64 a) := by go_simp
  have f1 : (w.alloc (.cells #[.int .i64 a, .int .u32 b] 30)).cell? ⟨w.heap.size, 1, none⟩ = some (.int .u32 b) := by go_simp
  have HC := Lib.hid fun c => hasB_any 13 #[.pointer (some ⟨w.heap.size, 0, none⟩)] (fun _ _ => rfl) (fun x => cheaper x (a, b)) A n c xs _ (h.next hb0) hn
    (fun W x hW => cheapfn_any a b w.heap.size W ((hW.cell (p := ⟨w.heap.size, 0, none⟩) hl).trans f0) ((hW.cell (p := ⟨w.heap.size, 1, none⟩) hl).trans f1) (Nat.lt_of_lt_of_le hl hW.size) x)
  have HE : Hid (lostP (a, b) ex m xs = ((!ex && decide (0 < m)) || xs.any fun x => cheaper x (a, b))) := Lib.hid rfl
  clear f0 f1 hb0 hl h
  generalize lostP (a, b) ex m xs = R at *
  generalize (xs.any fun x => cheaper x (a, b)) = r at *
  go_enter Try.func9, Try.ntmps9
  cases ex with
  | true =>
    go_wp2_with (go_at_call 12; (with_reducible refine (HC.out _).mono ?_); rintro e w1 ⟨rfl, hb1⟩; have HB1 := Lib.hid (below_next HB0.out hb1); clear hb1)
    go_ret
    exact ⟨by rw [HE.out]; simp, HB1.out⟩
  | false =>
    by_cases hm : 0 < m
    · have hm1 : (0 : Int) < (m : Int) := by omega
      go_wp2
      go_ret
      exact ⟨by rw [HE.out]; simp [hm], HB0.out⟩
    · have hm1 : ¬ (0 : Int) < (m : Int) := by omega
      have hm2 : decide ((0 : Int) < (m : Int)) = false := by simpa using hm1
      go_wp2_with (go_at_call 12; (with_reducible refine (HC.out _).mono ?_); rintro e w1 ⟨rfl, hb1⟩; have HB1 := Lib.hid (below_next HB0.out hb1); clear hb1)
      go_ret
      exact ⟨by rw [HE.out]; simp [hm], HB1.out⟩
/-- the chapter's examples -/
theorem first18_any (w : World) : Calls Try.prog 7 #[] w fun e w' => e = .returned (.bool true) ∧ Below w.heap.size w w' := by
  have hb1 := (Below.refl w.heap.size w).alloc (Nat.le_refl _) (.cells #[.int .i64 5, .int .u32 0, .int .i64 4, .int .u32 0] 30)
  have HB1 := Lib.hid hb1
  have H1 := Lib.hid (RI.of_blk (enc := CBd) (k := 2) (xs := [(5, 0), (4, 0)]) (n := 2) (fun _ => rfl) (Blk.new w 30 #[.int .i64 5, .int .u32 0, .int .i64 4, .int .u32 0]) rfl rfl)
  clear hb1
  go_enter Try.func7, Try.ntmps7
  go_wp2_with (first
    | (go_at_call 8; with_reducible refine (bbest_any _ 2 _ _ _ H1.out (by decide)).mono ?_; rintro e w1 ⟨rfl, hb1⟩; have HB2 := Lib.hid (below_next HB1.out hb1); clear hb1)
    | (go_at_call 9; refine (lost_any 0 0 true none 0 0 [] none 0 0 _ (RI.none_ _ _ _ _) (by decide)).mono ?_; rintro e w2 ⟨rfl, hb2⟩; have HB3 := Lib.hid (below_next HB2.out hb2); clear hb2))
  go_ret
  exact ⟨rfl, HB3.out⟩
end Go.Proofs.Ytgodmfacelfhaaa

