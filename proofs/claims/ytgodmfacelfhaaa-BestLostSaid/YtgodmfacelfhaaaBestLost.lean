/- The best of some bids is never lost, walked. -/
import Derived.Test.YtgodmfacelfhaaaBe
namespace Go.Proofs.Ytgodmfacelfhaaa
open Go.RowKit
theorem any_least {xs : List Bd} {n : Nat} {x : Bd} (hl : xs.length = n) (hx : xs[leastB xs n]? = some x) : (xs.any fun y => cheaper y x) = false := by
  rw [List.any_eq_false]
  intro y hy
  obtain ⟨j, hj⟩ := List.mem_iff_getElem?.1 hy
  have h1 := leastB_max xs n j (by have := (List.getElem?_eq_some_iff.1 hj).1; omega)
  rw [List.getD_eq_getElem?_getD, List.getD_eq_getElem?_getD, hj, hx] at h1
  have h2 : cheaper y x = false := h1
  simp [h2]
set_option maxRecDepth 100000 in
set_option maxHeartbeats 4000000 in
theorem law_lost (A : Option Addr) (n c : Nat) (xs : List Bd) (B : Option Addr) (m d : Nat) (w : World) (h : RI CBd 2 w A n xs) :
    Calls Try.prog 3 #[.slice A n c, .slice B m d] w fun e w' => e = .returned (.bool true) ∧ Below w.heap.size w w' := by
  have H1 := Lib.hid (first18_any w)
  by_cases hz : n = 0
  · subst hz
    go_enter Try.func3, Try.ntmps3
    go_wp2_with (go_at_call 7; refine H1.out.mono ?_; rintro e w1 ⟨rfl, hb1⟩)
    go_ret
    exact ⟨rfl, hb1⟩
  have hz1 : ((n : Int) == 0) = false := by simp; omega
  have hz2 : decide ((n : Int) = 0) = false := by simp; omega
  by_cases hbig : 20 < n
  · have hd : decide ((20 : Int) < (n : Int)) = true := by simp; omega
    go_enter Try.func3, Try.ntmps3
    go_wp2_with (go_at_call 7; refine H1.out.mono ?_; rintro e w1 ⟨rfl, hb1⟩)
    go_ret
    exact ⟨rfl, hb1⟩
  have hd : decide ((20 : Int) < (n : Int)) = false := by simp; omega
  have hd' : ¬ (20 : Int) < (n : Int) := by omega
  by_cases hbig2 : 20 < m
  · have hd2 : decide ((20 : Int) < (m : Int)) = true := by simp; omega
    go_enter Try.func3, Try.ntmps3
    go_wp2_with (go_at_call 7; refine H1.out.mono ?_; rintro e w1 ⟨rfl, hb1⟩)
    go_ret
    exact ⟨rfl, hb1⟩
  have hd2 : decide ((20 : Int) < (m : Int)) = false := by simp; omega
  have hd2' : ¬ (20 : Int) < (m : Int) := by omega
  have HR : Hid (∀ W, Below w.heap.size w W → RI CBd 2 W A n xs) := Lib.hid fun W hW => h.next hW
  have HK : Hid (leastB xs n < n) := Lib.hid (leastB_bd xs (by omega))
  obtain ⟨b6, o6, x, rfl, hbl, hx, hc⟩ := h.at_ HK.out
  have ha := any_least h.len hx
  have c0 : ∀ W, Below w.heap.size w W → W.cell? ⟨b6, o6 + leastB xs n * 2, none⟩ = some (.int .i64 x.1) := fun W hW => (hW.cell (p := ⟨b6, o6 + leastB xs n * 2, none⟩) hbl).trans (hc 0 _ rfl)
  have c1 : ∀ W, Below w.heap.size w W → W.cell? ⟨b6, o6 + leastB xs n * 2 + 1, none⟩ = some (.int .u32 x.2) := fun W hW => (hW.cell (p := ⟨b6, o6 + leastB xs n * 2 + 1, none⟩) hbl).trans (hc 1 _ rfl)
  have L1 : ∀ W, Below w.heap.size w W → Calls Try.prog 9 #[.agg #[.int .i64 x.1, .int .u32 x.2], .bool true, .slice (some ⟨b6, o6, none⟩) n c, .slice B m d] W fun e w' => e = .returned (.bool false) ∧ Below W.heap.size W w' := fun W hW => by
    have := lost_any x.1 x.2 true (some ⟨b6, o6, none⟩) n c xs B m d W (HR.out W hW) (by omega)
    rw [show lostP (x.1, x.2) true m xs = false by unfold lostP; rw [ha]; rfl] at this
    exact this
  have L2 : ∀ W, Below w.heap.size w W → Calls Try.prog 9 #[.agg #[.int .i64 x.1, .int .u32 x.2], .bool false, .slice (some ⟨b6, o6, none⟩) n c, .slice B m d] W fun e w' => e = .returned (.bool (decide ((0 : Int) < (m : Int)))) ∧ Below W.heap.size W w' := fun W hW => by
    have := lost_any x.1 x.2 false (some ⟨b6, o6, none⟩) n c xs B m d W (HR.out W hW) (by omega)
    rw [show lostP (x.1, x.2) false m xs = decide ((0 : Int) < (m : Int)) by unfold lostP; rw [ha]; simp] at this
    exact this
  have L3 : ∀ W, Below w.heap.size w W → Calls Try.prog 9 #[.agg #[.int .i64 x.1, .int .u32 x.2], .bool true, .slice none 0 0, .slice B m d] W fun e w' => e = .returned (.bool false) ∧ Below W.heap.size W w' := fun W _ =>
    lost_any x.1 x.2 true none 0 0 [] B m d W (RI.none_ _ _ _ _) (by omega)
  have HBE := Lib.hid fun W hW => bbest_any (some ⟨b6, o6, none⟩) n c xs W (HR.out W hW) (by omega)
  have H1L := Lib.hid L1
  have H2L := Lib.hid L2
  have H3L := Lib.hid L3
  generalize leastB xs n = K at *
  have hk0 : ¬ (K : Int) < 0 := by omega
  have hk1 : decide ((K : Int) < 0) = false := by simp
  have hk2 : ¬ (n : Int) ≤ (K : Int) := by have := HK.out; omega
  have hk3 : decide ((n : Int) ≤ (K : Int)) = false := by simp; have := HK.out; omega
  have hk5 : decide (0 < n) = true := by simp; omega
  have hk6 : (K : Int) < (n : Int) := by have := HK.out; omega
  have hk7 : (0 : Int) ≤ (K : Int) := by omega
  obtain ⟨x1, x2⟩ := x
  generalize hV : decide ((0 : Int) < (m : Int)) = V at *
  clear h hx hc ha L1 L2 L3 hbl
  cases V with
  | true =>
    have hm1 : (0 : Int) < (m : Int) := by simpa using hV
    have hm2 : decide (0 < m) = true := by simp; omega
    have hm3 : 0 < m := by omega
    go_enter Try.func3, Try.ntmps3
    go_upto_region 7 with (first
      | (go_at_call 7; refine H1.out.mono ?_; rintro e w1 ⟨rfl, hb1⟩; have HB1 := Lib.hid hb1; clear hb1)
      | (go_at_call 8; (with_reducible refine (HBE.out _ HB1.out).mono ?_); rintro e w2 ⟨rfl, hb2⟩; have HB2 := Lib.hid (below_next HB1.out hb2); clear hb2))
    go_upto_region 9 with fail
    have d0 := c0 w2 HB2.out
    have d1 := c1 w2 HB2.out
    go_wp2_with (first
      | (go_at_call 9; first
        | (with_reducible refine (H1L.out _ HB2.out).mono ?_; rintro e w3 ⟨rfl, hb3⟩; have HB3 := Lib.hid (below_next HB2.out hb3); clear hb3; replace d0 := c0 w3 HB3.out; replace d1 := c1 w3 HB3.out)
        | (with_reducible refine (H2L.out _ HB3.out).mono ?_; rintro e w4 ⟨rfl, hb4⟩; have HB4 := Lib.hid (below_next HB3.out hb4); clear hb4; replace d0 := c0 w4 HB4.out; replace d1 := c1 w4 HB4.out)
        | (with_reducible refine (H3L.out _ HB4.out).mono ?_; rintro e w5 ⟨rfl, hb5⟩; have HB5 := Lib.hid (below_next HB4.out hb5); clear hb5)))
    go_ret
    exact ⟨rfl, HB5.out⟩
  | false =>
    have hm1 : ¬ (0 : Int) < (m : Int) := by simpa using hV
    have hm2 : decide (0 < m) = false := by simp; omega
    have hm3 : ¬ 0 < m := by omega
    go_enter Try.func3, Try.ntmps3
    go_upto_region 7 with (first
      | (go_at_call 7; refine H1.out.mono ?_; rintro e w1 ⟨rfl, hb1⟩; have HB1 := Lib.hid hb1; clear hb1)
      | (go_at_call 8; (with_reducible refine (HBE.out _ HB1.out).mono ?_); rintro e w2 ⟨rfl, hb2⟩; have HB2 := Lib.hid (below_next HB1.out hb2); clear hb2))
    go_upto_region 9 with fail
    have d0 := c0 w2 HB2.out
    have d1 := c1 w2 HB2.out
    go_wp2_with (first
      | (go_at_call 9; first
        | (with_reducible refine (H1L.out _ HB2.out).mono ?_; rintro e w3 ⟨rfl, hb3⟩; have HB3 := Lib.hid (below_next HB2.out hb3); clear hb3; replace d0 := c0 w3 HB3.out; replace d1 := c1 w3 HB3.out)
        | (with_reducible refine (H2L.out _ HB3.out).mono ?_; rintro e w4 ⟨rfl, hb4⟩; have HB4 := Lib.hid (below_next HB3.out hb4); clear hb4; replace d0 := c0 w4 HB4.out; replace d1 := c1 w4 HB4.out)
        | (with_reducible refine (H3L.out _ HB4.out).mono ?_; rintro e w5 ⟨rfl, hb5⟩; have HB5 := Lib.hid (below_next HB4.out hb5); clear hb5)))
    go_ret
    exact ⟨rfl, HB5.out⟩
end Go.Proofs.Ytgodmfacelfhaaa

