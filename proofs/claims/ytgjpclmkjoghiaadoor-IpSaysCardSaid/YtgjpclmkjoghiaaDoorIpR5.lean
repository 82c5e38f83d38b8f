/- Contracts of the document's own reader and hop, over the seat's program. -/
import Derived.Test.YtgjpclmkjoghiaaDoorIpR4
namespace Go.Proofs.YtgjpclmkjoghiaaDoor
open Go.RowKit Sm
section
variable (A : Option Addr) (n c : Nat) (xs : List Int) (w : World)
theorem rread_any (h : BR w A n xs) (hc : n ≤ c) :
    Calls Tryd.prog 12 #[.slice A n c] w fun e w' => e = .returned (.tuple #[rv xs, .int .i64 (rcode xs)]) ∧ Below w.heap.size w w' := by
  have hl := h.len
  by_cases h20 : n < 20
  · have e : rcode xs = 101 := by unfold rcode; rw [if_pos (by omega)]
    unfold rv; rw [e, if_neg (by omega)]
    exact rread_end A n c w h20
  by_cases hs : rsh xs = true
  · by_cases ho : oc (tot (xs.take 20)) = 65535
    · refine rread_last A n c xs w h (by omega) hc hs ho _ (fun hq => ?_) (fun hq => ?_)
      · have e : rcode xs = 103 := by unfold rcode; rw [if_neg (by omega), if_neg (by rw [hs]; simp), if_neg (by rw [ho]; simp), if_pos hq]
        unfold rv; rw [e, if_neg (by omega)]; rfl
      · have e : rcode xs = 0 := by unfold rcode; rw [if_neg (by omega), if_neg (by rw [hs]; simp), if_neg (by rw [ho]; simp), if_neg (by omega)]
        unfold rv; rw [e, if_pos rfl]
    · have e : rcode xs = 105 := by unfold rcode; rw [if_neg (by omega), if_neg (by rw [hs]; simp), if_pos ho]
      unfold rv; rw [e, if_neg (by omega)]
      exact rread_sum A n c xs w h (by omega) hc hs ho
  · have hs' : rsh xs = false := by simpa using hs
    have e : rcode xs = 102 := by unfold rcode; rw [if_neg (by omega), if_pos hs']
    unfold rv; rw [e, if_neg (by omega)]
    exact rread_shape A n c xs w h (by omega) hc hs'
set_option maxHeartbeats 1000000 in
theorem rhop_bad (h : BR w A n xs) (hc : n ≤ c) (hr : rcode xs ≠ 0) :
    Calls Tryd.prog 14 #[.slice A n c] w fun e w' => e = .returned (.tuple #[.slice none 0 0, .int .i64 (rcode xs)]) ∧ Below w.heap.size w w' := by
  have HR := rread_any A n c xs w h hc
  have hne : (rcode xs != 0) = true := by simpa using hr
  unfold rv at HR
  rw [if_neg hr] at HR
  unfold hv at *
  clear h hr
  generalize rcode xs = C at *
  go_enter Tryd.func14, Tryd.ntmps14
  go_wp2_with (go_at_call 12; refine HR.mono ?_; rintro e w1 ⟨rfl, hb⟩; have HB := Lib.hid hb; clear hb)
  go_ret2
  exact ⟨rfl, HB.out.alloc HB.out.size _⟩
set_option maxHeartbeats 1000000 in
theorem rhop_end (h : BR w A n xs) (hc : n ≤ c) (hr : rcode xs = 0) (ht : xs.getD 8 0 = 0) :
    Calls Tryd.prog 14 #[.slice A n c] w fun e w' => e = .returned (.tuple #[.slice none 0 0, .int .i64 103]) ∧ Below w.heap.size w w' := by
  have HR := rread_any A n c xs w h hc
  unfold rv at HR
  rw [if_pos hr, hr, ht] at HR
  unfold hv at *
  clear h hr ht
  generalize rn xs 2 = l at *
  generalize rn xs 4 = i at *
  generalize xs.getD 9 0 = p at *
  generalize ra xs 12 = f at *
  generalize ra xs 16 = g at *
  go_enter Tryd.func14, Tryd.ntmps14
  go_wp2_with (go_at_call 12; refine HR.mono ?_; rintro e w1 ⟨rfl, hb⟩
               have hb2 : Below w.heap.size w (w1.alloc (.cells #[.int .i64 l, .int .i64 i, .int .i64 0, .int .i64 p, .int .u32 f, .int .u32 g] 34)) := hb.alloc hb.size _
               have HB := Lib.hid hb2; clear hb hb2)
  go_ret2
  exact ⟨rfl, HB.out⟩
set_option maxHeartbeats 1000000 in
theorem rhop_ok (h : BR w A n xs) (hc : n ≤ c) (hr : rcode xs = 0) (ht : xs.getD 8 0 ≠ 0) :
    Calls Tryd.prog 14 #[.slice A n c] w fun e w' => ∃ A' c', e = .returned (.tuple #[.slice A' 20 c', .int .i64 0]) ∧ w'.ownsRow w.heap.size 5 1 (.slice A' 20 c') 20 (B8 (hbs (rn xs 2) (rn xs 4) (xs.getD 8 0 - 1) (xs.getD 9 0) (ra xs 12) (ra xs 16))) ∧ Below w.heap.size w w' := by
  have HR := rread_any A n c xs w h hc
  unfold rv at HR
  rw [if_pos hr, hr] at HR
  have HY := Lib.hid (fun W => rbytes_yes (rn xs 2) (rn xs 4) (xs.getD 8 0 - 1) (xs.getD 9 0) (ra xs 12) (ra xs 16) W (rfit1 h.isB hr ht) (ra_bd h.isB _) (ra_bd h.isB _))
  have h8 := h.isB.at_ 8
  have hw8 : IntKind.i64.wrap (xs.getD 8 0 - 1) = xs.getD 8 0 - 1 := IntWalk.i64_in _ (by omega)
  have hne : (xs.getD 8 0 == 0) = false := by simpa using ht
  unfold hv at *
  clear h hr h8 ht
  generalize rn xs 2 = l at *
  generalize rn xs 4 = i at *
  generalize xs.getD 8 0 = t at *
  generalize xs.getD 9 0 = p at *
  generalize ra xs 12 = f at *
  generalize ra xs 16 = g at *
  go_enter Tryd.func14, Tryd.ntmps14
  go_wp2_with (first
    | (go_at_call 12; refine HR.mono ?_; rintro e w1 ⟨rfl, hb⟩; have HB := Lib.hid hb; clear hb)
    | (go_at_call 9; refine (HY.out _).mono ?_; rintro e w2 ⟨A2, c2, rfl, hown, hb2⟩))
  go_ret2
  have hb3 := below_next (HB.out.alloc HB.out.size (.cells #[.int .i64 l, .int .i64 i, .int .i64 (t - 1), .int .i64 p, .int .u32 f, .int .u32 g] 34)) hb2
  exact ⟨A2, c2, rfl, own_up hown (by have := HB.out.size; simp; omega), hb3⟩
/-- Whatever there is: a code and what goes with it. -/
theorem rhop_any (h : BR w A n xs) (hc : n ≤ c) :
    Calls Tryd.prog 14 #[.slice A n c] w fun e w' => ∃ A' m c', e = .returned (.tuple #[.slice A' m c', .int .i64 (hcode xs)]) ∧ m ≤ c' ∧ BR w' A' m (hops xs) ∧ Below w.heap.size w w' := by
  by_cases hr : rcode xs = 0
  · by_cases ht : xs.getD 8 0 = 0
    · have e : hcode xs = 103 := by unfold hcode; rw [if_pos hr, if_pos ht]
      have e2 : hops xs = [] := by unfold hops; rw [e, if_neg (by omega)]
      rw [e, e2]
      refine (rhop_end A n c xs w h hc hr ht).mono ?_
      rintro e w1 ⟨rfl, hb⟩
      exact ⟨none, 0, 0, rfl, Nat.le_refl _, BR.none_ _ _, hb⟩
    · have e : hcode xs = 0 := by unfold hcode; rw [if_pos hr, if_neg ht]
      have e2 : hops xs = hbs (rn xs 2) (rn xs 4) (xs.getD 8 0 - 1) (xs.getD 9 0) (ra xs 12) (ra xs 16) := by unfold hops; rw [e, if_pos rfl]
      rw [e, e2]
      refine (rhop_ok A n c xs w h hc hr ht).mono ?_
      rintro e w1 ⟨A', c', rfl, hown, hb⟩
      obtain ⟨_, _, he, hnc, hbr, _⟩ := own_form hown (hbs_b (rfit1 h.isB hr ht) (ra_bd h.isB _) (ra_bd h.isB _))
      simp only [Value.slice.injEq, true_and] at he
      obtain ⟨rfl, rfl⟩ := he
      exact ⟨A', 20, c', rfl, hnc, hbr, hb⟩
  · have e : hcode xs = rcode xs := by unfold hcode; rw [if_neg hr]
    have e2 : hops xs = [] := by unfold hops; rw [e, if_neg hr]
    rw [e, e2]
    refine (rhop_bad A n c xs w h hc hr).mono ?_
    rintro e w1 ⟨rfl, hb⟩
    exact ⟨none, 0, 0, rfl, Nat.le_refl _, BR.none_ _ _, hb⟩
end
end Go.Proofs.YtgjpclmkjoghiaaDoor
