/- Contract of package ip's Hop, over the seat's program. -/
import Derived.Test.YtgjpclmkjoghiaaDoorIp3
namespace Go.Proofs.YtgjpclmkjoghiaaDoor
open Go.RowKit Sm
section
variable (er : Int → Value) (A : Option Addr) (n c : Nat) (xs : List Int) (w : World)
set_option maxHeartbeats 1000000 in
theorem hop_bad (hE : EnvE er w) (h : BR w A n xs) (hc : n ≤ c) (hr : rcode xs ≠ 0) :
    Calls Tryd.prog 13 #[.slice A n c] w fun e w' => e = .returned (.tuple #[.slice none 0 0, er (rcode xs)]) ∧ Below w.heap.size w w' := by
  have HR := read_any er A n c xs w hE h hc
  obtain ⟨a, ha⟩ := hE.2.1 (rcode xs) (by have := rcode_cases xs; omega)
  unfold rv at HR
  rw [if_neg hr, ha] at HR
  rw [ha]
  unfold hv ev at *
  clear hE h hr ha
  go_enter Tryd.func13, Tryd.ntmps13
  go_wp2_with (go_at_call 11; refine HR.mono ?_; rintro e w1 ⟨rfl, hb⟩; have HB := Lib.hid hb; clear hb)
  go_ret2
  exact ⟨rfl, HB.out.alloc HB.out.size _⟩
set_option maxHeartbeats 1000000 in
theorem hop_end (hE : EnvE er w) (h : BR w A n xs) (hc : n ≤ c) (hr : rcode xs = 0) (ht : xs.getD 8 0 = 0) :
    Calls Tryd.prog 13 #[.slice A n c] w fun e w' => e = .returned (.tuple #[.slice none 0 0, er 103]) ∧ Below w.heap.size w w' := by
  have HR := read_any er A n c xs w hE h hc
  unfold rv at HR
  rw [if_pos hr, hr, hE.1, ht] at HR
  have HE := Lib.hid hE
  unfold hv at *
  clear hE h hr ht
  generalize rn xs 2 = l at *
  generalize rn xs 4 = i at *
  generalize xs.getD 9 0 = p at *
  generalize ra xs 12 = f at *
  generalize ra xs 16 = g at *
  go_enter Tryd.func13, Tryd.ntmps13
  go_wp2_with (go_at_call 11; refine HR.mono ?_; rintro e w1 ⟨rfl, hb⟩
               have hb2 : Below w.heap.size w (w1.alloc (.cells #[.int .i64 l, .int .i64 i, .int .i64 0, .int .i64 p, .int .u32 f, .int .u32 g] 25)) := hb.alloc hb.size _
               have hc1 := (HE.out.below hb2).2.2.2.2.1
               have HB := Lib.hid hb2; clear hb hb2)
  go_quiet (fail)
  go_wp2
  go_ret2
  exact ⟨rfl, below_drewN HB.out _⟩
set_option maxHeartbeats 1000000 in
theorem hop_ok (hE : EnvE er w) (h : BR w A n xs) (hc : n ≤ c) (hr : rcode xs = 0) (ht : xs.getD 8 0 ≠ 0) :
    Calls Tryd.prog 13 #[.slice A n c] w fun e w' => ∃ A' c', e = .returned (.tuple #[.slice A' 20 c', .nilIface]) ∧ w'.ownsRow w.heap.size 5 1 (.slice A' 20 c') 20 (B8 (hbs (rn xs 2) (rn xs 4) (xs.getD 8 0 - 1) (xs.getD 9 0) (ra xs 12) (ra xs 16))) ∧ Below w.heap.size w w' := by
  have HR := read_any er A n c xs w hE h hc
  unfold rv at HR
  rw [if_pos hr, hr, hE.1] at HR
  have HY := Lib.hid (fun W => ibytes_yes (rn xs 2) (rn xs 4) (xs.getD 8 0 - 1) (xs.getD 9 0) (ra xs 12) (ra xs 16) W (rfit1 h.isB hr ht) (ra_bd h.isB _) (ra_bd h.isB _))
  have h8 := h.isB.at_ 8
  have hw8 : IntKind.i64.wrap (xs.getD 8 0 - 1) = xs.getD 8 0 - 1 := IntWalk.i64_in _ (by omega)
  have hne : (xs.getD 8 0 == 0) = false := by simpa using ht
  unfold hv at *
  clear hE h hr h8 ht
  generalize rn xs 2 = l at *
  generalize rn xs 4 = i at *
  generalize xs.getD 8 0 = t at *
  generalize xs.getD 9 0 = p at *
  generalize ra xs 12 = f at *
  generalize ra xs 16 = g at *
  go_enter Tryd.func13, Tryd.ntmps13
  go_wp2_with (first
    | (go_at_call 11; refine HR.mono ?_; rintro e w1 ⟨rfl, hb⟩; have HB := Lib.hid hb; clear hb)
    | (go_at_call 8; refine (HY.out _).mono ?_; rintro e w2 ⟨A2, c2, rfl, hown, hb2⟩))
  go_ret2
  have hb3 := below_next (HB.out.alloc HB.out.size (.cells #[.int .i64 l, .int .i64 i, .int .i64 (t - 1), .int .i64 p, .int .u32 f, .int .u32 g] 25)) hb2
  exact ⟨A2, c2, rfl, own_up hown (by have := HB.out.size; simp; omega), hb3⟩
/-- Whatever there is: a code and what goes with it. -/
theorem hop_any (hE : EnvE er w) (h : BR w A n xs) (hc : n ≤ c) :
    Calls Tryd.prog 13 #[.slice A n c] w fun e w' => ∃ A' m c', e = .returned (.tuple #[.slice A' m c', er (hcode xs)]) ∧ m ≤ c' ∧ BR w' A' m (hops xs) ∧ Below w.heap.size w w' := by
  by_cases hr : rcode xs = 0
  · by_cases ht : xs.getD 8 0 = 0
    · have e : hcode xs = 103 := by unfold hcode; rw [if_pos hr, if_pos ht]
      have e2 : hops xs = [] := by unfold hops; rw [e, if_neg (by omega)]
      rw [e, e2]
      refine (hop_end er A n c xs w hE h hc hr ht).mono ?_
      rintro e w1 ⟨rfl, hb⟩
      exact ⟨none, 0, 0, rfl, Nat.le_refl _, BR.none_ _ _, hb⟩
    · have e : hcode xs = 0 := by unfold hcode; rw [if_pos hr, if_neg ht]
      have e2 : hops xs = hbs (rn xs 2) (rn xs 4) (xs.getD 8 0 - 1) (xs.getD 9 0) (ra xs 12) (ra xs 16) := by unfold hops; rw [e, if_pos rfl]
      rw [e, e2, hE.1]
      refine (hop_ok er A n c xs w hE h hc hr ht).mono ?_
      rintro e w1 ⟨A', c', rfl, hown, hb⟩
      obtain ⟨_, _, he, hnc, hbr, _⟩ := own_form hown (hbs_b (rfit1 h.isB hr ht) (ra_bd h.isB _) (ra_bd h.isB _))
      simp only [Value.slice.injEq, true_and] at he
      obtain ⟨rfl, rfl⟩ := he
      exact ⟨A', 20, c', rfl, hnc, hbr, hb⟩
  · have e : hcode xs = rcode xs := by unfold hcode; rw [if_neg hr]
    have e2 : hops xs = [] := by unfold hops; rw [e, if_neg hr]
    rw [e, e2]
    refine (hop_bad er A n c xs w hE h hc hr).mono ?_
    rintro e w1 ⟨rfl, hb⟩
    exact ⟨none, 0, 0, rfl, Nat.le_refl _, BR.none_ _ _, hb⟩
end
end Go.Proofs.YtgjpclmkjoghiaaDoor
