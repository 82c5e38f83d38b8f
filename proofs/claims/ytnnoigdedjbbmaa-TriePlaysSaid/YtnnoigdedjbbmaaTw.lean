/- A prefix's place in a row; numbers copied; over the seat's program. -/
import Derived.Test.YtnnoigdedjbbmaaTt
namespace Go.Proofs.Ytnnoigdedjbbmaa
open Go.RowKit
/-- a prefix's first place in a row, or -1 -/
def Fnd (ks : List Tr.Pf) (p : Tr.Pf) (e : Ending) : Prop :=
  (e = .returned (.int .i64 (-1)) ∧ p ∉ ks) ∨ ∃ i : Nat, e = .returned (.int .i64 (i : Int)) ∧ ks[i]? = some p
set_option maxHeartbeats 1000000 in
theorem find_any (A : Option Addr) (n c : Nat) (ks : List Tr.Pf) (x y : Int) (w : World) (h : RI encPf 2 w A n ks) (hn : n ≤ 1048576) :
    Calls Try.prog 8 #[.slice A n c, .agg #[.int .u32 x, .int .i64 y]] w fun e w' => Fnd ks (x, y) e ∧ Below w.heap.size w w' := by
  have HH : Hid (∀ W, Below w.heap.size w W → RI encPf 2 W A n ks) := Lib.hid fun W hW => h.next hW
  have HN := Lib.hid h.1
  have HB0 := Lib.hid ((Below.refl w.heap.size w).alloc (Nat.le_refl _) (.cells #[.int .u32 x, .int .i64 y] 27))
  have HK : Hid (Blk (w.alloc (.cells #[.int .u32 x, .int .i64 y] 27)) w.heap.size 27 #[.int .u32 x, .int .i64 y]) := Lib.hid (Blk.new _ _ _)
  clear h
  go_enter Try.func8, Try.ntmps8
  go_wp2_with fail
  generalize w.alloc (.cells #[.int .u32 x, .int .i64 y] 27) = W0 at *
  go_loopw [5] (fun i wr => ∃ k : Nat, k ≤ n ∧ i = .int .i64 k ∧ Below W0.heap.size W0 wr ∧ ∀ p ∈ ks.take k, p ≠ (x, y)) (fun i _ => n - (intOf i).toNat)
  case atStart => exact ⟨0, Nat.zero_le _, rfl, Below.refl _ _, by simp⟩
  case round =>
    obtain ⟨k, hk, rfl, hb, hne⟩ := hrel
    have hbw := HB0.out.trans (hb.mono HB0.out.size)
    rcases Nat.lt_or_ge k n with hlt | hge
    · obtain ⟨b, o, ⟨x', y'⟩, rfl, hbl, hx, hc⟩ := (HH.out wr hbw).at_ hlt
      have hK := HK.out.next hb
      have c0 : ∀ W, Below wr.heap.size wr W → W.cell? ⟨b, o + k * 2, none⟩ = some (.int .u32 x') := fun W hW => (hW.cell (p := ⟨b, o + k * 2, none⟩) hbl).trans (hc 0 _ rfl)
      have c1 : ∀ W, Below wr.heap.size wr W → W.cell? ⟨b, o + k * 2 + 1, none⟩ = some (.int .i64 y') := fun W hW => (hW.cell (p := ⟨b, o + k * 2 + 1, none⟩) hbl).trans (hc 1 _ rfl)
      have d0 : ∀ W, Below wr.heap.size wr W → W.cell? ⟨w.heap.size, 0, none⟩ = some (.int .u32 x) := fun W hW => by simpa using (hK.next hW).cell 0
      have d1 : ∀ W, Below wr.heap.size wr W → W.cell? ⟨w.heap.size, 1, none⟩ = some (.int .i64 y) := fun W hW => by simpa using (hK.next hW).cell 1
      have hi0 : (k : Int) < n := by omega
      have hS := Below.refl wr.heap.size wr
      have HB := Lib.hid hb
      have HBW := Lib.hid hbw
      have HX := Lib.hid hx
      have HNE := Lib.hid hne
      by_cases hs : x' = x ∧ y' = y
      · have HE : Hid ((decide (x' = x) && decide (y' = y)) = true) := Lib.hid (by simp [hs.1, hs.2])
        have HP : Hid ((x', y') = (x, y)) := Lib.hid (by rw [hs.1, hs.2])
        clear hb hbw hx hc hne hK hs hbl
        go_wp2_with fail
        go_region_held3 (fun W => Below wr.heap.size wr W) (first | with_reducible assumption | with_reducible exact (Below.refl _ _).drew)
          (first
          | (go_at_call 12; refine (same_any _ _ _ _ _).mono ?_; rintro e w2 ⟨rfl, hb2⟩; rw [HE.out]; have hb3 := below_drew hb2))
        have hB2 := HBW.out.trans (hb3.mono HBW.out.size)
        clear hb2 hb3 c0 c1 d0 d1 hS
        go_wp2
        go_ret
        exact ⟨.inr ⟨k, rfl, by rw [HX.out, HP.out]⟩, hB2⟩
      · have HE : Hid ((decide (x' = x) && decide (y' = y)) = false) := Lib.hid (by
          rw [Bool.and_eq_false_iff, decide_eq_false_iff_not, decide_eq_false_iff_not]
          omega)
        have HP : Hid ((x', y') ≠ (x, y)) := Lib.hid (fun e => hs (by simpa using e))
        clear hb hbw hx hc hne hK hs hbl
        go_wp2_with fail
        go_region_held3 (fun W => Below wr.heap.size wr W) (first | with_reducible assumption | with_reducible exact (Below.refl _ _).drew)
          (first
          | (go_at_call 12; refine (same_any _ _ _ _ _).mono ?_; rintro e w2 ⟨rfl, hb2⟩; rw [HE.out]; have hb3 := below_drew hb2))
        have hB2 := HB.out.trans (hb3.mono HB.out.size)
        clear hb2 hb3 c0 c1 d0 d1 hS
        go_wp2
        go_roundw
        case rel =>
          refine ⟨k + 1, by omega, by go_num, hB2, ?_⟩
          rw [Tr.take_snoc HX.out]
          intro p hp
          rw [List.mem_append, List.mem_singleton] at hp
          rcases hp with hp | rfl
          · exact HNE.out p hp
          · exact HP.out
        case measure => simp [intOf]; omega
    · obtain rfl : k = n := by omega
      have hno : (x, y) ∉ ks := fun hm => by
        rw [← HN.out, List.take_length] at hne
        exact hne _ hm rfl
      have HNO := Lib.hid hno
      have HBW := Lib.hid hbw
      clear hb hbw hne hno
      go_wp2
      go_ret
      exact ⟨.inl ⟨rfl, HNO.out⟩, HBW.out⟩
set_option maxHeartbeats 1000000 in
theorem ints_any (A : Option Addr) (n c : Nat) (xs : List Int) (w : World) (h : JR w A n xs) (hn : n ≤ 1000000) :
    Calls Try.prog 9 #[.slice A n c] w fun e w' => ∃ g c', e = .returned (.slice (some ⟨g, 0, none⟩) n c') ∧ w.heap.size ≤ g ∧ w'.ownsRow w.heap.size 3 1 (.slice (some ⟨g, 0, none⟩) n c') n (I64 xs) ∧ Below w.heap.size w w' := by
  obtain ⟨i0, hi, hz0, hz1, hz2⟩ := info_parts info_int
  have hl := h.1
  go_enter Try.func9, Try.ntmps9
  go_wp2_with (at_make; refine wpList_make_own _ rfl _ _ 39 rfl w.heap.size 3 i0 (.int .i64 0) 1 Try.underlying39 hi hz0 hz1 .i64 .i64 _ n rfl rfl rfl (by rw [hz2]; omega) (by unfold maxLen; omega) (Nat.le_refl _) ?_; intro w0 hown0 hgrow0)
  have hb0 : Below w.heap.size w w0 := (Below.refl _ _).grown hgrow0 (Nat.le_refl _) (by intro k hk; cases hk)
  generalize hG : w.heap.size = G at *
  go_loopw [3, 4] (fun v i wr => ∃ k : Nat, k ≤ n ∧ i = .int .i64 k ∧ v = .slice (some ⟨G, 0, none⟩) k n ∧ wr.ownsRow G 3 1 (.slice (some ⟨G, 0, none⟩) k n) k (I64 (xs.take k)) ∧ Below G w wr) (fun _ i _ => n - (intOf i).toNat)
  case atStart => exact ⟨0, Nat.zero_le _, rfl, rfl, by simpa [I64] using hown0, hb0⟩
  case round =>
    obtain ⟨k, hk, rfl, rfl, hown, hbw⟩ := hrel
    rcases Nat.lt_or_ge k n with hlt | hge
    · obtain ⟨b, o, rfl, hlt0, hc0⟩ := (h.next (hG ▸ hbw)).at_ hlt
      have HT := Lib.hid (take_next (xs := xs) (k := k) (by omega))
      generalize xs.getD k 0 = u at *
      generalize List.take k xs = L at *
      have hi0 : (k : Int) < n := by omega
      go_wp2_with (at_builtin; refine wpList_append_own_spare _ rfl _ _ 39 rfl G 3 i0 1 Try.underlying39 hi hz1 G k n _ rfl (hown.alloc _) ⟨wr.heap.size, 0, none⟩ 1 1 [.int .i64 u] rfl rfl (cell_one_new _ _ _) (by intro x hx; simp at hx; subst hx; rfl) (by omega) ?_; intro w1 hown1 hgrow1)
      have hb1 : Below G w w1 := (hbw.alloc (hG ▸ hbw.size) _).grown hgrow1 (by simp; have := hbw.size; omega) (by intro k hk; cases hk; exact Nat.le_refl _)
      go_roundw
      case rel => exact ⟨k + 1, by omega, by go_num, rfl, by rw [HT.out, I64_app]; exact hown1, hb1⟩
      case measure => simp [intOf]; omega
    · obtain rfl : k = n := by omega
      rw [List.take_of_length_le (by omega)] at hown
      subst hG
      go_wp2
      go_ret
      exact ⟨w.heap.size, k, rfl, Nat.le_refl _, hown, hbw⟩
end Go.Proofs.Ytnnoigdedjbbmaa

