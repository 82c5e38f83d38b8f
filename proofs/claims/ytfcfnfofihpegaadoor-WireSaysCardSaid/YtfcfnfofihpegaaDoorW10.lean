/- Contracts of wire's reader: a byte, a number, an address, a key, a yes or no, over the seat's program. -/
import Derived.Test.YtfcfnfofihpegaaDoorRd
import Derived.Test.YtfcfnfofihpegaaDoorBref
namespace Go.Proofs.YtfcfnfofihpegaaDoor
open Go.RowKit Sm
def byteOf (B N : Nat) (xs : List Int) (p : Nat) (od : Bool) (w : World) (e : Ending) (w' : World) : Prop :=
  e = .returned (.int .u8 (xs.getD p 0)) ∧ RS B w' N xs (p + 1) od ∧ w.grownBy w' (some N)
theorem next_any (B N : Nat) (xs : List Int) (p : Nat) (od : Bool) (w : World) (h : RS B w N xs p od) :
    Calls Tryd.prog 62 #[.pointer (some ⟨N, 0, none⟩)] w (byteOf B N xs p od w) := by
  obtain ⟨h1, h2, A, n, c, h3, h4, h5, h6⟩ := h
  have x0 : w.cell? ⟨N, 0, none⟩ = some (.slice A n c) := h3.cell 0
  have x1 : w.cell? ⟨N, 1, none⟩ = some (.bool (decide (xs.length < p))) := h3.cell 1
  have f0 : w.frozen? ⟨N, 0, none⟩ = false := h3.frozen 0
  have f1 : w.frozen? ⟨N, 1, none⟩ = false := h3.frozen 1
  have H3 := Lib.hid h3
  rcases Nat.eq_zero_or_pos n with h0 | h0
  · subst h0
    have hg : xs.getD p 0 = 0 := by unfold List.getD; rw [List.getElem?_eq_none (by omega)]; rfl
    have hd : decide (xs.length < p + 1) = true := by simp; omega
    have HS : Hid (RS B (w.setCell ⟨N, 1, none⟩ (.bool true)) N xs (p + 1) od) := Lib.hid ⟨h1, h2, A, 0, c, by rw [hd]; exact h3.set_to 1 _ rfl, by omega, h5, fun hn => absurd hn (by omega)⟩
    have HG := Lib.hid hg
    clear h1 h2 h3 h4 h5 h6 hg hd
    generalize decide (xs.length < p) = D at *
    go_enter Tryd.func62, Tryd.ntmps62
    go_wp2
    go_ret
    exact ⟨ret_int HG.out.symm, HS.out, only_store _ _ _ _⟩
  · obtain ⟨b, o, rfl, hlt, hc⟩ := h6 h0
    clear h6
    have y0 := hc 0 h0
    rw [Nat.add_zero, Nat.add_zero] at y0
    have hd : decide (xs.length < p) = decide (xs.length < p + 1) := by
      have a : decide (xs.length < p) = false := by simp; omega
      have b : decide (xs.length < p + 1) = false := by simp; omega
      rw [a, b]
    have hi0 : (0 : Int) < (n : Int) := by omega
    have hne : ((n : Int) == 0) = false := by simp; omega
    have hi1 : (1 : Int) ≤ (n : Int) := by omega
    have hic : (1 : Int) ≤ (c : Int) := by omega
    have hbN : ¬ b = N := by omega
    have q1 : n - 1 = xs.length - (p + 1) := by omega
    have q2 : n - 1 ≤ c - 1 := by omega
    have q3 : ∀ i, i < n - 1 → i + 1 < n := fun i hi => by omega
    have HST : ∀ A' , (0 < n - 1 → A' = some ⟨b, o + 1, none⟩) → RS B (w.setCell ⟨N, 0, none⟩ (.slice A' (n - 1) (c - 1))) N xs (p + 1) od := fun A' hA' =>
      ⟨h1, h2, A', n - 1, c - 1, by rw [← hd]; exact h3.set_to 0 _ rfl, q1, q2, fun hn => ⟨b, o + 1, hA' hn, hlt, fun i hi => by
        have e := hc (i + 1) (q3 i hi)
        have e2 : (w.setCell ⟨N, 0, none⟩ (.slice A' (n - 1) (c - 1))).cell? ⟨b, o + 1 + i, none⟩ = w.cell? ⟨b, o + 1 + i, none⟩ := World.cell?_of_block (a := ⟨b, o + 1 + i, none⟩) (Below.heap_setCell w ⟨N, 0, none⟩ _ b hbN)
        rw [e2, show o + 1 + i = o + (i + 1) by omega, e, show p + 1 + i = p + (i + 1) by omega]⟩⟩
    have HS := Lib.hid HST
    clear h1 h2 h3 h4 hd HST hc q1 q2 q3
    generalize hu : xs.getD p 0 = u at *
    have HU := Lib.hid hu
    clear hu
    generalize decide (xs.length < p) = D at *
    by_cases hc1 : c = 1
    · obtain rfl : n = 1 := by omega
      subst hc1
      go_enter Tryd.func62, Tryd.ntmps62
      go_wp2
      go_ret
      exact ⟨ret_int HU.out.symm, HS.out _ (fun h => absurd h (by omega)), only_store _ _ _ _⟩
    · go_enter Tryd.func62, Tryd.ntmps62
      go_wp2
      go_ret
      exact ⟨ret_int HU.out.symm, HS.out _ (fun _ => rfl), only_store _ _ _ _⟩
def numOf (B N : Nat) (xs : List Int) (p : Nat) (od : Bool) (w : World) (e : Ending) (w' : World) : Prop :=
  e = .returned (.int .i64 (rn xs p)) ∧ RS B w' N xs (p + 2) od ∧ w.grownBy w' (some N)
theorem number_rd (B N : Nat) (xs : List Int) (p : Nat) (od : Bool) (w : World) (h : RS B w N xs p od) :
    Calls Tryd.prog 53 #[.pointer (some ⟨N, 0, none⟩)] w (numOf B N xs p od w) := by
  have hb0 := h.isB.at_ p
  have hb1 := h.isB.at_ (p + 1)
  have HO := Lib.hid (or_i64 _ _ hb0.1 hb0.2 hb1.1 hb1.2)
  have H1 := Lib.hid (next_any B N xs p od w h)
  have H2 := Lib.hid (fun W h => next_any B N xs (p + 1) od W h)
  unfold numOf rn
  unfold byteOf at *
  generalize xs.getD p 0 = u at *
  generalize xs.getD (p + 1) 0 = v at *
  clear h
  go_enter Tryd.func53, Tryd.ntmps53
  go_wp2_with fail
  refine H1.out.mono ?_
  rintro e w1 ⟨rfl, hr1, hg1⟩
  have HR1 := Lib.hid hr1
  clear hr1
  go_wp2_with fail
  refine (H2.out _ HR1.out).mono ?_
  rintro e w2 ⟨rfl, hr2, hg2⟩
  have HR2 := Lib.hid hr2
  have HG := Lib.hid (only_trans hg1 hg2 (fun k hk => .inl hk))
  clear hr2 hg1 hg2
  go_wp2
  go_ret
  exact ⟨ret_int HO.out, HR2.out, HG.out⟩
def addrOf (B N : Nat) (xs : List Int) (p : Nat) (od : Bool) (w : World) (e : Ending) (w' : World) : Prop :=
  e = .returned (.int .u32 (ra xs p)) ∧ RS B w' N xs (p + 4) od ∧ w.grownBy w' (some N)
def got (xs : List Int) (p j i : Nat) : Int := if i < j then xs.getD (p + i) 0 else 0
set_option maxHeartbeats 1000000 in
theorem address_rd (B N : Nat) (xs : List Int) (p : Nat) (od : Bool) (w : World) (h : RS B w N xs p od) :
    Calls Tryd.prog 52 #[.pointer (some ⟨N, 0, none⟩)] w (addrOf B N xs p od w) := by
  have hb0 := h.isB.at_ p
  have hb1 := h.isB.at_ (p + 1)
  have hb2 := h.isB.at_ (p + 2)
  have hb3 := h.isB.at_ (p + 3)
  have HO := Lib.hid (fun W => aof_any _ _ _ _ W hb0.1 hb0.2 hb1.1 hb1.2 hb2.1 hb2.2 hb3.1 hb3.2)
  have hN := h.lt
  have HN := Lib.hid (fun j W h => next_any B N xs (p + j) od W h)
  unfold addrOf ra
  unfold byteOf at HN
  have HR0 := Lib.hid (h.alloc (.cells #[.int .u8 0, .int .u8 0, .int .u8 0, .int .u8 0] 76))
  have HK0 := Lib.hid (Blk.new w 76 #[.int .u8 0, .int .u8 0, .int .u8 0, .int .u8 0])
  clear h hb0 hb1 hb2 hb3
  go_enter Tryd.func52, Tryd.ntmps52
  go_wp2_with fail
  go_loopw [5] (fun i wr => ∃ j : Nat, j ≤ 4 ∧ i = .int .i64 j ∧ RS B wr N xs (p + j) od ∧ Blk wr w.heap.size 76 #[.int .u8 (got xs p j 0), .int .u8 (got xs p j 1), .int .u8 (got xs p j 2), .int .u8 (got xs p j 3)] ∧ w.grownBy wr (some N)) (fun i _ => 4 - (intOf i).toNat)
  case atStart => exact ⟨0, by omega, rfl, HR0.out, HK0.out, only_alloc _ _ _⟩
  case round =>
    obtain ⟨j, hj, hi, hR, hK, hG⟩ := hrel
    clear HR0 HK0
    have HK := Lib.hid hK
    have HR := Lib.hid hR
    have HG := Lib.hid hG
    clear hK hR hG
    by_cases h4 : j < 4
    · have hj' : j = 0 ∨ j = 1 ∨ j = 2 ∨ j = 3 := by omega
      rcases hj' with rfl | rfl | rfl | rfl
      · have hi' : u5 = .int .i64 0 := hi
        clear hi; subst hi'
        go_wp2_with fail
        refine (HN.out 0 _ HR.out).mono ?_
        rintro e w1 ⟨rfl, hr1, hg1⟩
        have hk := HK.out.only hg1 (by intro e; cases e; omega)
        have f0 : w1.frozen? ⟨w.heap.size, 0, none⟩ = false := hk.frozen 0
        have x0 : w1.cell? ⟨w.heap.size, 0, none⟩ = _ := hk.cell 0
        have hk2 : Blk (w1.setCell ⟨w.heap.size, 0, none⟩ (.int .u8 (xs.getD (p + 0) 0))) w.heap.size 76 #[.int .u8 (got xs p 1 0), .int .u8 (got xs p 1 1), .int .u8 (got xs p 1 2), .int .u8 (got xs p 1 3)] := hk.set_to 0 _ (by rfl)
        have hr2 := hr1.store (M := w.heap.size) hN 0 (.int .u8 (xs.getD (p + 0) 0))
        have hg2 := only_trans (only_trans HG.out hg1 (fun k hk => .inl hk)) (only_store w1 w.heap.size 0 (.int .u8 (xs.getD (p + 0) 0))) (fun k hk => .inr (by cases hk; exact Nat.le_refl _))
        have HK2 := Lib.hid hk2
        have HR2 := Lib.hid hr2
        have HG2 := Lib.hid hg2
        clear hk hk2 hr1 hr2 hg1 hg2
        go_wp2
        go_roundw
        case rel => exact ⟨1, by omega, by go_num, HR2.out, HK2.out, HG2.out⟩
        case measure => simp [intOf]
      · have hi' : u5 = .int .i64 1 := hi
        clear hi; subst hi'
        go_wp2_with fail
        refine (HN.out 1 _ HR.out).mono ?_
        rintro e w1 ⟨rfl, hr1, hg1⟩
        have hk := HK.out.only hg1 (by intro e; cases e; omega)
        have f0 : w1.frozen? ⟨w.heap.size, 1, none⟩ = false := hk.frozen 1
        have x0 : w1.cell? ⟨w.heap.size, 1, none⟩ = _ := hk.cell 1
        have hk2 : Blk (w1.setCell ⟨w.heap.size, 1, none⟩ (.int .u8 (xs.getD (p + 1) 0))) w.heap.size 76 #[.int .u8 (got xs p 2 0), .int .u8 (got xs p 2 1), .int .u8 (got xs p 2 2), .int .u8 (got xs p 2 3)] := hk.set_to 1 _ (by rfl)
        have hr2 := hr1.store (M := w.heap.size) hN 1 (.int .u8 (xs.getD (p + 1) 0))
        have hg2 := only_trans (only_trans HG.out hg1 (fun k hk => .inl hk)) (only_store w1 w.heap.size 1 (.int .u8 (xs.getD (p + 1) 0))) (fun k hk => .inr (by cases hk; exact Nat.le_refl _))
        have HK2 := Lib.hid hk2
        have HR2 := Lib.hid hr2
        have HG2 := Lib.hid hg2
        clear hk hk2 hr1 hr2 hg1 hg2
        go_wp2
        go_roundw
        case rel => exact ⟨2, by omega, by go_num, HR2.out, HK2.out, HG2.out⟩
        case measure => simp [intOf]
      · have hi' : u5 = .int .i64 2 := hi
        clear hi; subst hi'
        go_wp2_with fail
        refine (HN.out 2 _ HR.out).mono ?_
        rintro e w1 ⟨rfl, hr1, hg1⟩
        have hk := HK.out.only hg1 (by intro e; cases e; omega)
        have f0 : w1.frozen? ⟨w.heap.size, 2, none⟩ = false := hk.frozen 2
        have x0 : w1.cell? ⟨w.heap.size, 2, none⟩ = _ := hk.cell 2
        have hk2 : Blk (w1.setCell ⟨w.heap.size, 2, none⟩ (.int .u8 (xs.getD (p + 2) 0))) w.heap.size 76 #[.int .u8 (got xs p 3 0), .int .u8 (got xs p 3 1), .int .u8 (got xs p 3 2), .int .u8 (got xs p 3 3)] := hk.set_to 2 _ (by rfl)
        have hr2 := hr1.store (M := w.heap.size) hN 2 (.int .u8 (xs.getD (p + 2) 0))
        have hg2 := only_trans (only_trans HG.out hg1 (fun k hk => .inl hk)) (only_store w1 w.heap.size 2 (.int .u8 (xs.getD (p + 2) 0))) (fun k hk => .inr (by cases hk; exact Nat.le_refl _))
        have HK2 := Lib.hid hk2
        have HR2 := Lib.hid hr2
        have HG2 := Lib.hid hg2
        clear hk hk2 hr1 hr2 hg1 hg2
        go_wp2
        go_roundw
        case rel => exact ⟨3, by omega, by go_num, HR2.out, HK2.out, HG2.out⟩
        case measure => simp [intOf]
      · have hi' : u5 = .int .i64 3 := hi
        clear hi; subst hi'
        go_wp2_with fail
        refine (HN.out 3 _ HR.out).mono ?_
        rintro e w1 ⟨rfl, hr1, hg1⟩
        have hk := HK.out.only hg1 (by intro e; cases e; omega)
        have f0 : w1.frozen? ⟨w.heap.size, 3, none⟩ = false := hk.frozen 3
        have x0 : w1.cell? ⟨w.heap.size, 3, none⟩ = _ := hk.cell 3
        have hk2 : Blk (w1.setCell ⟨w.heap.size, 3, none⟩ (.int .u8 (xs.getD (p + 3) 0))) w.heap.size 76 #[.int .u8 (got xs p 4 0), .int .u8 (got xs p 4 1), .int .u8 (got xs p 4 2), .int .u8 (got xs p 4 3)] := hk.set_to 3 _ (by rfl)
        have hr2 := hr1.store (M := w.heap.size) hN 3 (.int .u8 (xs.getD (p + 3) 0))
        have hg2 := only_trans (only_trans HG.out hg1 (fun k hk => .inl hk)) (only_store w1 w.heap.size 3 (.int .u8 (xs.getD (p + 3) 0))) (fun k hk => .inr (by cases hk; exact Nat.le_refl _))
        have HK2 := Lib.hid hk2
        have HR2 := Lib.hid hr2
        have HG2 := Lib.hid hg2
        clear hk hk2 hr1 hr2 hg1 hg2
        go_wp2
        go_roundw
        case rel => exact ⟨4, by omega, by go_num, HR2.out, HK2.out, HG2.out⟩
        case measure => simp [intOf]
    · obtain rfl : j = 4 := by omega
      have hi' : u5 = .int .i64 4 := hi
      clear hi; subst hi'
      have x0 : wr.cell? ⟨w.heap.size, 0, none⟩ = some (.int .u8 (xs.getD p 0)) := HK.out.cell 0
      have x1 : wr.cell? ⟨w.heap.size, 1, none⟩ = some (.int .u8 (xs.getD (p + 1) 0)) := HK.out.cell 1
      have x2 : wr.cell? ⟨w.heap.size, 2, none⟩ = some (.int .u8 (xs.getD (p + 2) 0)) := HK.out.cell 2
      have x3 : wr.cell? ⟨w.heap.size, 3, none⟩ = some (.int .u8 (xs.getD (p + 3) 0)) := HK.out.cell 3
      generalize ha : xs.getD p 0 = a at *
      have Ha := Lib.hid ha
      clear ha
      generalize hb : xs.getD (p + 1) 0 = b at *
      have Hb := Lib.hid hb
      clear hb
      generalize hc : xs.getD (p + 2) 0 = c at *
      have Hc := Lib.hid hc
      clear hc
      generalize hd : xs.getD (p + 3) 0 = d at *
      have Hd := Lib.hid hd
      clear hd
      go_wp2_with fail
      refine (HO.out _).mono ?_
      rintro e w1 ⟨rfl, hb⟩
      go_wp2
      go_ret
      exact ⟨ret_int (by rw [Ha.out, Hb.out, Hc.out, Hd.out]), HR.out.next hb, only_trans HG.out (below_only hb (r := some N)) (fun k hk => .inl hk)⟩
end Go.Proofs.YtfcfnfofihpegaaDoor
