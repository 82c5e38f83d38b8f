/- Contracts of wire's reader: a key, a yes or no, the sources, over the seat's program. -/
import Derived.Test.YtfcfnfofihpegaaDoorW10
import Derived.Test.YtfcfnfofihpegaaDoorRefS
namespace Go.Proofs.YtfcfnfofihpegaaDoor
open Go.RowKit Sm
def keyOf (B N : Nat) (xs : List Int) (p : Nat) (od : Bool) (w : World) (e : Ending) (w' : World) : Prop :=
  e = .returned (.agg #[.int .u32 (ra xs p), .int .u32 (ra xs (p + 4))]) ∧ RS B w' N xs (p + 8) od ∧ w.grownBy w' (some N)
set_option maxHeartbeats 1000000 in
theorem key_rd (B N : Nat) (xs : List Int) (p : Nat) (od : Bool) (w : World) (h : RS B w N xs p od) :
    Calls Tryd.prog 54 #[.pointer (some ⟨N, 0, none⟩)] w (keyOf B N xs p od w) := by
  have hN := h.lt
  have H1 := Lib.hid (fun W h => address_rd B N xs p od W h)
  have H2 := Lib.hid (fun W h => address_rd B N xs (p + 4) od W h)
  have HR0 := Lib.hid (h.alloc (.cells #[.int .u32 0, .int .u32 0] 25))
  have HK0 := Lib.hid (Blk.new w 25 #[.int .u32 0, .int .u32 0])
  unfold keyOf
  unfold addrOf at *
  generalize hu : ra xs p = u at *
  generalize hv : ra xs (p + 4) = v at *
  have HU := Lib.hid hu
  have HV := Lib.hid hv
  clear h hu hv
  go_enter Tryd.func54, Tryd.ntmps54
  go_wp2_with fail
  refine (H1.out _ HR0.out).mono ?_
  rintro e w1 ⟨rfl, hr1, hg1⟩
  have HR1 := Lib.hid hr1
  have HK1 := Lib.hid (HK0.out.only hg1 (by intro e; cases e; omega))
  clear hr1
  go_wp2_with fail
  refine (H2.out _ HR1.out).mono ?_
  rintro e w2 ⟨rfl, hr2, hg2⟩
  have hk2 := HK1.out.only hg2 (by intro e; cases e; omega)
  have f0 : w2.frozen? ⟨w.heap.size, 0, none⟩ = false := hk2.frozen 0
  have f1 : w2.frozen? ⟨w.heap.size, 1, none⟩ = false := hk2.frozen 1
  have x0 : w2.cell? ⟨w.heap.size, 0, none⟩ = some (.int .u32 0) := hk2.cell 0
  have x1 : w2.cell? ⟨w.heap.size, 1, none⟩ = some (.int .u32 0) := hk2.cell 1
  have HR2 := Lib.hid hr2
  have HG := Lib.hid (only_trans (only_trans (only_alloc w (.cells #[.int .u32 0, .int .u32 0] 25) (some N)) hg1 (fun k hk => .inl hk)) hg2 (fun k hk => .inl hk))
  clear hr2 hg1 hg2 hk2
  go_wp2
  refine bodyPost_ret (v := .agg #[.int .u32 u, .int .u32 v]) (by simp [results, Tryd.results54, go_sem, x0, x1]) rfl ?_
  have hs : ∀ W : World, w.grownBy W (some N) → ∀ i u, w.grownBy (W.setCell ⟨w.heap.size, i, none⟩ u) (some N) := fun W hW i u => only_trans hW (only_store W w.heap.size i u) (fun k hk => .inr (by cases hk; exact Nat.le_refl _))
  exact ⟨rfl, (HR2.out.store hN 0 _).store hN 1 _, hs _ (hs _ HG.out _ _) _ _⟩
def yesOf (B N : Nat) (xs : List Int) (p : Nat) (od : Bool) (w : World) (e : Ending) (w' : World) : Prop :=
  e = .returned (.bool (decide (xs.getD p 0 = 1))) ∧ RS B w' N xs (p + 1) (od || decide (1 < xs.getD p 0)) ∧ w.grownBy w' (some N)
theorem RS.odd {B N p : Nat} {w : World} {xs : List Int} {od : Bool} (h : RS B w N xs p od) (v : Bool) : RS B (w.setCell ⟨N, 2, none⟩ (.bool v)) N xs p v ∧ w.frozen? ⟨N, 2, none⟩ = false ∧ w.cell? ⟨N, 2, none⟩ = some (.bool od) := by
  obtain ⟨h1, h2, A, n, c, h3, h4, h5, h6⟩ := h
  refine ⟨⟨h1, h2, A, n, c, h3.set_to 2 _ rfl, h4, h5, fun hn => ?_⟩, h3.frozen 2, h3.cell 2⟩
  obtain ⟨b, o, e, hlt, hc⟩ := h6 hn
  exact ⟨b, o, e, hlt, fun i hi => (World.cell?_of_block (a := ⟨b, o + i, none⟩) (Below.heap_setCell w ⟨N, 2, none⟩ _ b (by simp; omega))).trans (hc i hi)⟩
theorem yes_rd (B N : Nat) (xs : List Int) (p : Nat) (od : Bool) (w : World) (h : RS B w N xs p od) :
    Calls Tryd.prog 55 #[.pointer (some ⟨N, 0, none⟩)] w (yesOf B N xs p od w) := by
  have H1 := Lib.hid (next_any B N xs p od w h)
  unfold yesOf
  unfold byteOf at *
  generalize hu : xs.getD p 0 = u at *
  have HU := Lib.hid hu
  clear h hu
  cases od
  · go_enter Tryd.func55, Tryd.ntmps55
    go_wp2_with fail
    refine H1.out.mono ?_
    rintro e w1 ⟨rfl, hr1, hg1⟩
    obtain ⟨q, f2, x2⟩ := hr1.odd (decide (1 < u))
    have HR := Lib.hid q
    have HG := Lib.hid (only_trans hg1 (only_store w1 N 2 (.bool (decide (1 < u)))) (fun k hk => .inl hk))
    clear hr1 hg1 q
    go_wp2
    go_ret
    exact ⟨ret_bool (by rw [Bool.eq_iff_iff]; simp), by rw [Bool.false_or]; exact HR.out, HG.out⟩
  · go_enter Tryd.func55, Tryd.ntmps55
    go_wp2_with fail
    refine H1.out.mono ?_
    rintro e w1 ⟨rfl, hr1, hg1⟩
    obtain ⟨q, f2, x2⟩ := hr1.odd true
    have HR := Lib.hid q
    have HG := Lib.hid (only_trans hg1 (only_store w1 N 2 (.bool true)) (fun k hk => .inl hk))
    clear hr1 hg1 q
    go_wp2
    go_ret
    exact ⟨ret_bool (by rw [Bool.eq_iff_iff]; simp), by rw [Bool.true_or]; exact HR.out, HG.out⟩
theorem info_u32 : (Tryd.prog.info? 23).map (fun i => (i.zero, i.size, i.bytes)) = some (some (.int .u32 0), 1, 4) := by kernel_rfl
def srcOf (B N : Nat) (xs : List Int) (p : Nat) (od : Bool) (w : World) (e : Ending) (w' : World) : Prop :=
  ∃ A c, e = .returned (.slice A (xs.getD p 0).toNat c) ∧ AR w' A (xs.getD p 0).toNat (ras xs (p + 1) (xs.getD p 0).toNat) ∧ (∀ b o, A = some ⟨b, o, none⟩ → w.heap.size ≤ b) ∧ RS B w' N xs (p + 1 + 4 * (xs.getD p 0).toNat) od ∧ w.grownBy w' (some N)
theorem own_ne {w : World} {base N n : Nat} {e : TypeId} {v : Value} {ys : List Value} (h : w.ownsRow base e 1 v n ys) (hN : N < base) : v.ownBlock = none ∨ v.ownBlock ≠ some N := by
  cases hv : v.ownBlock with
  | none => exact .inl rfl
  | some g => exact .inr (by intro e'; cases e'; have := (h.lt N hv).1; omega)
set_option maxHeartbeats 1000000 in
theorem sources_rd (B N : Nat) (xs : List Int) (p : Nat) (od : Bool) (w : World) (h : RS B w N xs p od) :
    Calls Tryd.prog 56 #[.pointer (some ⟨N, 0, none⟩)] w (srcOf B N xs p od w) := by
  have hN := h.lt
  have hu := h.isB.at_ p
  have HIB := Lib.hid h.isB
  obtain ⟨i0, hi, hz0, hz1, hz2⟩ := info_parts info_u32
  have H1 := Lib.hid (next_any B N xs p od w h)
  have HD := Lib.hid (fun q W h => address_rd B N xs (p + 1 + 4 * q) od W h)
  unfold srcOf
  unfold byteOf addrOf at *
  obtain ⟨m, hm⟩ := Int.eq_ofNat_of_zero_le hu.1
  rw [hm] at H1 hu
  have hmm : (Int.ofNat m).toNat = m := rfl
  replace hm : xs.getD p 0 = (m : Int) := hm
  have HM := Lib.hid hm
  clear h hm hmm
  go_enter Tryd.func56, Tryd.ntmps56
  go_wp2_with fail
  refine H1.out.mono ?_
  rintro e w1 ⟨rfl, hr1, hg1⟩
  have HR1 := Lib.hid hr1
  have HG1 := Lib.hid hg1
  clear hr1 hg1
  go_wp2_with fail
  go_loopw [3, 7] (fun v i wr => ∃ k : Nat, k ≤ m ∧ i = .int .i64 k ∧ wr.ownsRow w.heap.size 23 1 v k (A32 (ras xs (p + 1) k)) ∧ RS B wr N xs (p + 1 + 4 * k) od ∧ w.grownBy wr (some N)) (fun _ i _ => m - (intOf i).toNat)
  case atStart => exact ⟨0, Nat.zero_le _, rfl, World.ownsRow_nil _ _ _ _, HR1.out, HG1.out⟩
  case round =>
    obtain ⟨k, hk, rfl, hown, hR, hG⟩ := hrel
    clear HR1 HG1
    have HO := Lib.hid hown
    have HR := Lib.hid hR
    have HG := Lib.hid hG
    clear hown hR hG
    rcases Nat.lt_or_ge k m with hlt | hge
    · have HS := Lib.hid (ras_snoc xs k (p + 1))
      have hi0 : (k : Int) < m := by omega
      go_wp2_with fail
      refine (HD.out k _ HR.out).mono ?_
      rintro e w2 ⟨rfl, hr2, hg2⟩
      have hO2 := HO.out.kept hg2 (own_ne HO.out hN)
      have HO2 := Lib.hid hO2
      have HR2 := Lib.hid hr2
      have HG2 := Lib.hid (only_trans HG.out hg2 (fun k hk => .inl hk))
      clear hO2 hr2 hg2
      have hsz := HG2.out.size
      generalize ra xs (p + 1 + 4 * k) = u at *
      go_wp2_with (at_builtin; refine wpList_append_own _ rfl _ _ 26 rfl w.heap.size 23 i0 (.int .u32 0) 1 4 Tryd.underlying26 hi hz0 hz1 hz2 rfl (by decide) _ k _ rfl (HO2.out.alloc _) ⟨w2.heap.size, 0, none⟩ 1 1 [.int .u32 u] rfl rfl (cell_one_new _ _ _) (by intro x hx; simp at hx; subst hx; rfl) (by unfold maxLen; omega) (by omega) (by simp; omega) ?_; intro v3 w3 hown3 hgrow3 _)
      have hr3 : RS B w3 N xs (p + 1 + 4 * k + 4) od := by
        have hr := HR2.out.alloc (.cells #[.int .u32 u] 23)
        have hne := own_ne (HO2.out.alloc (.cells #[.int .u32 u] 23)) hN
        refine hr.keep ⟨hgrow3.os, hgrow3.tape, hgrow3.output, hgrow3.size, fun b hb => hgrow3.block b (by have := hr.lt; have := hr.le; omega) ?_⟩ (hgrow3.block N hr.lt ?_)
        · intro e
          have := (HO2.out.lt b e.symm).1
          have := HR2.out.le
          omega
        · intro e
          rcases hne with h | h
          · exact absurd (e.trans h) (by simp)
          · exact h e.symm
      have hg3 : w.grownBy w3 (some N) := only_trans (only_trans HG2.out (only_alloc w2 (.cells #[.int .u32 u] 23) (some N)) (fun k hk => .inl hk)) hgrow3 (fun b hb => .inr (HO2.out.lt b hb).1)
      have hown3 : w3.ownsRow w.heap.size 23 1 v3 (k + 1) (A32 (ras xs (p + 1) (k + 1))) := by rw [HS.out, A32_app]; exact hown3
      have HO3 := Lib.hid hown3
      have HR3 := Lib.hid hr3
      have HG3 := Lib.hid hg3
      clear hown3 hr3 hg3 hgrow3
      go_wp2
      go_roundw
      case rel => exact ⟨k + 1, by omega, by go_num, HO3.out, HR3.out, HG3.out⟩
      case measure => simp [intOf]; omega
    · obtain rfl : k = m := by omega
      obtain ⟨A, c, hv⟩ := own_slicea HO.out
      subst hv
      go_wp2
      go_ret
      have hk : (xs.getD p 0).toNat = k := by rw [HM.out]; rfl
      exact ⟨A, c, by rw [hk]; rfl, by rw [hk]; exact (own_ar HO.out (ras_b HIB.out _ _)).1, fun b o e => by subst e; exact (HO.out.lt b rfl).1, by rw [hk]; exact HR.out, HG.out⟩
end Go.Proofs.YtfcfnfofihpegaaDoor
