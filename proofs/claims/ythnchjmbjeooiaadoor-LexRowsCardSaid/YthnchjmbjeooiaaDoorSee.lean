/- Contracts of the statements' helper that tells which of the project's errors an error is. Condition: the fourteen errors lie in their variables, each a pointer of its own. -/
import Derived.Test.YthnchjmbjeooiaaDoorSentP
import Derived.Test.YthnchjmbjeooiaaDoorProg
import Derived.WalkKit
import Derived.Below
import Derived.BigQuiet
import Derived.Deep.QuietTactic
import Derived.Deep.RegionHeld3
import Derived.Lib.Hide
import Derived.LaidEql
namespace Go.Proofs.YthnchjmbjeooiaaDoor
open Go.RowKit
/-- an error of the project's at an address -/
def ev (a : Addr) : Value := .iface 113 (.pointer (some a))
/-- the errors' variables, in the helper's order -/
def errG : List Nat := [7, 8, 2, 0, 9, 10, 1, 11, 3, 12, 13, 14, 15, 16]
def EnvS (ads : List Addr) (w : World) : Prop :=
  ads.length = 14 ∧ ads.Nodup ∧ (∀ (i g : Nat) (a : Addr), errG[i]? = some g → ads[i]? = some a → w.cell? ⟨g, 0, none⟩ = some (ev a)) ∧ ∀ a ∈ ads, ∃ c t, w.heap[a.block]? = some (.cells c t (0, 0))
theorem EnvS.below {ads : List Addr} {w w' : World} (h : EnvS ads w) (hb : Below w.heap.size w w') : EnvS ads w' := by
  obtain ⟨h1, h2, h3, h4⟩ := h
  refine ⟨h1, h2, fun i g a hg ha => (hb.cell (World.block_lt_of_cell? w _ (h3 i g a hg ha))).trans (h3 i g a hg ha), fun a ha => ?_⟩
  obtain ⟨c, t, hh⟩ := h4 a ha
  refine ⟨c, t, (hb.block a.block ?_).trans hh⟩
  rcases Nat.lt_or_ge a.block w.heap.size with hlt | hge
  · exact hlt
  · rw [Array.getElem?_eq_none hge] at hh; cases hh
def ivs (ads : List Addr) : Array Value := (ads.map ev).toArray
theorem eql_same (a : Addr) (w : World) : (binOp .eql 25 (ev a) (ev a)).run Tryd.prog w = .ok (.bool true) w := by
  obtain ⟨i, hi, hi2⟩ := Option.map_eq_some_iff.1 (show (Tryd.prog.info? 113).map (·.comparable) = some true by kernel_rfl)
  obtain ⟨j, hj, hj2⟩ := Option.map_eq_some_iff.1 (show (Tryd.prog.info? 115).map (·.size) = some 1 by kernel_rfl)
  exact run_eql_iface_ptr_same w a Tryd.underlying25 Tryd.underlying113 hi hi2 hj
theorem eql_other {a b : Addr} {ca cb : Array Value} {ta tb : TypeId} (w : World) (hne : a ≠ b) (ha : w.heap[a.block]? = some (.cells ca ta (0, 0))) (hb : w.heap[b.block]? = some (.cells cb tb (0, 0))) :
    (binOp .eql 25 (ev a) (ev b)).run Tryd.prog w = .ok (.bool false) w := by
  obtain ⟨i, hi, hi2⟩ := Option.map_eq_some_iff.1 (show (Tryd.prog.info? 113).map (·.comparable) = some true by kernel_rfl)
  obtain ⟨j, hj, hj2⟩ := Option.map_eq_some_iff.1 (show (Tryd.prog.info? 115).map (·.size) = some 1 by kernel_rfl)
  exact run_eql_iface_ptr_other w Tryd.underlying25 Tryd.underlying113 hi hi2 hj (by omega) hne ha hb
theorem alike_any (a b : Addr) (w : World) (r : Bool) (hr : (binOp .eql 25 (ev a) (ev b)).run Tryd.prog w = .ok (.bool r) w) :
    Calls Tryd.prog 61 #[ev a, ev b] w fun e w' => e = .returned (.bool r) ∧ w = w' := by
  unfold ev at hr ⊢
  go_enter Tryd.func61, Tryd.ntmps61
  go_wp2
  go_ret
  exact ⟨rfl, rfl⟩
set_option maxRecDepth 100000 in
set_option maxHeartbeats 1000000 in
theorem sentinels_any (ads : List Addr) (w : World) (h : EnvS ads w) :
    Calls Tryd.prog 60 #[] w fun e w' => e = .returned (.slice (some ⟨w.heap.size, 0, none⟩) 14 14) ∧ w' = w.alloc (.cells (ivs ads) 25) := by
  obtain ⟨h1, _, h3, _⟩ := h
  match ads, h1 with
  | [a0, a1, a2, a3, a4, a5, a6, a7, a8, a9, a10, a11, a12, a13], _ =>
    have e0 := h3 0 _ _ rfl rfl
    have e1 := h3 1 _ _ rfl rfl
    have e2 := h3 2 _ _ rfl rfl
    have e3 := h3 3 _ _ rfl rfl
    have e4 := h3 4 _ _ rfl rfl
    have e5 := h3 5 _ _ rfl rfl
    have e6 := h3 6 _ _ rfl rfl
    have e7 := h3 7 _ _ rfl rfl
    have e8 := h3 8 _ _ rfl rfl
    have e9 := h3 9 _ _ rfl rfl
    have e10 := h3 10 _ _ rfl rfl
    have e11 := h3 11 _ _ rfl rfl
    have e12 := h3 12 _ _ rfl rfl
    have e13 := h3 13 _ _ rfl rfl
    clear h3
    unfold ivs
    simp only [List.map_cons, List.map_nil]
    unfold ev at *
    go_enter Tryd.func60, Tryd.ntmps60
    go_wp2
    go_ret
    exact ⟨rfl, rfl⟩
theorem nodup_inj {l : List Addr} (h : l.Nodup) {i j : Nat} {x : Addr} (hi : l[i]? = some x) (hj : l[j]? = some x) : i = j := by
  obtain ⟨h1, e1⟩ := List.getElem?_eq_some_iff.1 hi
  obtain ⟨h2, e2⟩ := List.getElem?_eq_some_iff.1 hj
  have hp := List.pairwise_iff_getElem.1 h
  rcases Nat.lt_trichotomy i j with h3 | h3 | h3
  · exact absurd (e1.trans e2.symm) (hp i j h1 h2 h3)
  · exact h3
  · exact absurd (e2.trans e1.symm) (hp j i h2 h1 h3)
theorem ivs_at (ads : List Addr) (i : Nat) (a : Addr) (h : ads[i]? = some a) : (ivs ads)[i]? = some (ev a) := by
  unfold ivs
  simp [h]
set_option maxRecDepth 100000 in
set_option maxHeartbeats 1000000 in
theorem sentinel_any (ads : List Addr) (j : Nat) (b : Addr) (w : World) (h : EnvS ads w) (hj : j < 14) (hb : ads[j]? = some b) :
    Calls Tryd.prog 45 #[ev b] w fun e w' => e = .returned (.int .i64 (101 + j)) ∧ Below w.heap.size w w' := by
  have HS := Lib.hid (sentinels_any ads w h)
  obtain ⟨h1, h2, _, h4⟩ := h
  have HN := Lib.hid h2
  have HL := Lib.hid h1
  have hst : ∀ a ∈ ads, ∃ c t, (w.alloc (.cells (ivs ads) 25)).heap[a.block]? = some (.cells c t (0, 0)) := fun a ha => by
    obtain ⟨c, t, hh⟩ := h4 a ha
    refine ⟨c, t, (Below.heap_alloc w _ a.block ?_).trans hh⟩
    rcases Nat.lt_or_ge a.block w.heap.size with hlt | hge
    · exact hlt
    · rw [Array.getElem?_eq_none hge] at hh; cases hh
  have HST := Lib.hid hst
  have HK := Lib.hid (Blk.new w 25 (ivs ads))
  have HW := Lib.hid ((Below.refl w.heap.size w).alloc (Nat.le_refl _) (.cells (ivs ads) 25))
  have HB := Lib.hid hb
  clear h1 h2 h4 hst hb
  have hev : ∃ v, v = ev b := ⟨_, rfl⟩
  obtain ⟨v, hv⟩ := hev
  have HV := Lib.hid hv
  rw [← hv]
  clear hv
  go_enter Tryd.func45, Tryd.ntmps45
  go_wp2_with (go_at_call 60; refine HS.out.mono ?_; rintro e w1 ⟨rfl, rfl⟩)
  clear HS
  generalize w.alloc (.cells (ivs ads) 25) = W at *
  go_loop [4] (fun i => ∃ k : Nat, k ≤ j ∧ i = .int .i64 k) (fun i => 14 - (intOf i).toNat)
  case atStart => exact ⟨0, by omega, rfl⟩
  case round =>
    obtain ⟨k, hk, rfl⟩ := hrel
    obtain ⟨a, ha⟩ : ∃ a, ads[k]? = some a := ⟨_, List.getElem?_eq_getElem (by rw [HL.out]; omega)⟩
    have hc : W.cell? ⟨w.heap.size, k, none⟩ = some (ev a) := (HK.out.cell k).trans (ivs_at ads k a ha)
    have HA := Lib.hid ha
    clear ha
    by_cases hkj : k = j
    · have HE : Hid (a = b) := by
        have := HA.out
        rw [hkj, HB.out] at this
        exact (Option.some.inj this).symm
      have HC := Lib.hid (fun W => alike_any b a W true (by rw [HE.out]; exact eql_same b W))
      rw [← HV.out] at HC
      have hk2 : k ≤ j := hk
      have hk3 : j ≤ k := by omega
      clear hkj hk
      go_wp2_with (go_at_call 61; refine (HC.out _).mono ?_; rintro e w2 ⟨rfl, rfl⟩)
      go_ret
      exact ⟨ret_int (by omega), HW.out⟩
    · have HD : Hid (b ≠ a) := by
        intro e
        have h1 := HA.out
        have h2 := HB.out
        rw [← e] at h1
        exact hkj (nodup_inj HN.out h1 h2)
      obtain ⟨ca, ta, hca⟩ := HST.out a (List.mem_of_getElem? HA.out)
      obtain ⟨cb, tb, hcb⟩ := HST.out b (List.mem_of_getElem? HB.out)
      have HC := Lib.hid (alike_any b a W false (eql_other W HD.out hcb hca))
      rw [← HV.out] at HC
      clear hca hcb
      have hk2 : k < j := by omega
      clear hkj hk
      go_wp2_with (go_at_call 61; refine HC.out.mono ?_; rintro e w2 ⟨rfl, rfl⟩)
      go_round
      case rel => exact ⟨k + 1, by omega, by go_num⟩
      case measure => simp [intOf]; omega
theorem not_at (b : Addr) : ∀ w, (Instr.typeAssert (.iface 113 (.pointer (some b))) 25 76 true).run Tryd.prog w = .ok (.tuple #[.pointer none, .bool false]) w := fun w => by kernel_rfl
/-- a fault without a place -/
def fault (c : Int) : Value := .agg #[.int .i64 c, .bool false, .int .i64 0]
theorem bare_any (c : Int) (w : World) :
    Calls Tryd.prog 23 #[.int .i64 c] w fun e w' => e = .returned (fault c) ∧ Below w.heap.size w w' := by
  go_enter Tryd.func23, Tryd.ntmps23
  go_wp2
  exact bodyPost_ret (v := fault c) (by unfold fault; simp [results, Tryd.results23, go_sem]) rfl ⟨rfl, (Below.refl _ _).alloc (Nat.le_refl _) _⟩
theorem sameFault_any (c d : Int) (w : World) :
    Calls Tryd.prog 34 #[fault c, fault d] w fun e w' => e = .returned (.bool (c == d)) ∧ Below w.heap.size w w' := by
  obtain ⟨r, hr⟩ : ∃ r : Bool, (c == d) = r := ⟨_, rfl⟩
  rw [hr]
  unfold fault
  cases r
  all_goals
    go_enter Tryd.func34, Tryd.ntmps34
    go_wp2
    go_ret
    exact ⟨rfl, ((Below.refl _ _).alloc (Nat.le_refl _) _).alloc (by simp) _⟩
set_option maxRecDepth 100000 in
set_option maxHeartbeats 1000000 in
theorem fault_any (ads : List Addr) (j : Nat) (b : Addr) (w : World) (h : EnvS ads w) (hj : j < 14) (hb : ads[j]? = some b) :
    Calls Tryd.prog 35 #[ev b] w fun e w' => e = .returned (fault (101 + j)) ∧ Below w.heap.size w w' := by
  have HS := Lib.hid (fun W h => sentinel_any ads j b W h hj hb)
  have HE := Lib.hid h
  clear h hb
  have hW := (Below.refl w.heap.size w).alloc (Nat.le_refl _) (.cells #[.int .i64 0, .bool false, .int .i64 0] 58)
  have HE1 := Lib.hid (HE.out.below hW)
  have HK1 := Lib.hid (Blk.new w 58 #[.int .i64 0, .bool false, .int .i64 0])
  have HW1 := Lib.hid hW
  clear hW
  unfold ev at *
  go_enter Tryd.func35, Tryd.ntmps35
  have hta := not_at b
  go_wp2_with (first
    | (go_at_call 45; refine (HS.out _ HE1.out).mono ?_; rintro e w1 ⟨rfl, hb1⟩
       have HK2 := Lib.hid (HK1.out.next hb1)
       have HW2 := Lib.hid (HW1.out.trans (hb1.mono HW1.out.size))
       clear hb1)
    | (go_at_call 23; refine (bare_any _ _).mono ?_; rintro e w2 ⟨rfl, hb2⟩; unfold fault
       have hk := HK2.out.next hb2
       have hc0 : w2.cell? ⟨w.heap.size, 0, none⟩ = some (.int .i64 0) := hk.cell 0
       have hc1 : w2.cell? ⟨w.heap.size, 1, none⟩ = some (.bool false) := hk.cell 1
       have hc2 : w2.cell? ⟨w.heap.size, 2, none⟩ = some (.int .i64 0) := hk.cell 2
       have hf0 : w2.frozen? ⟨w.heap.size, 0, none⟩ = false := hk.frozen 0
       have hf1 : w2.frozen? ⟨w.heap.size, 1, none⟩ = false := hk.frozen 1
       have hf2 : w2.frozen? ⟨w.heap.size, 2, none⟩ = false := hk.frozen 2
       have HW3 := Lib.hid (HW2.out.trans (hb2.mono HW2.out.size))
       clear hk hb2))
  exact bodyPost_ret (v := fault (101 + j)) (by unfold fault; simp [results, Tryd.results35, go_sem, hc0, hc1, hc2]) rfl ⟨rfl, ((HW3.out.setCell (Nat.le_refl _) _).setCell (Nat.le_refl _) _).setCell (Nat.le_refl _) _⟩
/-- three cells of an elder block -/
theorem three_new {w : World} (N : Nat) (u v x : Value) (t : TypeId) (hN : N = w.heap.size) : (w.alloc (.cells #[u, v, x] t)).drew.cell? ⟨N, 0, none⟩ = some u ∧ (w.alloc (.cells #[u, v, x] t)).drew.cell? ⟨N, 1, none⟩ = some v ∧ (w.alloc (.cells #[u, v, x] t)).drew.cell? ⟨N, 2, none⟩ = some x ∧
    N < (w.alloc (.cells #[u, v, x] t)).drew.heap.size ∧ Below N w (w.alloc (.cells #[u, v, x] t)).drew := by
  subst hN
  refine ⟨by go_simp, by go_simp, by go_simp, by simp, ((Below.refl _ _).alloc (Nat.le_refl _) _).drew⟩
theorem three_next {N : Nat} {w W w1 : World} {x y z : Option Value} (h : W.cell? ⟨N, 0, none⟩ = x ∧ W.cell? ⟨N, 1, none⟩ = y ∧ W.cell? ⟨N, 2, none⟩ = z ∧ N < W.heap.size ∧ Below N w W) (hb : Below W.heap.size W w1) :
    w1.cell? ⟨N, 0, none⟩ = x ∧ w1.cell? ⟨N, 1, none⟩ = y ∧ w1.cell? ⟨N, 2, none⟩ = z ∧ N < w1.heap.size ∧ Below N w w1 :=
  ⟨(hb.cell (p := ⟨N, 0, none⟩) h.2.2.2.1).trans h.1, (hb.cell (p := ⟨N, 1, none⟩) h.2.2.2.1).trans h.2.1, (hb.cell (p := ⟨N, 2, none⟩) h.2.2.2.1).trans h.2.2.1, Nat.lt_of_lt_of_le h.2.2.2.1 hb.size, h.2.2.2.2.trans (hb.mono (Nat.le_of_lt h.2.2.2.1))⟩
theorem envS_of {ads : List Addr} {w W : World} {x y z : Option Value} (h : EnvS ads w) (g : W.cell? ⟨w.heap.size, 0, none⟩ = x ∧ W.cell? ⟨w.heap.size, 1, none⟩ = y ∧ W.cell? ⟨w.heap.size, 2, none⟩ = z ∧ w.heap.size < W.heap.size ∧ Below w.heap.size w W) : EnvS ads W := h.below g.2.2.2.2
set_option maxRecDepth 100000 in
set_option maxHeartbeats 1000000 in
theorem same_err (ads : List Addr) (j : Nat) (b : Addr) (c : Int) (w : World) (h : EnvS ads w) (hj : j < 14) (hb : ads[j]? = some b) :
    Calls Tryd.prog 22 #[ev b, fault c] w fun e w' => e = .returned (.bool (((101 + j : Nat) : Int) == c)) ∧ Below w.heap.size w w' := by
  have HF := Lib.hid (fun W h => fault_any ads j b W h hj hb)
  have HE := Lib.hid h
  obtain ⟨v, hv⟩ : ∃ v, v = ev b := ⟨_, rfl⟩
  rw [← hv] at HF ⊢
  have e1 : ((101 + j : Nat) : Int) = 101 + (j : Int) := by omega
  rw [e1]
  have HS := Lib.hid (fun W => sameFault_any (101 + j) c W)
  have HQ : Hid (∀ r : Bool, r = ((101 + (j : Int)) == c) → True) := fun _ _ => trivial
  clear h hb hv e1 HQ
  unfold fault at *
  go_enter Tryd.func22, Tryd.ntmps22
  go_wp2_with fail
  go_region_held3 (fun w' => w'.cell? ⟨w.heap.size, 0, none⟩ = some (.int .i64 c) ∧ w'.cell? ⟨w.heap.size, 1, none⟩ = some (.bool false) ∧ w'.cell? ⟨w.heap.size, 2, none⟩ = some (.int .i64 0) ∧ w.heap.size < w'.heap.size ∧ Below w.heap.size w w')
    (first | exact three_new _ _ _ _ _ rfl | exact three_next (by assumption) (by assumption) | assumption)
    (first
    | (go_at_call 35; refine (HF.out _ ?_).mono ?_
       · first | exact HE.out.below (three_new _ _ _ _ _ rfl).2.2.2.2 | exact envS_of HE.out (by assumption)
       rintro e w1 ⟨rfl, hb1⟩)
    | (go_at_call 34; refine (HS.out _).mono ?_; rintro e w2 ⟨rfl, hb2⟩))
  go_wp2
  go_ret
  rename_i hS
  exact ⟨rfl, hS.2.2.2.2⟩
theorem is_any (ads : List Addr) (j : Nat) (b : Addr) (c : Int) (w : World) (h : EnvS ads w) (hj : j < 14) (hb : ads[j]? = some b) :
    Calls Tryd.prog 11 #[ev b, .int .i64 c] w fun e w' => e = .returned (.bool (((101 + j : Nat) : Int) == c)) ∧ Below w.heap.size w w' := by
  have HS := Lib.hid (fun W h => same_err ads j b c W h hj hb)
  have HE := Lib.hid h
  clear h hb
  obtain ⟨r, hr⟩ : ∃ r : Bool, (((101 + j : Nat) : Int) == c) = r := ⟨_, rfl⟩
  rw [hr] at HS ⊢
  clear hr
  obtain ⟨v, hv⟩ : ∃ v, v = ev b := ⟨_, rfl⟩
  rw [← hv] at HS ⊢
  clear hv
  go_enter Tryd.func11, Tryd.ntmps11
  go_wp2_with (first
    | (go_at_call 23; refine (bare_any _ _).mono ?_; rintro e w1 ⟨rfl, hb1⟩
       have HB1 := Lib.hid hb1
       clear hb1)
    | (go_at_call 22; refine (HS.out _ (HE.out.below HB1.out)).mono ?_; rintro e w2 ⟨rfl, hb2⟩))
  go_ret
  exact ⟨rfl, HB1.out.trans (hb2.mono HB1.out.size)⟩
end Go.Proofs.YthnchjmbjeooiaaDoor
