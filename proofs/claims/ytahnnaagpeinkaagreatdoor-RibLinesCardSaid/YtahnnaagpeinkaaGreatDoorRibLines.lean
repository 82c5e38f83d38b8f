/- In a line each router knows each link: by the next one towards it, at its cost. -/
import Derived.Test.YtahnnaagpeinkaaGreatDoorRl
import Derived.Test.YtahnnaagpeinkaaGreatDoorAddr
namespace Go.Proofs.YtahnnaagpeinkaaGreatDoor
open Go.RowKit Lx Sm Go.Maps
theorem numb (a b : Int) (n : Nat) (hb : 0 < b) (hb1 : b ≤ 4294967296) (h : a % b = (n : Int)) (w : World) :
    Calls Tryz.prog 19 #[.int .i64 a, .int .i64 b] w fun e w' => e = .returned (.int .i64 (n : Int)) ∧ w = w' := by
  have := number_any a b w hb hb1
  rwa [h] at this
set_option maxHeartbeats 8000000 in
set_option maxRecDepth 100000 in
theorem law_rlines (ads : List Addr) (a0 a1 a2 : Int) (w : World) (hE : EnvC ads w) :
    Calls Tryz.prog 4 #[.int .i64 a0, .int .i64 a1, .int .i64 a2] w fun e w' => e = .returned (.bool true) ∧ Below w.heap.size w w' := by
  have HF := Lib.hid (first9_any ads w hE)
  have HE := Lib.hid hE
  obtain ⟨m0, hm0, h0⟩ : ∃ m0 : Nat, m0 < 7 ∧ a0 % 7 = (m0 : Int) := ⟨(a0 % 7).toNat, by omega, by omega⟩
  obtain ⟨m, hm⟩ : ∃ m : Nat, (m0 : Int) + 1 = (m : Int) := ⟨m0 + 1, by omega⟩
  obtain ⟨q, hq, h1⟩ : ∃ q : Nat, q < m ∧ a1 % (m : Int) = (q : Int) := ⟨(a1 % (m : Int)).toNat, by
    have := Int.emod_lt_of_pos a1 (show (0 : Int) < (m : Int) by omega); have := Int.emod_nonneg a1 (show (m : Int) ≠ 0 by omega); omega, by
    have := Int.emod_nonneg a1 (show (m : Int) ≠ 0 by omega); omega⟩
  obtain ⟨l, hl, h2⟩ : ∃ l : Nat, l ≤ m ∧ a2 % ((m : Int) + 1) = (l : Int) := ⟨(a2 % ((m : Int) + 1)).toNat, by
    have := Int.emod_lt_of_pos a2 (show (0 : Int) < ((m : Int) + 1) by omega); have := Int.emod_nonneg a2 (show ((m : Int) + 1) ≠ 0 by omega); omega, by
    have := Int.emod_nonneg a2 (show ((m : Int) + 1) ≠ 0 by omega); omega⟩
  have hm8 : m ≤ 7 := by omega
  have N0 := Lib.hid fun W => numb a0 7 m0 (by decide) (by decide) h0 W
  have N1 := Lib.hid fun W => numb a1 (m : Int) q (by omega) (by omega) h1 W
  have N2 := Lib.hid fun W => numb a2 ((m : Int) + 1) l (by omega) (by omega) h2 W
  have HL := Lib.hid fun W => line_any m 0 (by omega) (by decide) W
  rw [show ((0 : Nat) : Int) = 0 from rfl] at HL
  have HA := Lib.hid fun W => naddr_any l 77 (by omega) (by decide) W
  have HA1 := Lib.hid fun W => naddr_any q q (by omega) (by omega) W
  have HA2 := Lib.hid fun W => naddr_any (q + 1) (q + 2) (by omega) (by omega) W
  rw [show ((q + 1 : Nat) : Int) = (q : Int) + 1 by omega, show ((q + 2 : Nat) : Int) = (q : Int) + 2 by omega] at HA2
  have HW := Lib.hid (rib_line_n m q l (by omega) hq hl)
  clear hE h0 h1 h2
  go_enter Tryz.func4, Tryz.ntmps4
  go_upto_region 5 with (first
    | (go_at_call 9; refine HF.out.mono ?_; rintro e w1 ⟨rfl, hb1⟩; have HB1 := Lib.hid hb1; clear hb1)
    | (go_at_call_of 19 (Value.int IntKind.i64 a0); refine (N0.out _).mono ?_; rintro e w2 ⟨rfl, rfl⟩))
  have HM := Lib.hid hm
  clear hm
  go_upto_region 10 with (first
    | (go_at_call_of 19 (Value.int IntKind.i64 a1); refine (N1.out _).mono ?_; rintro e w2 ⟨rfl, rfl⟩)
    | (go_at_call_of 19 (Value.int IntKind.i64 a2); refine (N2.out _).mono ?_; rintro e w2 ⟨rfl, rfl⟩)
    | (go_at_call 20; refine (HL.out _).mono ?_; rintro e w3 ⟨M, rfl, hcw, hb3⟩; have HB3 := Lib.hid (below_next HB1.out hb3); have HN := Lib.hid (new_ok ads M (lineCfg m 0) [] w3 (HE.out.below HB3.out) hcw (line_valid ⟨m, by omega⟩) (line_rn m 0) (line_ln m 0) (fun W _ => groups0_any M W hcw.s.len.symm hcw.m.len.symm) (line_ports m 0) (fun y hy => (by cases hy))); clear hcw hb3)
    | (go_at_call 11; refine HN.out.mono ?_; rintro e w4 ⟨T, x', rfl, hT, hal, hb4⟩; have HT := Lib.hid hT; have HAL := Lib.hid hal; have HB4 := Lib.hid (below_next HB3.out hb4); clear hT hal hb4))
  have HLK := Lib.hid fun W (hW : Below w4.heap.size w4 W) => look_at HAL.out (line_ribok (n := m) (by omega)) (line_rn m 0) (line_ln m 0) (q : Int) (adr l 77) W (HT.out.next hW)
  rw [HW.out] at HLK
  by_cases c1 : l < q
  · rw [if_pos c1] at HLK
    have hi0 : (l : Int) < (q : Int) := by omega
    have hw1 : wrap64 (2 * (q : Int)) = 2 * (q : Int) := by unfold wrap64; omega
    have hw2 : wrap64 ((q : Int) - (l : Int)) = (q : Int) - (l : Int) := by unfold wrap64; omega
    go_upto_region 14 with (first
      | (go_at_call 21; refine (HA.out _).mono ?_; rintro e w5 ⟨rfl, rfl⟩)
      | (go_at_call 14; refine (HLK.out _ (Below.refl _ _)).mono ?_; rintro e w6 ⟨rfl, hb6⟩; have HB6 := Lib.hid (below_next HB4.out hb6); clear hb6))
    have s0 : (w6.alloc (.cells #[.int .i64 (2 * (q : Int)), .int .u32 (adr q q), .int .i64 ((q : Int) - (l : Int))] 45)).cell? ⟨w6.heap.size, 0, none⟩ = some (.int .i64 (2 * (q : Int))) := by go_simp
    have s1 : (w6.alloc (.cells #[.int .i64 (2 * (q : Int)), .int .u32 (adr q q), .int .i64 ((q : Int) - (l : Int))] 45)).cell? ⟨w6.heap.size, 1, none⟩ = some (.int .u32 (adr q q)) := by go_simp
    have s2 : (w6.alloc (.cells #[.int .i64 (2 * (q : Int)), .int .u32 (adr q q), .int .i64 ((q : Int) - (l : Int))] 45)).cell? ⟨w6.heap.size, 2, none⟩ = some (.int .i64 ((q : Int) - (l : Int))) := by go_simp
    have HB7 := Lib.hid (HB6.out.alloc HB6.out.size (.cells #[.int .i64 (2 * (q : Int)), .int .u32 (adr q q), .int .i64 ((q : Int) - (l : Int))] 45))
    generalize w6.alloc (.cells #[.int .i64 (2 * (q : Int)), .int .u32 (adr q q), .int .i64 ((q : Int) - (l : Int))] 45) = W7 at *
    go_quiet ((go_at_call 21; exact (Calls.quiet_of_same ((HA1.out _).mono fun _ _ hh => ⟨hh.1, hh.2⟩))))
    go_wp2
    go_ret
    exact ⟨rfl, below_drewN HB7.out _⟩
  · rw [if_neg c1] at HLK
    by_cases c2 : q + 1 < l
    · rw [if_pos c2] at HLK
      have hi0 : ¬ ((l : Int) < (q : Int)) := by omega
      have hi1 : (q : Int) + 1 < (l : Int) := by omega
      have hw1 : wrap64 (2 * (q : Int) + 1) = 2 * (q : Int) + 1 := by unfold wrap64; omega
      have hw0 : wrap64 (2 * (q : Int)) = 2 * (q : Int) := by unfold wrap64; omega
      have hw2 : wrap64 ((l : Int) - (q : Int)) = (l : Int) - (q : Int) := by unfold wrap64; omega
      go_upto_region 16 with (first
        | (go_at_call 21; refine (HA.out _).mono ?_; rintro e w5 ⟨rfl, rfl⟩)
        | (go_at_call 14; refine (HLK.out _ (Below.refl _ _)).mono ?_; rintro e w6 ⟨rfl, hb6⟩; have HB6 := Lib.hid (below_next HB4.out hb6); clear hb6))
      have s0 : (w6.alloc (.cells #[.int .i64 (2 * (q : Int) + 1), .int .u32 (adr (q + 1) (q + 2)), .int .i64 ((l : Int) - (q : Int))] 45)).cell? ⟨w6.heap.size, 0, none⟩ = some (.int .i64 (2 * (q : Int) + 1)) := by go_simp
      have s1 : (w6.alloc (.cells #[.int .i64 (2 * (q : Int) + 1), .int .u32 (adr (q + 1) (q + 2)), .int .i64 ((l : Int) - (q : Int))] 45)).cell? ⟨w6.heap.size, 1, none⟩ = some (.int .u32 (adr (q + 1) (q + 2))) := by go_simp
      have s2 : (w6.alloc (.cells #[.int .i64 (2 * (q : Int) + 1), .int .u32 (adr (q + 1) (q + 2)), .int .i64 ((l : Int) - (q : Int))] 45)).cell? ⟨w6.heap.size, 2, none⟩ = some (.int .i64 ((l : Int) - (q : Int))) := by go_simp
      have HB7 := Lib.hid (HB6.out.alloc HB6.out.size (.cells #[.int .i64 (2 * (q : Int) + 1), .int .u32 (adr (q + 1) (q + 2)), .int .i64 ((l : Int) - (q : Int))] 45))
      generalize w6.alloc (.cells #[.int .i64 (2 * (q : Int) + 1), .int .u32 (adr (q + 1) (q + 2)), .int .i64 ((l : Int) - (q : Int))] 45) = W7 at *
      go_quiet ((go_at_call 21; exact (Calls.quiet_of_same ((HA2.out _).mono fun _ _ hh => ⟨hh.1, hh.2⟩))))
      go_wp2
      go_ret
      exact ⟨rfl, below_drewN HB7.out _⟩
    · rw [if_neg c2] at HLK
      have hi0 : ¬ ((l : Int) < (q : Int)) := by omega
      have hi1 : ¬ ((q : Int) + 1 < (l : Int)) := by omega
      have hw0 : wrap64 (2 * (q : Int)) = 2 * (q : Int) := by unfold wrap64; omega
      have hw2 : wrap64 (2 * (q : Int) + (l : Int) - (q : Int)) = (q : Int) + (l : Int) := by unfold wrap64; omega
      have hw3 : wrap64 (2 * (q : Int) + (l : Int)) = 2 * (q : Int) + (l : Int) := by unfold wrap64; omega
      go_upto_region 17 with (first
        | (go_at_call 21; refine (HA.out _).mono ?_; rintro e w5 ⟨rfl, rfl⟩)
        | (go_at_call 14; refine (HLK.out _ (Below.refl _ _)).mono ?_; rintro e w6 ⟨rfl, hb6⟩; have HB6 := Lib.hid (below_next HB4.out hb6); clear hb6))
      go_wp2
      go_ret
      exact ⟨rfl, HB6.out.alloc HB6.out.size _⟩
end Go.Proofs.YtahnnaagpeinkaaGreatDoor

