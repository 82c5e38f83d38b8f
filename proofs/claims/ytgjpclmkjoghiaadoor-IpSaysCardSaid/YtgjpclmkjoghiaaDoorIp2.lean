/- Contracts of package ip's readers, over the seat's program. -/
import Derived.Test.YtgjpclmkjoghiaaDoorIp
import Derived.Test.YtgjpclmkjoghiaaDoorVar
import Derived.Test.YtgjpclmkjoghiaaDoorAd
namespace Go.Proofs.YtgjpclmkjoghiaaDoor
open Go.RowKit Sm
theorem i64_or_nat (a b : Nat) (ha : a < 9223372036854775808) (hb : b < 9223372036854775808) : bits .or .i64 (a : Int) (b : Int) = ((a ||| b : Nat) : Int) := by
  have hx : a ||| b < 2 ^ 63 := Nat.or_lt_two_pow (by omega) (by omega)
  show IntKind.i64.wrap ((BitVec.ofInt 64 (a : Int) ||| BitVec.ofInt 64 (b : Int)).toNat : Int) = _
  rw [BitVec.toNat_or, ofInt_u64 a (by omega), ofInt_u64 b (by omega)]
  exact IntWalk.i64_in _ (by omega)
theorem or_i64 (a b : Int) (ha0 : 0 ≤ a) (ha : a ≤ 255) (hb0 : 0 ≤ b) (hb : b ≤ 255) : bits .or .i64 (a * 256) b = a * 256 + b := by
  obtain ⟨n, rfl⟩ := Int.eq_ofNat_of_zero_le ha0
  obtain ⟨m, rfl⟩ := Int.eq_ofNat_of_zero_le hb0
  have h := i64_or_nat (2 ^ 8 * n) m (by omega) (by omega)
  rw [← Nat.two_pow_add_eq_or_of_lt (by omega)] at h
  have e : ((2 ^ 8 * n : Nat) : Int) = (n : Int) * 256 := by omega
  rw [e] at h
  exact h.trans (by omega)
theorem inumber_any (a b : Int) (w : World) (ha0 : 0 ≤ a) (ha : a ≤ 255) (hb0 : 0 ≤ b) (hb : b ≤ 255) :
    Calls Tryd.prog 37 #[.int .u8 a, .int .u8 b] w fun e w' => e = .returned (.int .i64 (a * 256 + b)) ∧ w = w' := by
  have H := Lib.hid (or_i64 a b ha0 ha hb0 hb)
  go_enter Tryd.func37, Tryd.ntmps37
  go_wp2
  go_ret
  exact ⟨ret_int H.out, rfl⟩
set_option maxHeartbeats 1000000 in
theorem shaped_any (A : Option Addr) (n c : Nat) (xs : List Int) (w : World) (h : BR w A n xs) (hn : 8 ≤ n) :
    Calls Tryd.prog 27 #[.slice A n c] w fun e w' => e = .returned (.bool (rsh xs)) ∧ w = w' := by
  obtain ⟨b, o, rfl, _, hc⟩ := h.2.2 (by omega)
  have c0 := hc 0 (by omega)
  rw [Nat.add_zero] at c0
  have c1 := hc 1 (by omega)
  have c6 := hc 6 (by omega)
  have c7 := hc 7 (by omega)
  have hi0 : (0 : Int) < (n : Int) := by omega
  have hi1 : (1 : Int) < (n : Int) := by omega
  have hi6 : (6 : Int) < (n : Int) := by omega
  have hi7 : (7 : Int) < (n : Int) := by omega
  have HR : rsh xs = ((xs.getD 0 0 == 69) && ((xs.getD 1 0 == 0) && ((xs.getD 6 0 == 0) && (xs.getD 7 0 == 0)))) := by
    unfold rsh; rw [Bool.eq_iff_iff]; simp
  rw [HR]
  clear HR hc h
  generalize xs.getD 0 0 = u0 at *
  generalize xs.getD 1 0 = u1 at *
  generalize xs.getD 6 0 = u6 at *
  generalize xs.getD 7 0 = u7 at *
  obtain ⟨b0, e0⟩ : ∃ b, (u0 == 69) = b := ⟨_, rfl⟩
  obtain ⟨b1, e1⟩ : ∃ b, (u1 == 0) = b := ⟨_, rfl⟩
  obtain ⟨b6, e6⟩ : ∃ b, (u6 == 0) = b := ⟨_, rfl⟩
  obtain ⟨b7, e7⟩ : ∃ b, (u7 == 0) = b := ⟨_, rfl⟩
  rw [e0, e1, e6, e7]
  cases b0 <;> cases b1 <;> cases b6
  all_goals
    go_enter Tryd.func27, Tryd.ntmps27
    go_wp2
    go_ret
    exact ⟨ret_bool (by simp), rfl⟩
theorem aof_any (a b c d : Int) (w : World) (ha0 : 0 ≤ a) (ha : a ≤ 255) (hb0 : 0 ≤ b) (hb : b ≤ 255) (hc0 : 0 ≤ c) (hc : c ≤ 255) (hd0 : 0 ≤ d) (hd : d ≤ 255) :
    Calls Tryd.prog 43 #[.agg #[.int .u8 a, .int .u8 b, .int .u8 c, .int .u8 d]] w fun e w' => e = .returned (.int .u32 (a * 16777216 + b * 65536 + c * 256 + d)) ∧ Below w.heap.size w w' := by
  have H := Lib.hid (Ad.of_bytes a b c d ha0 ha hb0 hb hc0 hc hd0 hd)
  clear ha0 ha hb0 hb hc0 hc hd0 hd
  go_enter Tryd.func43, Tryd.ntmps43
  go_wp2
  go_ret
  exact ⟨ret_int H.out, (Below.refl _ _).alloc (Nat.le_refl _) _⟩
theorem keepc {w w' : World} {p : Addr} {v : Value} (h : w.cell? p = some v) (hb : Below w.heap.size w w') : w'.cell? p = some v := (hb.cell (World.block_lt_of_cell? w _ h)).trans h
theorem readAddr_any (A : Option Addr) (n c : Nat) (xs : List Int) (w : World) (h : BR w A n xs) (hn : 4 ≤ n) :
    Calls Tryd.prog 38 #[.slice A n c] w fun e w' => e = .returned (.int .u32 (ra xs 0)) ∧ Below w.heap.size w w' := by
  obtain ⟨b, o, rfl, _, hc⟩ := h.2.2 (by omega)
  have c0 := fun W hW => keepc (w' := W) (hc 0 (by omega)) hW
  rw [Nat.add_zero] at c0
  have c1 := fun W hW => keepc (w' := W) (hc 1 (by omega)) hW
  have c2 := fun W hW => keepc (w' := W) (hc 2 (by omega)) hW
  have c3 := fun W hW => keepc (w' := W) (hc 3 (by omega)) hW
  have hp0 : 0 < n := by omega
  have hi0 : (0 : Int) < (n : Int) := by omega
  have hi1 : (1 : Int) < (n : Int) := by omega
  have hi2 : (2 : Int) < (n : Int) := by omega
  have hi3 : (3 : Int) < (n : Int) := by omega
  have B0 := h.isB.at_ 0
  have B1 := h.isB.at_ 1
  have B2 := h.isB.at_ 2
  have B3 := h.isB.at_ 3
  have HC := Lib.hid (fun W => aof_any _ _ _ _ W B0.1 B0.2 B1.1 B1.2 B2.1 B2.2 B3.1 B3.2)
  unfold ra
  simp only [Nat.zero_add]
  clear hc h B0 B1 B2 B3
  generalize xs.getD 0 0 = u0 at *
  generalize xs.getD 1 0 = u1 at *
  generalize xs.getD 2 0 = u2 at *
  generalize xs.getD 3 0 = u3 at *
  go_enter Tryd.func38, Tryd.ntmps38
  go_wp2_with fail
  go_region_held3 (fun w' => Below w.heap.size w w')
    (first | exact (Below.refl _ _).drew | assumption)
    (first | (go_at_call 43; refine (HC.out _).mono ?_; rintro e w1 ⟨rfl, hb⟩; have hb1 := below_next (by assumption) hb))
  go_wp2
  go_ret
  exact ⟨rfl, hb1⟩
theorem BR.cut {w : World} {b o : Nat} {n : Nat} {xs : List Int} (h : BR w (some ⟨b, o, none⟩) n xs) (k : Nat) (hk : k ≤ n) : BR w (some ⟨b, o + k, none⟩) (n - k) (xs.drop k) :=
  ⟨by have := h.len; simp; omega, h.isB.drop k, fun h0 => by
    obtain ⟨b', o', e, hlt, hc⟩ := h.2.2 (by omega)
    cases e
    refine ⟨b, o + k, rfl, hlt, fun i hi => ?_⟩
    rw [Nat.add_assoc, hc (k + i) (by omega)]
    simp [List.getD]⟩
theorem ra_drop (xs : List Int) (k : Nat) : ra (xs.drop k) 0 = ra xs k := by
  unfold ra
  simp [List.getD]
set_option maxHeartbeats 1000000 in
theorem fields_any (A : Option Addr) (c : Nat) (xs : List Int) (w : World) (h : BR w A 20 xs) (hc : 20 ≤ c) :
    Calls Tryd.prog 29 #[.slice A 20 c] w fun e w' => e = .returned (hv (rn xs 2) (rn xs 4) (xs.getD 8 0) (xs.getD 9 0) (ra xs 12) (ra xs 16)) ∧ Below w.heap.size w w' := by
  obtain ⟨b, o, rfl, _, hcell⟩ := h.2.2 (by omega)
  have c2 := fun (W : World) (hW : Keep w 25 6 W) => hW.old (hcell 2 (by omega))
  have c3 := fun (W : World) (hW : Keep w 25 6 W) => hW.old (hcell 3 (by omega))
  have c4 := fun (W : World) (hW : Keep w 25 6 W) => hW.old (hcell 4 (by omega))
  have c5 := fun (W : World) (hW : Keep w 25 6 W) => hW.old (hcell 5 (by omega))
  have c8 := fun (W : World) (hW : Keep w 25 6 W) => hW.old (hcell 8 (by omega))
  have c9 := fun (W : World) (hW : Keep w 25 6 W) => hW.old (hcell 9 (by omega))
  have B2 := h.isB.at_ 2
  have B3 := h.isB.at_ 3
  have B4 := h.isB.at_ 4
  have B5 := h.isB.at_ 5
  have B8 := h.isB.at_ 8
  have B9 := h.isB.at_ 9
  have HA1 := Lib.hid (fun W (hW : Below w.heap.size w W) => (h.next hW).cut 12 (by omega))
  have HA2 := Lib.hid (fun W (hW : Below w.heap.size w W) => (h.next hW).cut 16 (by omega))
  unfold rn
  rw [← ra_drop xs 12, ← ra_drop xs 16]
  generalize xs.drop 12 = x12 at *
  generalize xs.drop 16 = x16 at *
  clear hcell h
  generalize xs.getD 2 0 = u2 at *
  generalize xs.getD (2 + 1) 0 = u3 at *
  generalize xs.getD 4 0 = u4 at *
  generalize xs.getD (4 + 1) 0 = u5 at *
  generalize xs.getD 8 0 = u8 at *
  generalize xs.getD 9 0 = u9 at *
  have hc12 : ¬ c = 12 := by omega
  have hc16 : ¬ c = 16 := by omega
  have hi20 : (20 : Int) ≤ (c : Int) := by omega
  unfold hv
  go_enter Tryd.func29, Tryd.ntmps29
  go_wp2_with fail
  have hS0 : Keep w 25 6 (w.alloc (.cells #[.int .i64 0, .int .i64 0, .int .i64 0, .int .i64 0, .int .u32 0, .int .u32 0] 25)).drew := (Keep.new _ _ _).drew
  go_region_held3 (fun w' => Keep w 25 6 w')
    (first | with_reducible assumption | exact (((((Keep.store (by assumption) 0 _).store 1 _).store 2 _).store 3 _).store 4 _).store 5 _)
    (first
    | (go_at_call 37; refine (inumber_any _ _ _ (by omega) (by omega) (by omega) (by omega)).mono ?_; rintro e w1 ⟨rfl, rfl⟩)
    | (go_at_call 38; refine (readAddr_any _ _ _ _ _ (by first | exact HA1.out _ (And.left (show Keep w 25 6 _ by assumption)) | exact HA2.out _ (And.left (show Keep w 25 6 _ by assumption))) (by omega)).mono ?_; rintro e w1 ⟨rfl, hb⟩; have hk := Keep.next (w := w) (t := 25) (k := 6) (by assumption) hb; have t0 := hk.cell 0 (by omega); have t1 := hk.cell 1 (by omega); have t2 := hk.cell 2 (by omega); have t3 := hk.cell 3 (by omega); have t4 := hk.cell 4 (by omega); have t5 := hk.cell 5 (by omega); have f0 := hk.frozen 0; have f1 := hk.frozen 1; have f2 := hk.frozen 2; have f3 := hk.frozen 3; have f4 := hk.frozen 4; have f5 := hk.frozen 5))
  rename_i hS
  go_wp2
  exact bodyPost_ret (v := .agg #[.int .i64 (u2 * 256 + u3), .int .i64 (u4 * 256 + u5), .int .i64 u8, .int .i64 u9, .int .u32 (ra x12 0), .int .u32 (ra x16 0)]) (by simp [results, Tryd.results29, go_sem, t0, t1, t2, t3, t4, t5, IntWalk.i64_in u8 (by omega), IntWalk.i64_in u9 (by omega)]) rfl ⟨rfl, hS.1⟩
end Go.Proofs.YtgjpclmkjoghiaaDoor
