/- The contract of the document's own text of an address: the same as package addr's. -/
import Derived.Test.YtcnkbhmhbbpmhaaDoorReadPf
namespace Go.Proofs.YtcnkbhmhbbpmhaaDoor
open Go.RowKit
theorem and255 (x : Int) (h0 : 0 ≤ x) (h1 : x ≤ 4294967295) : bits .and .u32 x 255 = x % 256 := by
  obtain ⟨n, rfl⟩ := Int.eq_ofNat_of_zero_le h0
  have h := u32_and_nat n 255 (by omega) (by omega)
  rw [Nat.and_two_pow_sub_one_eq_mod n 8] at h
  exact h.trans (by omega)
theorem cats (l0 l1 l2 l3 : List UInt8) (h0 : l0.length ≤ 21) (h1 : l1.length ≤ 21) (h2 : l2.length ≤ 21) (h3 : l3.length ≤ 21) :
    ∃ S1 S2 S3 S4 S5 : ByteArray, (∀ w, (Op.stringOp .add ⟨l0.toArray⟩ ⟨#[46]⟩).run Tryd.prog w = .ok (.string S1) w) ∧
      (∀ w, (Op.stringOp .add S1 ⟨l1.toArray⟩).run Tryd.prog w = .ok (.string S2) w) ∧ (∀ w, (Op.stringOp .add S2 ⟨#[46]⟩).run Tryd.prog w = .ok (.string S3) w) ∧
      (∀ w, (Op.stringOp .add S3 ⟨l2.toArray⟩).run Tryd.prog w = .ok (.string S4) w) ∧ (∀ w, (Op.stringOp .add S4 ⟨#[46]⟩).run Tryd.prog w = .ok (.string S5) w) ∧
      (∀ w, (Op.stringOp .add S5 ⟨l3.toArray⟩).run Tryd.prog w = .ok (.string ⟨(l0 ++ 46 :: (l1 ++ 46 :: (l2 ++ 46 :: l3))).toArray⟩) w) := by
  refine ⟨⟨(l0 ++ [46]).toArray⟩, ⟨(l0 ++ [46] ++ l1).toArray⟩, ⟨(l0 ++ [46] ++ l1 ++ [46]).toArray⟩, ⟨(l0 ++ [46] ++ l1 ++ [46] ++ l2).toArray⟩, ⟨(l0 ++ [46] ++ l1 ++ [46] ++ l2 ++ [46]).toArray⟩, ?_, ?_, ?_, ?_, ?_, ?_⟩
  · exact fun w => run_string_add_lists w l0 [46] (by omega) (by simp)
  · exact fun w => run_string_add_lists w (l0 ++ [46]) l1 (by simp; omega) (by omega)
  · exact fun w => run_string_add_lists w (l0 ++ [46] ++ l1) [46] (by simp; omega) (by simp)
  · exact fun w => run_string_add_lists w (l0 ++ [46] ++ l1 ++ [46]) l2 (by simp; omega) (by omega)
  · exact fun w => run_string_add_lists w (l0 ++ [46] ++ l1 ++ [46] ++ l2) [46] (by simp; omega) (by simp)
  · intro w
    have h := run_string_add_lists (P := Tryd.prog) w (l0 ++ [46] ++ l1 ++ [46] ++ l2 ++ [46]) l3 (by simp; omega) (by omega)
    simp only [List.append_assoc, List.singleton_append] at h ⊢
    exact h
set_option maxRecDepth 100000 in
set_option maxHeartbeats 1000000 in
theorem rtext_any (a : Int) (w : World) (h0 : 0 ≤ a) (h1 : a ≤ 4294967295) (hT : EnvT w) :
    Calls Tryd.prog 18 #[.int .u32 a] w fun e w' => e = .returned (.string (Ad.text a)) ∧ Below w.heap.size w w' := by
  have hb := Ad.b_bd h0 h1
  have HI : ∀ n, 0 ≤ n → n ≤ 255 → ∀ W, EnvT W → Calls Tryd.prog 39 #[.int .i64 n] W fun e w' => e = .returned (.string ⟨(Lib.itoa n).toArray⟩) ∧ Below W.heap.size W w' := fun n g0 g1 W hW => itoa_any n (by omega) (by omega) W hW
  obtain ⟨S1, S2, S3, S4, S5, c1, c2, c3, c4, c5, c6⟩ := cats (Lib.itoa (Ad.b0 a)) (Lib.itoa (Ad.b1 a)) (Lib.itoa (Ad.b2 a)) (Lib.itoa (Ad.b3 a)) (itoa_short _ hb.1.1 hb.1.2) (itoa_short _ hb.2.1.1 hb.2.1.2) (itoa_short _ hb.2.2.1.1 hb.2.2.1.2) (itoa_short _ hb.2.2.2.1 hb.2.2.2.2)
  rw [← Ad.textL_eq] at c6
  have H0 := Lib.hid (HI _ hb.1.1 hb.1.2)
  have H1 := Lib.hid (HI _ hb.2.1.1 hb.2.1.2)
  have H2 := Lib.hid (HI _ hb.2.2.1.1 hb.2.2.1.2)
  have H3 := Lib.hid (HI _ hb.2.2.2.1 hb.2.2.2.2)
  have E1 := and255 (a / 65536) (by omega) (by omega)
  have E2 := and255 (a / 256) (by omega) (by omega)
  have E3 := and255 a h0 h1
  have B0 := hb.1.2
  clear HI hb
  unfold Ad.b0 at *
  unfold Ad.b1 at *
  unfold Ad.b2 at *
  unfold Ad.b3 at *
  have HT := Lib.hid hT
  clear hT
  obtain ⟨X0, hX0⟩ : ∃ X : ByteArray, X = ⟨(Lib.itoa (a / 16777216)).toArray⟩ := ⟨_, rfl⟩
  obtain ⟨X1, hX1⟩ : ∃ X : ByteArray, X = ⟨(Lib.itoa (a / 65536 % 256)).toArray⟩ := ⟨_, rfl⟩
  obtain ⟨X2, hX2⟩ : ∃ X : ByteArray, X = ⟨(Lib.itoa (a / 256 % 256)).toArray⟩ := ⟨_, rfl⟩
  obtain ⟨X3, hX3⟩ : ∃ X : ByteArray, X = ⟨(Lib.itoa (a % 256)).toArray⟩ := ⟨_, rfl⟩
  rw [← hX0] at c1 H0
  rw [← hX1] at c2 H1
  rw [← hX2] at c4 H2
  rw [← hX3] at c6 H3
  clear hX0 hX1 hX2 hX3
  change ∀ w, _ = Result.ok (Value.string (Ad.text a)) w at c6
  generalize Ad.text a = T at *
  go_enter Tryd.func18, Tryd.ntmps18
  go_wp2_with fail
  refine (H0.out _ HT.out).mono ?_
  rintro e w1 ⟨rfl, hb⟩
  have HW1 := Lib.hid hb
  clear hb
  go_wp2_with fail
  refine (H1.out _ (HT.out.below HW1.out)).mono ?_
  rintro e w2 ⟨rfl, hb⟩
  have HW2 := Lib.hid (HW1.out.trans (hb.mono HW1.out.size))
  clear hb
  go_wp2_with fail
  refine (H2.out _ (HT.out.below HW2.out)).mono ?_
  rintro e w3 ⟨rfl, hb⟩
  have HW3 := Lib.hid (HW2.out.trans (hb.mono HW2.out.size))
  clear hb
  go_wp2_with fail
  refine (H3.out _ (HT.out.below HW3.out)).mono ?_
  rintro e w4 ⟨rfl, hb⟩
  have HW4 := Lib.hid (HW3.out.trans (hb.mono HW3.out.size))
  clear hb
  go_wp2
  go_ret
  exact ⟨rfl, HW4.out⟩
end Go.Proofs.YtcnkbhmhbbpmhaaDoor
