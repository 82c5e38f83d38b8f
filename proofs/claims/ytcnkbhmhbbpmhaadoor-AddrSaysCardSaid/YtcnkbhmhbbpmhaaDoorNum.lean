/- The contract of addr's inner function that reads short decimal numerals. -/
import Derived.Test.YtcnkbhmhbbpmhaaDoorNumP
import Derived.Test.YtcnkbhmhbbpmhaaDoorAddr
namespace Go.Proofs.YtcnkbhmhbbpmhaaDoor
open Go.RowKit
namespace Ad
/-- what is read: the value, or that there is none -/
def numYes (l : List UInt8) (most : Int) : Bool := numOk l && decide ((val l : Int) ≤ most)
def numV (l : List UInt8) (most : Int) : Int := if numYes l most then (val l : Int) else 0
end Ad
theorem head_zero (s : ByteArray) (h : 0 < s.size) : s.data.toList.headD 0 = s[0] := by
  have e : ∀ l : List UInt8, (hl : 0 < l.length) → l.headD 0 = l[0] := fun l hl => by
    cases l with
    | nil => simp at hl
    | cons a r => rfl
  exact e s.data.toList (by simpa using h)
theorem at_list (s : ByteArray) (k : Nat) (h : k < s.size) : s[k] = s.data.toList[k]'(by simpa using h) := rfl
theorem ret_pair {a b : Int} {c d : Bool} (h : a = b) (g : c = d) : Ending.returned (.tuple #[.int .i64 a, .bool c]) = .returned (.tuple #[.int .i64 b, .bool d]) := by rw [h, g]
theorem ival {k : IntKind} {a b : Int} (h : a = b) : Value.int k a = Value.int k b := by rw [h]
theorem num_none {l : List UInt8} {most : Int} (h : Ad.numYes l most = false) : (0 : Int) = Ad.numV l most := by unfold Ad.numV; rw [h]; rfl
theorem num_some {l : List UInt8} {most : Int} (h : Ad.numYes l most = true) : (Ad.val l : Int) = Ad.numV l most := by unfold Ad.numV; rw [h]; rfl
set_option maxHeartbeats 2000000 in
theorem num_any (s : ByteArray) (most : Int) (w : World) :
    Calls Tryd.prog 34 #[.string s, .int .i64 most] w fun e w' => e = .returned (.tuple #[.int .i64 (Ad.numV s.data.toList most), .bool (Ad.numYes s.data.toList most)]) ∧ w = w' := by
  have hcase : (Hid (Ad.numYes s.data.toList most = false) ∧ s.size < 1) ∨ (Hid (Ad.numYes s.data.toList most = false) ∧ 3 < s.size) ∨
      (1 ≤ s.size ∧ s.size ≤ 3 ∧ ((s.size ≤ 1 ∧ Hid (Ad.numYes s.data.toList most = (s.data.toList.all Ad.isDig && decide ((Ad.val s.data.toList : Int) ≤ most)))) ∨
        (∃ h : 1 < s.size, ((s[0].toNat : Int) == 48) = true ∧ Hid (Ad.numYes s.data.toList most = false)) ∨
        (∃ h : 1 < s.size, ((s[0].toNat : Int) == 48) = false ∧ Hid (Ad.numYes s.data.toList most = (s.data.toList.all Ad.isDig && decide ((Ad.val s.data.toList : Int) ≤ most)))))) := by
    have hl : s.data.toList.length = s.size := by simp
    unfold Ad.numYes Ad.numOk
    by_cases h1 : s.size < 1
    · refine .inl ⟨?_, h1⟩
      show _ = false
      simp [hl]; omega
    · by_cases h3 : 3 < s.size
      · refine .inr (.inl ⟨?_, h3⟩)
        show _ = false
        simp [hl]; omega
      · refine .inr (.inr ⟨by omega, by omega, ?_⟩)
        by_cases h2 : 1 < s.size
        · by_cases hz : s[0] = 48
          · refine .inr (.inl ⟨h2, by rw [hz]; rfl, ?_⟩)
            show _ = false
            rw [head_zero s (by omega), hz]
            simp [hl, h2]
          · have hn : s[0].toNat ≠ 48 := fun e => hz (UInt8.toNat_inj.1 e)
            refine .inr (.inr ⟨h2, by simp; omega, ?_⟩)
            show _ = _
            rw [head_zero s (by omega)]
            have : decide (1 ≤ s.data.toList.length ∧ s.data.toList.length ≤ 3) = true := by rw [hl]; simp; omega
            rw [this]
            simp [hz]
        · refine .inl ⟨by omega, ?_⟩
          show _ = _
          have : decide (1 ≤ s.data.toList.length ∧ s.data.toList.length ≤ 3) = true := by rw [hl]; simp; omega
          rw [this]
          simp [h2]
  have HL : Hid (s.data.toList.length = s.size) := by show _ = _; simp
  rcases hcase with ⟨H, h1⟩ | ⟨H, h1⟩ | ⟨h1, h3, hcase⟩
  · go_enter Tryd.func34, Tryd.ntmps34
    go_wp2
    go_ret2
    exact ⟨ret_pair (num_none H.out) H.out.symm, rfl⟩
  · go_enter Tryd.func34, Tryd.ntmps34
    go_wp2
    go_ret2
    exact ⟨ret_pair (num_none H.out) H.out.symm, rfl⟩
  · rcases hcase with ⟨h2, H⟩ | ⟨h2, hz, H⟩ | ⟨h2, hz, H⟩
    rotate_left
    · go_enter Tryd.func34, Tryd.ntmps34
      go_wp2
      go_ret2
      exact ⟨ret_pair (num_none H.out) H.out.symm, rfl⟩
    all_goals
      go_enter Tryd.func34, Tryd.ntmps34
      go_wp2_with fail
      go_loop [6, 28] (fun n i => ∃ k : Nat, k ≤ s.size ∧ i = .int .i64 k ∧ n = .int .i64 (Ad.val (s.data.toList.take k)) ∧ Hid ((s.data.toList.take k).all Ad.isDig = true)) (fun _ i => s.size - (intOf i).toNat)
      case atStart => exact ⟨0, Nat.zero_le _, rfl, rfl, rfl⟩
      case round =>
        obtain ⟨k, hk, rfl, rfl, hd⟩ := hrel
        have hv := Ad.val_take_lt s.data.toList k hd.out (by rw [HL.out]; omega)
        by_cases hlt : k < s.size
        · have HS := Lib.hid (Ad.val_take s.data.toList k (by rw [HL.out]; exact hlt))
          rw [← at_list s k hlt] at HS
          by_cases hg : 48 ≤ s[k].toNat ∧ s[k].toNat ≤ 57
          · have HA := Lib.hid (Ad.all_take_succ s.data.toList k (by rw [HL.out]; exact hlt) hd.out (by rw [← at_list s k hlt]; exact hg))
            obtain ⟨hg1, hg2⟩ := hg
            go_wp2
            go_round
            case rel => exact ⟨k + 1, by omega, by go_num, ival (by rw [HS.out]; omega), HA⟩
            case measure => simp [intOf]; omega
          · have HN : Hid (Ad.numYes s.data.toList most = false) := by
              show _ = false
              have : s.data.toList.all Ad.isDig = false := by
                rw [Bool.eq_false_iff]
                intro ha
                have := Ad.dig_at s.data.toList k (by rw [HL.out]; exact hlt) ha
                rw [← at_list s k hlt] at this
                exact hg this
              rw [H.out, this]; rfl
            rcases Nat.lt_or_ge s[k].toNat 48 with hg1 | hg1
            · clear hg
              go_wp2
              go_ret2
              exact ⟨ret_pair (num_none HN.out) HN.out.symm, rfl⟩
            · have hg2 : 57 < s[k].toNat := by omega
              clear hg
              go_wp2
              go_ret2
              exact ⟨ret_pair (num_none HN.out) HN.out.symm, rfl⟩
        · have he : s.data.toList.take k = s.data.toList := List.take_of_length_le (by rw [HL.out]; omega)
          have HE := Lib.hid he
          by_cases hm : ((Ad.val (s.data.toList.take k) : Nat) : Int) ≤ most
          · have HN : Hid (Ad.numYes s.data.toList most = true) := by
              show _ = true
              have h5 := hd.out
              rw [he] at h5 hm
              rw [H.out, h5]; simpa using hm
            clear he
            go_wp2
            go_ret2
            exact ⟨ret_pair ((by rw [HE.out] : _ = _).trans (num_some HN.out)) HN.out.symm, rfl⟩
          · have HN : Hid (Ad.numYes s.data.toList most = false) := by
              show _ = false
              rw [he] at hm
              rw [H.out]; simp; intro _; omega
            have hm' : most < ((Ad.val (s.data.toList.take k) : Nat) : Int) := by omega
            clear he hm
            go_wp2
            go_ret2
            exact ⟨ret_pair (num_none HN.out) HN.out.symm, rfl⟩
end Go.Proofs.YtcnkbhmhbbpmhaaDoor
