/- Contracts of the document's readers of numbers of up to nine digits. -/
import Derived.Test.YthnchjmbjeooiaaDoorNumb
namespace Go.Proofs.YthnchjmbjeooiaaDoor
open Go.RowKit Go.Lib Lx
namespace Lx
def rnum (l : List UInt8) : Int := if nOk l then (Ad.val l : Int) else -1
theorem rnum_no {l : List UInt8} (h : nOk l = false) : (-1 : Int) = rnum l := by unfold rnum; rw [h]; rfl
theorem rnum_yes {l : List UInt8} (h : nOk l = true) : (Ad.val l : Int) = rnum l := by unfold rnum; rw [h]; rfl
theorem take_val (l : List UInt8) (k : Nat) (hl : l.length ≤ 9) (h : (l.take k).all Ad.isDig = true) : Ad.val (l.take k) < 1000000000 := by
  have h1 := Ad.val_lt _ h
  have h3 : 10 ^ (l.take k).length ≤ 10 ^ 9 := Nat.pow_le_pow_right (by decide) (by rw [List.length_take]; omega)
  omega
end Lx
set_option maxHeartbeats 2000000 in
theorem rnum_any (s : ByteArray) (w : World) :
    Calls Tryd.prog 26 #[.string s, .int .i64 9] w fun e w' => e = .returned (.int .i64 (rnum s.data.toList)) ∧ w = w' := by
  have hcase : (Hid (nOk s.data.toList = false) ∧ s.size < 1) ∨ (Hid (nOk s.data.toList = false) ∧ 1 ≤ s.size ∧ 9 < s.size) ∨
      (1 ≤ s.size ∧ s.size ≤ 9 ∧ ((s.size ≤ 1 ∧ Hid (nOk s.data.toList = s.data.toList.all Ad.isDig)) ∨
        (∃ h : 1 < s.size, ((s[0].toNat : Int) == 48) = true ∧ Hid (nOk s.data.toList = false)) ∨
        (∃ h : 1 < s.size, ((s[0].toNat : Int) == 48) = false ∧ Hid (nOk s.data.toList = s.data.toList.all Ad.isDig)))) := by
    have hl : s.data.toList.length = s.size := by simp
    unfold nOk
    by_cases h1 : s.size < 1
    · refine .inl ⟨?_, h1⟩
      show _ = false
      simp [hl]; omega
    · by_cases h3 : 9 < s.size
      · refine .inr (.inl ⟨?_, by omega, h3⟩)
        show _ = false
        simp [hl]; omega
      · refine .inr (.inr ⟨by omega, by omega, ?_⟩)
        by_cases h2 : 1 < s.size
        · by_cases hz : s[0] = 48
          · refine .inr (.inl ⟨h2, by rw [hz]; rfl, ?_⟩)
            show _ = false
            rw [head_byte s (by omega), hz]
            simp [hl, h2]
          · have hn : s[0].toNat ≠ 48 := fun e => hz (UInt8.toNat_inj.1 e)
            refine .inr (.inr ⟨h2, by simp; omega, ?_⟩)
            show _ = _
            rw [head_byte s (by omega)]
            have : decide (1 ≤ s.data.toList.length ∧ s.data.toList.length ≤ 9) = true := by rw [hl]; simp; omega
            rw [this]
            simp [hz]
        · refine .inl ⟨by omega, ?_⟩
          show _ = _
          have : decide (1 ≤ s.data.toList.length ∧ s.data.toList.length ≤ 9) = true := by rw [hl]; simp; omega
          rw [this]
          simp [h2]
  have HL : Hid (s.data.toList.length = s.size) := by show _ = _; simp
  rcases hcase with ⟨H, h1⟩ | ⟨H, h0, h1⟩ | ⟨h1, h3, hcase⟩
  · go_enter Tryd.func26, Tryd.ntmps26
    go_wp2
    go_ret
    exact ⟨ret_int (rnum_no H.out), rfl⟩
  · go_enter Tryd.func26, Tryd.ntmps26
    go_wp2
    go_ret
    exact ⟨ret_int (rnum_no H.out), rfl⟩
  · have hcase' : (∃ h : 1 < s.size, ((s[0].toNat : Int) == 48) = true ∧ Hid (nOk s.data.toList = false)) ∨
        (∃ h : 0 < s.size, s.size ≤ 1 ∧ ((s[0].toNat : Int) == 48) = true ∧ Hid (nOk s.data.toList = s.data.toList.all Ad.isDig)) ∨
        (∃ h : 0 < s.size, ((s[0].toNat : Int) == 48) = false ∧ Hid (nOk s.data.toList = s.data.toList.all Ad.isDig)) := by
      rcases hcase with ⟨h2, H⟩ | ⟨h2, hz, H⟩ | ⟨h2, hz, H⟩
      · by_cases hz : ((s[0].toNat : Int) == 48) = true
        · exact .inr (.inl ⟨by omega, h2, hz, H⟩)
        · exact .inr (.inr ⟨by omega, by simpa using hz, H⟩)
      · exact .inl ⟨h2, hz, H⟩
      · exact .inr (.inr ⟨by omega, hz, H⟩)
    clear hcase
    rcases hcase' with ⟨h2, hz, H⟩ | ⟨h0, h2, hz, H⟩ | ⟨h0, hz, H⟩
    · go_enter Tryd.func26, Tryd.ntmps26
      go_wp2
      go_ret
      exact ⟨ret_int (rnum_no H.out), rfl⟩
    all_goals
      go_enter Tryd.func26, Tryd.ntmps26
      go_wp2_with fail
      go_loop [5, 6] (fun n i => ∃ k : Nat, k ≤ s.size ∧ i = .int .i64 k ∧ n = .int .i64 (Ad.val (s.data.toList.take k)) ∧ Hid ((s.data.toList.take k).all Ad.isDig = true)) (fun _ i => s.size - (intOf i).toNat)
      case atStart => exact ⟨0, Nat.zero_le _, rfl, rfl, rfl⟩
      case round =>
        obtain ⟨k, hk, rfl, rfl, hd⟩ := hrel
        have hv := take_val s.data.toList k (by rw [HL.out]; omega) hd.out
        by_cases hlt : k < s.size
        · have HS := Lib.hid (Ad.val_take s.data.toList k (by rw [HL.out]; exact hlt))
          rw [← at_byte s k hlt] at HS
          by_cases hg : 48 ≤ s[k].toNat ∧ s[k].toNat ≤ 57
          · have HA := Lib.hid (Ad.all_take_succ s.data.toList k (by rw [HL.out]; exact hlt) hd.out (by rw [← at_byte s k hlt]; exact hg))
            obtain ⟨hg1, hg2⟩ := hg
            go_wp2
            go_round
            case rel => exact ⟨k + 1, by omega, by go_num, congrArg (Value.int .i64) (by rw [HS.out]; omega), HA⟩
            case measure => simp [intOf]; omega
          · have HN : Hid (nOk s.data.toList = false) := by
              show _ = false
              have : s.data.toList.all Ad.isDig = false := by
                rw [Bool.eq_false_iff]
                intro ha
                have := Ad.dig_at s.data.toList k (by rw [HL.out]; exact hlt) ha
                rw [← at_byte s k hlt] at this
                exact hg this
              rw [H.out, this]
            rcases Nat.lt_or_ge s[k].toNat 48 with hg1 | hg1
            · clear hg
              go_wp2
              go_ret
              exact ⟨ret_int (rnum_no HN.out), rfl⟩
            · have hg2 : 57 < s[k].toNat := by omega
              clear hg
              go_wp2
              go_ret
              exact ⟨ret_int (rnum_no HN.out), rfl⟩
        · have he : s.data.toList.take k = s.data.toList := List.take_of_length_le (by rw [HL.out]; omega)
          have HN : Hid (nOk s.data.toList = true) := by
            show _ = true
            have h5 := hd.out
            rw [he] at h5
            rw [H.out, h5]
          have HE := Lib.hid he
          clear he
          go_wp2
          go_ret
          exact ⟨ret_int ((by rw [HE.out] : _ = _).trans (rnum_yes HN.out)), rfl⟩
theorem ret_nm2 {l : List UInt8} {most a : Int} {w w' : World} (hw : w = w') (c : Int) (h : nmCode l most = c ∧ nmVal l most = a) :
    Ending.returned (.tuple #[.int .i64 a, .int .i64 c]) = Ending.returned (.tuple #[.int .i64 (nmVal l most), .int .i64 (nmCode l most)]) ∧ w = w' := by
  rw [h.1, h.2]; exact ⟨rfl, hw⟩
theorem rnumber_any (s : ByteArray) (most : Int) (w : World) :
    Calls Tryd.prog 14 #[.string s, .int .i64 most] w fun e w' => e = .returned (.tuple #[.int .i64 (nmVal s.data.toList most), .int .i64 (nmCode s.data.toList most)]) ∧ w = w' := by
  have H := Lib.hid (rnum_any s w)
  cases hok : nOk s.data.toList with
  | false =>
    have HN := Lib.hid (nm_none (most := most) hok)
    rw [← rnum_no hok] at H
    clear hok
    go_enter Tryd.func14, Tryd.ntmps14
    go_wp2_with (go_at_call 26; refine H.out.mono ?_; rintro e w1 ⟨rfl, rfl⟩)
    go_ret2
    exact ret_nm2 rfl 107 HN.out
  | true =>
    rw [← rnum_yes hok] at H
    have HNg := Lib.hid (fun g => nm_great (most := most) hok g)
    have HNs := Lib.hid (fun g => nm_some (most := most) hok g)
    clear hok
    generalize Ad.val s.data.toList = v at *
    rcases Int.lt_or_le most (v : Int) with hg | hg
    · go_enter Tryd.func14, Tryd.ntmps14
      go_wp2_with (go_at_call 26; refine H.out.mono ?_; rintro e w1 ⟨rfl, rfl⟩)
      go_ret2
      exact ret_nm2 rfl 103 (HNg.out hg)
    · go_enter Tryd.func14, Tryd.ntmps14
      go_wp2_with (go_at_call 26; refine H.out.mono ?_; rintro e w1 ⟨rfl, rfl⟩)
      go_ret2
      exact ret_nm2 rfl 0 (HNs.out hg)
end Go.Proofs.YthnchjmbjeooiaaDoor
