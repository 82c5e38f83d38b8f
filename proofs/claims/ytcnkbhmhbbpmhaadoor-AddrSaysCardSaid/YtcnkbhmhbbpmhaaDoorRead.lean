/- Contracts of the document's own reading of addresses: it answers as package addr's. -/
import Derived.Test.YtcnkbhmhbbpmhaaDoorScan
import Derived.Test.YtcnkbhmhbbpmhaaDoorRef
namespace Go.Proofs.YtcnkbhmhbbpmhaaDoor
open Go.RowKit
set_option maxHeartbeats 2000000 in
theorem rnum_any (s : ByteArray) (d : Nat) (w : World) (hd3 : d ≤ 3) (hd1 : 1 ≤ d) :
    Calls Tryd.prog 35 #[.string s, .int .i64 (d : Int)] w fun e w' => e = .returned (.int .i64 (Ad.rnum s.data.toList d)) ∧ w = w' := by
  have hcase : (Hid (Ad.rOk s.data.toList d = false) ∧ s.size < 1) ∨ (Hid (Ad.rOk s.data.toList d = false) ∧ 1 ≤ s.size ∧ d < s.size) ∨
      (1 ≤ s.size ∧ s.size ≤ d ∧ ((s.size ≤ 1 ∧ Hid (Ad.rOk s.data.toList d = s.data.toList.all Ad.isDig)) ∨
        (∃ h : 1 < s.size, ((s[0].toNat : Int) == 48) = true ∧ Hid (Ad.rOk s.data.toList d = false)) ∨
        (∃ h : 1 < s.size, ((s[0].toNat : Int) == 48) = false ∧ Hid (Ad.rOk s.data.toList d = s.data.toList.all Ad.isDig)))) := by
    have hl : s.data.toList.length = s.size := by simp
    unfold Ad.rOk
    by_cases h1 : s.size < 1
    · refine .inl ⟨?_, h1⟩
      show _ = false
      simp [hl]; omega
    · by_cases h3 : d < s.size
      · refine .inr (.inl ⟨?_, by omega, h3⟩)
        show _ = false
        simp [hl]; omega
      · refine .inr (.inr ⟨by omega, by omega, ?_⟩)
        by_cases h2 : 1 < s.size
        · by_cases hz : s[0] = 48
          · refine .inr (.inl ⟨h2, by rw [hz]; rfl, ?_⟩)
            show _ = false
            rw [head_zero s (by omega), hz]
            simp [hl, h2]
          · have hn : s[0].toNat ≠ 48 := fun e => hz (UInt8.toNat_inj.1 e)
            refine .inr (.inr ⟨h2, by simp; omega, ?_⟩)
            show _ = _
            rw [head_zero s (by omega)]
            have : decide (1 ≤ s.data.toList.length ∧ s.data.toList.length ≤ d) = true := by rw [hl]; simp; omega
            rw [this]
            simp [hz]
        · refine .inl ⟨by omega, ?_⟩
          show _ = _
          have : decide (1 ≤ s.data.toList.length ∧ s.data.toList.length ≤ d) = true := by rw [hl]; simp; omega
          rw [this]
          simp [h2]
  have HL : Hid (s.data.toList.length = s.size) := by show _ = _; simp
  rcases hcase with ⟨H, h1⟩ | ⟨H, h0, h1⟩ | ⟨h1, h3, hcase⟩
  · go_enter Tryd.func35, Tryd.ntmps35
    go_wp2
    go_ret
    exact ⟨ret_int (Ad.rnum_no H.out), rfl⟩
  · go_enter Tryd.func35, Tryd.ntmps35
    go_wp2
    go_ret
    exact ⟨ret_int (Ad.rnum_no H.out), rfl⟩
  · have hcase' : (∃ h : 1 < s.size, ((s[0].toNat : Int) == 48) = true ∧ Hid (Ad.rOk s.data.toList d = false)) ∨
        (∃ h : 0 < s.size, s.size ≤ 1 ∧ ((s[0].toNat : Int) == 48) = true ∧ Hid (Ad.rOk s.data.toList d = s.data.toList.all Ad.isDig)) ∨
        (∃ h : 0 < s.size, ((s[0].toNat : Int) == 48) = false ∧ Hid (Ad.rOk s.data.toList d = s.data.toList.all Ad.isDig)) := by
      rcases hcase with ⟨h2, H⟩ | ⟨h2, hz, H⟩ | ⟨h2, hz, H⟩
      · by_cases hz : ((s[0].toNat : Int) == 48) = true
        · exact .inr (.inl ⟨by omega, h2, hz, H⟩)
        · exact .inr (.inr ⟨by omega, by simpa using hz, H⟩)
      · exact .inl ⟨h2, hz, H⟩
      · exact .inr (.inr ⟨by omega, hz, H⟩)
    clear hcase
    rcases hcase' with ⟨h2, hz, H⟩ | ⟨h0, h2, hz, H⟩ | ⟨h0, hz, H⟩
    · go_enter Tryd.func35, Tryd.ntmps35
      go_wp2
      go_ret
      exact ⟨ret_int (Ad.rnum_no H.out), rfl⟩
    all_goals
      go_enter Tryd.func35, Tryd.ntmps35
      go_wp2_with fail
      go_loop [5, 6] (fun n i => ∃ k : Nat, k ≤ s.size ∧ i = .int .i64 k ∧ n = .int .i64 (Ad.val (s.data.toList.take k)) ∧ Hid ((s.data.toList.take k).all Ad.isDig = true)) (fun _ i => s.size - (intOf i).toNat)
      case atStart => exact ⟨0, Nat.zero_le _, rfl, rfl, rfl⟩
      case round =>
        obtain ⟨k, hk, rfl, rfl, hd⟩ := hrel
        have hv := Ad.val_take_lt s.data.toList k hd.out (by rw [HL.out]; omega)
        by_cases hlt : k < s.size
        · have HS := Lib.hid (Ad.val_take s.data.toList k (by rw [HL.out]; exact hlt))
          rw [← at_list s k hlt] at HS
          by_cases hg : 48 ≤ s[k].toNat ∧ s[k].toNat ≤ 57
          · have HA := Lib.hid (Ad.all_take_succ s.data.toList k (by rw [HL.out]; exact hlt) hd.out (by rw [← at_list s k hlt]; exact hg))
            obtain ⟨hg1, hg2⟩ := hg
            go_wp2
            go_round
            case rel => exact ⟨_, _, _, ⟨k + 1, by omega, by go_num, ival (by rw [HS.out]; omega), List.all_eq_true.1 HA.out⟩, rfl, rfl, rfl⟩
            case measure => simp [intOf]; omega
          · have HN : Hid (Ad.rOk s.data.toList d = false) := by
              show _ = false
              have : s.data.toList.all Ad.isDig = false := by
                rw [Bool.eq_false_iff]
                intro ha
                have := Ad.dig_at s.data.toList k (by rw [HL.out]; exact hlt) ha
                rw [← at_list s k hlt] at this
                exact hg this
              rw [H.out, this]
            rcases Nat.lt_or_ge s[k].toNat 48 with hg1 | hg1
            · clear hg
              go_wp2
              go_ret
              exact ⟨ret_int (Ad.rnum_no HN.out), rfl⟩
            · have hg2 : 57 < s[k].toNat := by omega
              clear hg
              go_wp2
              go_ret
              exact ⟨ret_int (Ad.rnum_no HN.out), rfl⟩
        · have he : s.data.toList.take k = s.data.toList := List.take_of_length_le (by rw [HL.out]; omega)
          have HN : Hid (Ad.rOk s.data.toList d = true) := by
            show _ = true
            have h5 := hd.out
            rw [he] at h5
            rw [H.out, h5]
          have HE := Lib.hid he
          clear he
          go_wp2
          go_ret
          exact ⟨ret_int ((by rw [HE.out] : _ = _).trans (Ad.rnum_yes HN.out)), rfl⟩
/-- what the document's Parse answers -/
def rparseV : Option Int → Value
  | some a => .tuple #[.int .u32 a, .bool true]
  | none => .tuple #[.int .u32 0, .bool false]
theorem point_int (c : UInt8) (h : c ≠ 46) : ((c.toNat : Int) != 46) = true := by
  have : c.toNat ≠ 46 := fun e => h (UInt8.toNat_inj.1 e)
  simp; omega
set_option maxRecDepth 100000 in
set_option maxHeartbeats 2000000 in
theorem rparse_any (s : ByteArray) (w : World) (hs : s.size ≤ 60) :
    Calls Tryd.prog 11 #[.string s] w fun e w' => e = .returned (rparseV (Ad.parse s)) ∧ w = w' := by
  generalize hr : Ad.parse s = r
  have HR := Lib.hid hr
  clear hr
  go_enter Tryd.func11, Tryd.ntmps11
  go_wp2_with fail
  go_loop [4, 5, 6, 7] (fun a p f i => ∃ (k g q : Nat) (x : Int), k ≤ s.size + 1 ∧ g ≤ k ∧ q ≤ 4 ∧ i = .int .i64 k ∧ f = .int .i64 g ∧ p = .int .i64 q ∧ a = .int .u32 x ∧ 0 ≤ x ∧ Hid (x < 256 ^ q) ∧ Hid (Ad.stand s g k x q = r)) (fun _ _ _ i => s.size + 1 - (intOf i).toNat)
  case atStart => exact ⟨0, 0, 0, 0, by omega, by omega, by omega, rfl, rfl, rfl, rfl, by omega, by show (0 : Int) < 256 ^ 0; decide, (Ad.stand_start s).trans HR.out⟩
  case round =>
    obtain ⟨k, g, q, x, hk, hg, hq, rfl, rfl, rfl, rfl, hx0, hx, hr⟩ := hrel
    have hx0' := Lib.hid hx0
    clear hx0
    rcases Nat.lt_or_ge s.size k with h | h
    · have he := Ad.stand_end s g k x q h
      rw [hr.out] at he
      by_cases h4 : q = 4
      · rw [if_pos h4] at he
        subst h4
        have HF := Lib.hid he
        clear he
        go_wp2
        go_ret2
        exact ⟨by rw [HF.out]; rfl, rfl⟩
      · rw [if_neg h4] at he
        have hne : ((q : Int) != 4) = true := by simp; omega
        have HF := Lib.hid he
        clear he h4
        go_wp2
        go_ret2
        exact ⟨by rw [HF.out]; rfl, rfl⟩
    · have hcase : (∃ h2 : k < s.size, s[k] ≠ 46) ∨ ((∃ h2 : k < s.size, ((s[k].toNat : Int) != 46) = false) ∨ s.size ≤ k) ∧ ∀ h2 : k < s.size, s[k] = 46 := by
        by_cases h2 : k < s.size
        · by_cases h46 : s[k] = 46
          · exact .inr ⟨.inl ⟨h2, by rw [h46]; rfl⟩, fun _ => h46⟩
          · exact .inl ⟨h2, h46⟩
        · exact .inr ⟨.inr (by omega), fun h3 => absurd h3 h2⟩
      rcases hcase with ⟨h2, h46⟩ | ⟨h2, he⟩
      · have hpt := point_int _ h46
        have HS := Lib.hid ((Ad.stand_next s g k x q hg h2 h46).trans hr.out)
        clear h46
        go_wp2
        go_round
        case rel => exact ⟨k + 1, g, q, x, by omega, by omega, hq, by go_num, rfl, rfl, rfl, hx0'.out, hx.out, HS.out⟩
        case measure => simp [intOf]; omega
      · have HC := Lib.hid (fun W => rnum_any (s.extract g k) 3 W (by omega) (by omega))
        rcases h2 with ⟨h2, hpt⟩ | h2
        all_goals
          rcases Ad.rnum3 (s.extract g k).data.toList with ⟨hy, hv, hn0, hn1⟩ | ⟨hy, hv⟩
          · by_cases h4 : q = 4
            · subst h4
              have HF := Lib.hid ((Ad.stand_four s g _ x h).symm.trans hr.out)
              generalize Ad.rnum (s.extract g k).data.toList 3 = n at *
              clear hv hy
              go_wp2_with (go_at_call 35; refine (HC.out _).mono ?_; rintro e w1 ⟨rfl, rfl⟩)
              go_ret2
              exact ⟨by rw [← HF.out]; rfl, rfl⟩
            · have hq3 : q < 4 := by omega
              have hq4 : ((q : Int) == 4) = false := by simp; omega
              have hb := Ad.step_bd q hq3 x _ hx0'.out hx.out hn0 hn1
              have HO := Lib.hid (Ad.join8 x _ hx0'.out hb.1 hn0 hn1)
              have HS := Lib.hid ((Ad.stand_yes s g k x q h he hy h4).trans hr.out)
              rw [← hv] at HS
              have HB0 := Lib.hid hb.2.1
              have HB1 := Lib.hid hb.2.2
              clear hb hy hv h4
              generalize Ad.rnum (s.extract g k).data.toList 3 = n at *
              go_wp2_with (go_at_call 35; refine (HC.out _).mono ?_; rintro e w1 ⟨rfl, rfl⟩)
              go_round
              case rel => exact ⟨k + 1, k + 1, q + 1, x * 256 + n, by omega, by omega, by omega, by go_num, by go_num, by go_num, ival HO.out, HB0.out, HB1.out, HS.out⟩
              case measure => simp [intOf]; omega
          · have HF := Lib.hid ((Ad.stand_no s g k x q h he hy).symm.trans hr.out)
            generalize Ad.rnum (s.extract g k).data.toList 3 = n at *
            clear hy
            rcases hv with hv | hv
            all_goals
              go_wp2_with (go_at_call 35; refine (HC.out _).mono ?_; rintro e w1 ⟨rfl, rfl⟩)
              go_ret2
              exact ⟨by rw [← HF.out]; rfl, rfl⟩
end Go.Proofs.YtcnkbhmhbbpmhaaDoor
