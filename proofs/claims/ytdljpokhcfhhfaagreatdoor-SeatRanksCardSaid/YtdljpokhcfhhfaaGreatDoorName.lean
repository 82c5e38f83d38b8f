/- Contracts of lex.Name and of the document's Name: a name's signs. Condition of the first: the error of names lies in its variable. Contract of the document's Name. -/
import Derived.Test.YtdljpokhcfhhfaaGreatDoorStr
import Derived.Test.YtdljpokhcfhhfaaGreatDoorProg
import Derived.WalkKit
import Derived.Lib.Hide
namespace Go.Proofs.YtdljpokhcfhhfaaGreatDoor
open Go.RowKit Go.Lib
namespace Lx
def ltr (c : UInt8) : Bool := decide (97 ≤ c.toNat ∧ c.toNat ≤ 122)
def dgt (c : UInt8) : Bool := decide (48 ≤ c.toNat ∧ c.toNat ≤ 57)
def nch (c : UInt8) : Bool := ltr c || dgt c || decide (c.toNat = 45)
def headOk (l : List UInt8) : Bool := decide (1 ≤ l.length ∧ l.length ≤ 12) && ltr (l.headD 0)
def nameOk (l : List UInt8) : Bool := headOk l && l.all nch
theorem all_take_next (l : List UInt8) (k : Nat) (h : k < l.length) : (l.take (k + 1)).all nch = ((l.take k).all nch && nch l[k]) := by
  rw [List.take_succ_eq_append_getElem h, List.all_append]; simp
theorem all_false (l : List UInt8) (k : Nat) (h : k < l.length) (hc : nch l[k] = false) : l.all nch = false := by
  rw [Bool.eq_false_iff]
  intro ha
  rw [List.all_eq_true] at ha
  rw [ha l[k] (List.getElem_mem h)] at hc
  cases hc
theorem ch_cases (c : UInt8) : (97 ≤ c.toNat ∧ c.toNat ≤ 122 ∧ nch c = true ∧ ltr c = true) ∨ (122 < c.toNat ∧ nch c = false ∧ ltr c = false ∧ dgt c = false) ∨ (48 ≤ c.toNat ∧ c.toNat ≤ 57 ∧ nch c = true ∧ ltr c = false ∧ dgt c = true) ∨
    (57 < c.toNat ∧ c.toNat < 97 ∧ nch c = false ∧ ltr c = false ∧ dgt c = false) ∨ (c.toNat = 45 ∧ nch c = true ∧ ltr c = false ∧ dgt c = false) ∨ (c.toNat < 48 ∧ c.toNat ≠ 45 ∧ nch c = false ∧ ltr c = false ∧ dgt c = false) := by
  unfold nch ltr dgt
  simp only [Bool.or_eq_true, Bool.or_eq_false_iff, decide_eq_true_eq, decide_eq_false_iff_not]
  omega
theorem nameOk_no {l : List UInt8} (h : headOk l = false) : nameOk l = false := by unfold nameOk; rw [h]; rfl
theorem nameOk_not {l : List UInt8} (h : l.all nch = false) : nameOk l = false := by unfold nameOk; rw [h]; simp
theorem nameOk_yes {l : List UInt8} (h : headOk l = true) (g : l.all nch = true) : nameOk l = true := by unfold nameOk; rw [h, g]; rfl
end Lx
open Lx
theorem at_byte (s : ByteArray) (k : Nat) (h : k < s.size) : s[k] = s.data.toList[k]'(by simpa using h) := rfl
theorem head_byte (s : ByteArray) (h : 0 < s.size) : s.data.toList.headD 0 = s[0] := by
  have e : ∀ l : List UInt8, (hl : 0 < l.length) → l.headD 0 = l[0] := fun l hl => by
    cases l with
    | nil => simp at hl
    | cons a r => rfl
  exact e s.data.toList (by simpa using h)
/-- the error of a name: none, or the one that is told -/
def nmV (b : Bool) (x : Value) : Value := if b then .nilIface else x
theorem ret_if {b : Bool} {v x : Value} {W : World} (h : b = true ∧ x = .nilIface ∨ b = false ∧ x = v) : Ending.returned x = Ending.returned (nmV b v) ∧ W = W := by
  rcases h with ⟨rfl, rfl⟩ | ⟨rfl, rfl⟩ <;> exact ⟨rfl, rfl⟩
theorem letter_any (c : UInt8) (w : World) : Calls Tryz.prog 212 #[.int .u8 (c.toNat : Int)] w fun e w' => e = .returned (.bool (ltr c)) ∧ w = w' := by
  have hl : Hid (ltr c = decide (97 ≤ c.toNat ∧ c.toNat ≤ 122)) := rfl
  generalize ltr c = b at *
  generalize c.toNat = n at *
  rcases Nat.lt_or_ge n 97 with h | h
  · go_enter Tryz.func212, Tryz.ntmps212
    go_wp2
    go_ret
    exact ⟨ret_bool (hl.out.trans (by rw [Bool.eq_iff_iff]; simp; omega)).symm, rfl⟩
  · rcases Nat.lt_or_ge 122 n with g | g
    · go_enter Tryz.func212, Tryz.ntmps212
      go_wp2
      go_ret
      exact ⟨ret_bool (hl.out.trans (by rw [Bool.eq_iff_iff]; simp; omega)).symm, rfl⟩
    · go_enter Tryz.func212, Tryz.ntmps212
      go_wp2
      go_ret
      exact ⟨ret_bool (hl.out.trans (by rw [Bool.eq_iff_iff]; simp; omega)).symm, rfl⟩
theorem digit_any (c : UInt8) (w : World) : Calls Tryz.prog 213 #[.int .u8 (c.toNat : Int)] w fun e w' => e = .returned (.bool (dgt c)) ∧ w = w' := by
  have hl : Hid (dgt c = decide (48 ≤ c.toNat ∧ c.toNat ≤ 57)) := rfl
  generalize dgt c = b at *
  generalize c.toNat = n at *
  rcases Nat.lt_or_ge n 48 with h | h
  · go_enter Tryz.func213, Tryz.ntmps213
    go_wp2
    go_ret
    exact ⟨ret_bool (hl.out.trans (by rw [Bool.eq_iff_iff]; simp; omega)).symm, rfl⟩
  · rcases Nat.lt_or_ge 57 n with g | g
    · go_enter Tryz.func213, Tryz.ntmps213
      go_wp2
      go_ret
      exact ⟨ret_bool (hl.out.trans (by rw [Bool.eq_iff_iff]; simp; omega)).symm, rfl⟩
    · go_enter Tryz.func213, Tryz.ntmps213
      go_wp2
      go_ret
      exact ⟨ret_bool (hl.out.trans (by rw [Bool.eq_iff_iff]; simp; omega)).symm, rfl⟩
set_option maxHeartbeats 2000000 in
theorem name_any (s : ByteArray) (x : Value) (w : World) (hx : w.cell? ⟨6, 0, none⟩ = some x) :
    Calls Tryz.prog 150 #[.string s] w fun e w' => e = .returned (nmV (nameOk s.data.toList) x) ∧ w = w' := by
  have HL : Hid (s.data.toList.length = s.size) := by show _ = _; simp
  have hcase : (Hid (headOk s.data.toList = false) ∧ s.size < 1) ∨ (Hid (headOk s.data.toList = false) ∧ 1 ≤ s.size ∧ 12 < s.size) ∨
      ∃ h : 0 < s.size, s.size ≤ 12 ∧ ((Hid (headOk s.data.toList = false) ∧ ltr s[0] = false) ∨ (Hid (headOk s.data.toList = true) ∧ ltr s[0] = true)) := by
    unfold headOk
    by_cases h1 : s.size < 1
    · refine .inl ⟨?_, h1⟩
      show _ = false
      rw [HL.out]; simp; omega
    · by_cases h2 : 12 < s.size
      · refine .inr (.inl ⟨?_, by omega, h2⟩)
        show _ = false
        rw [HL.out]; simp; omega
      · refine .inr (.inr ⟨by omega, by omega, ?_⟩)
        rw [head_byte s (by omega)]
        cases hl : ltr s[0] with
        | false => exact .inl ⟨by show _ = false; simp, rfl⟩
        | true => exact .inr ⟨by show _ = true; rw [HL.out]; simp; omega, rfl⟩
  rcases hcase with ⟨H, h1⟩ | ⟨H, h0, h1⟩ | ⟨h1, h2, hcase⟩
  · go_enter Tryz.func150, Tryz.ntmps150
    go_wp2
    go_ret
    exact ret_if (.inr ⟨nameOk_no H.out, rfl⟩)
  · go_enter Tryz.func150, Tryz.ntmps150
    go_wp2
    go_ret
    exact ret_if (.inr ⟨nameOk_no H.out, rfl⟩)
  · have HC0 := Lib.hid (fun W => letter_any s[0] W)
    rcases hcase with ⟨H, hl⟩ | ⟨H, hl⟩
    · rw [hl] at HC0
      clear hl
      go_enter Tryz.func150, Tryz.ntmps150
      go_wp2_with (go_at_call 212; refine (HC0.out _).mono ?_; rintro e w1 ⟨rfl, rfl⟩)
      go_ret
      exact ret_if (.inr ⟨nameOk_no H.out, rfl⟩)
    · rw [hl] at HC0
      clear hl
      go_enter Tryz.func150, Tryz.ntmps150
      go_wp2_with (go_at_call 212; refine (HC0.out _).mono ?_; rintro e w1 ⟨rfl, rfl⟩)
      clear HC0
      go_loop [21] (fun i => ∃ k : Nat, k ≤ s.size ∧ i = .int .i64 k ∧ Hid ((s.data.toList.take k).all nch = true)) (fun i => s.size - (intOf i).toNat)
      case atStart => exact ⟨0, Nat.zero_le _, rfl, rfl⟩
      case round =>
        obtain ⟨k, hk, rfl, ha⟩ := hrel
        by_cases hlt : k < s.size
        · have HN := Lib.hid (all_take_next s.data.toList k (by rw [HL.out]; exact hlt))
          have HF := Lib.hid (all_false s.data.toList k (by rw [HL.out]; exact hlt))
          rw [← at_byte s k hlt] at HN HF
          rw [ha.out] at HN
          have HCl := Lib.hid (fun W => letter_any s[k] W)
          have HCd := Lib.hid (fun W => digit_any s[k] W)
          have hi0 : (k : Int) < s.size := by omega
          rcases ch_cases s[k] with ⟨_, _, h3, h4⟩ | ⟨h1, h3, h4, h5⟩ | ⟨_, _, h3, h4, h5⟩ | ⟨h0, h1, h3, h4, h5⟩ | ⟨h1, h3, h4, h5⟩ | ⟨_, h1, h3, h4, h5⟩
          · rw [h4] at HCl
            rw [h3] at HN
            clear h3 h4 HF
            go_wp2_with (go_at_call 212; refine (HCl.out _).mono ?_; rintro e w1 ⟨rfl, rfl⟩)
            go_round
            case rel => exact ⟨k + 1, by omega, by go_num, HN⟩
            case measure => simp [intOf]; omega
          · rw [h4] at HCl
            rw [h5] at HCd
            have he : (((s[k].toNat : Nat) : Int) != 45) = true := by simp; omega
            have HX := Lib.hid (HF.out h3)
            clear h3 h4 h5 HF h1
            go_wp2_with (first
              | (go_at_call 212; refine (HCl.out _).mono ?_; rintro e w1 ⟨rfl, rfl⟩)
              | (go_at_call 213; refine (HCd.out _).mono ?_; rintro e w1 ⟨rfl, rfl⟩))
            go_ret
            exact ret_if (.inr ⟨nameOk_not HX.out, rfl⟩)
          · rw [h4] at HCl
            rw [h5] at HCd
            rw [h3] at HN
            clear h3 h4 h5 HF
            go_wp2_with (first
              | (go_at_call 212; refine (HCl.out _).mono ?_; rintro e w1 ⟨rfl, rfl⟩)
              | (go_at_call 213; refine (HCd.out _).mono ?_; rintro e w1 ⟨rfl, rfl⟩))
            go_round
            case rel => exact ⟨k + 1, by omega, by go_num, HN⟩
            case measure => simp [intOf]; omega
          · rw [h4] at HCl
            rw [h5] at HCd
            have he : (((s[k].toNat : Nat) : Int) != 45) = true := by simp; omega
            have HX := Lib.hid (HF.out h3)
            clear h3 h4 h5 HF h1 h0
            go_wp2_with (first
              | (go_at_call 212; refine (HCl.out _).mono ?_; rintro e w1 ⟨rfl, rfl⟩)
              | (go_at_call 213; refine (HCd.out _).mono ?_; rintro e w1 ⟨rfl, rfl⟩))
            go_ret
            exact ret_if (.inr ⟨nameOk_not HX.out, rfl⟩)
          · rw [h4] at HCl
            rw [h5] at HCd
            have he : (((s[k].toNat : Nat) : Int) != 45) = false := by rw [h1]; rfl
            rw [h3] at HN
            clear h3 h4 h5 HF h1
            go_wp2_with (first
              | (go_at_call 212; refine (HCl.out _).mono ?_; rintro e w1 ⟨rfl, rfl⟩)
              | (go_at_call 213; refine (HCd.out _).mono ?_; rintro e w1 ⟨rfl, rfl⟩))
            go_round
            case rel => exact ⟨k + 1, by omega, by go_num, HN⟩
            case measure => simp [intOf]; omega
          · rw [h4] at HCl
            rw [h5] at HCd
            have he : (((s[k].toNat : Nat) : Int) != 45) = true := by simp; omega
            have HX := Lib.hid (HF.out h3)
            clear h3 h4 h5 HF h1
            go_wp2_with (first
              | (go_at_call 212; refine (HCl.out _).mono ?_; rintro e w1 ⟨rfl, rfl⟩)
              | (go_at_call 213; refine (HCd.out _).mono ?_; rintro e w1 ⟨rfl, rfl⟩))
            go_ret
            exact ret_if (.inr ⟨nameOk_not HX.out, rfl⟩)
        · have he : s.data.toList.take k = s.data.toList := List.take_of_length_le (by rw [HL.out]; omega)
          rw [he] at ha
          clear he
          go_wp2
          go_ret
          exact ret_if (.inl ⟨nameOk_yes H.out ha.out, rfl⟩)
end Go.Proofs.YtdljpokhcfhhfaaGreatDoor
namespace Go.Proofs.YtdljpokhcfhhfaaGreatDoor
open Go.RowKit Go.Lib Lx
/-- the number of a name's error -/
def nmC (b : Bool) : Int := if b then 0 else 109
theorem ret_code {b : Bool} {x : Int} {W : World} (h : b = true ∧ x = 0 ∨ b = false ∧ x = 109) : Ending.returned (.int .i64 x) = Ending.returned (.int .i64 (nmC b)) ∧ W = W := by
  rcases h with ⟨rfl, rfl⟩ | ⟨rfl, rfl⟩ <;> exact ⟨rfl, rfl⟩
theorem bval {a b : Bool} (h : a = b) : Value.bool a = Value.bool b := by rw [h]
set_option maxHeartbeats 4000000 in
theorem rname_big (s : ByteArray) (w : World) (hs : s.size ≤ 9223372036854775807) :
    Calls Tryz.prog 206 #[.string s] w fun e w' => e = .returned (.int .i64 (nmC (nameOk s.data.toList))) ∧ w = w' := by
  have HL : Hid (s.data.toList.length = s.size) := by show _ = _; simp
  have hcase : (Hid (headOk s.data.toList = false) ∧ s.size < 1) ∨ (Hid (headOk s.data.toList = false) ∧ 1 ≤ s.size ∧ 12 < s.size) ∨
      ∃ h : 0 < s.size, 1 ≤ s.size ∧ s.size ≤ 12 ∧ ((Hid (headOk s.data.toList = false) ∧ s[0].toNat < 97) ∨ (Hid (headOk s.data.toList = false) ∧ 97 ≤ s[0].toNat ∧ 122 < s[0].toNat) ∨ (Hid (headOk s.data.toList = true) ∧ 97 ≤ s[0].toNat ∧ s[0].toNat ≤ 122)) := by
    unfold headOk
    by_cases h1 : s.size < 1
    · refine .inl ⟨?_, h1⟩
      show _ = false
      rw [HL.out]; simp; omega
    · by_cases h2 : 12 < s.size
      · refine .inr (.inl ⟨?_, by omega, h2⟩)
        show _ = false
        rw [HL.out]; simp; omega
      · refine .inr (.inr ⟨by omega, by omega, by omega, ?_⟩)
        rw [head_byte s (by omega)]
        unfold ltr
        by_cases h3 : s[0].toNat < 97
        · refine .inl ⟨?_, h3⟩
          show _ = false
          simp; omega
        · by_cases h4 : 122 < s[0].toNat
          · refine .inr (.inl ⟨?_, by omega, h4⟩)
            show _ = false
            simp; omega
          · refine .inr (.inr ⟨?_, by omega, by omega⟩)
            show _ = true
            rw [HL.out]; simp; omega
  rcases hcase with ⟨H, h1⟩ | ⟨H, h0, h1⟩ | ⟨h0, h1, h2, ⟨H, h3⟩ | ⟨H, h3, h4⟩ | ⟨H, h3, h4⟩⟩
  all_goals
    go_enter Tryz.func206, Tryz.ntmps206
    go_wp2_with fail
    go_loop [3, 4] (fun o i => ∃ (k : Nat) (b : Bool), k ≤ s.size ∧ i = .int .i64 k ∧ o = .bool b ∧ Hid ((headOk s.data.toList && (s.data.toList.take k).all nch) = b)) (fun _ i => s.size - (intOf i).toNat)
    case atStart => exact ⟨0, _, Nat.zero_le _, rfl, rfl, by show _ = _; rw [H.out]; first | rfl | (simp; done) | (simp; omega)⟩
    case round =>
      obtain ⟨k, b, hk, rfl, rfl, ha⟩ := hrel
      by_cases hlt : k < s.size
      · have HN := Lib.hid (congrArg (headOk s.data.toList && ·) (all_take_next s.data.toList k (by rw [HL.out]; exact hlt)))
        simp only [← Bool.and_assoc, ha.out] at HN
        rw [← at_byte s k hlt] at HN
        have hi0 : (k : Int) < s.size := by omega
        cases b with
        | false =>
          go_wp2
          go_round
          case rel => exact ⟨k + 1, false, by omega, by go_num, bval (by first | rfl | (simp; done) | (simp; omega)), HN⟩
          case measure => simp [intOf]; omega
        | true =>
          first
          | (exfalso; have h9 := ha.out; rw [H.out] at h9; simp at h9; done)
          | (clear H
             rcases ch_cases s[k] with ⟨g1, g2, h3, h4⟩ | ⟨g1, h3, h4, h5⟩ | ⟨g1, g2, h3, h4, h5⟩ | ⟨g0, g1, h3, h4, h5⟩ | ⟨g1, h3, h4, h5⟩ | ⟨g0, g1, h3, h4, h5⟩
             · rw [h3] at HN
               clear h3 h4
               go_wp2
               go_round
               case rel => exact ⟨k + 1, true, by omega, by go_num, bval (by first | rfl | (simp; done) | (simp; omega)), HN⟩
               case measure => simp [intOf]; omega
             · rw [h3] at HN
               clear h3 h4 h5
               have g2 : 97 ≤ s[k].toNat := by omega
               have g3 : 48 ≤ s[k].toNat := by omega
               have g4 : 57 < s[k].toNat := by omega
               have g5 : (((s[k].toNat : Nat) : Int) == 45) = false := by simp; omega
               go_wp2
               go_round
               case rel => exact ⟨k + 1, false, by omega, by go_num, bval (by first | rfl | (simp; done) | (simp; omega)), HN⟩
               case measure => simp [intOf]; omega
             · rw [h3] at HN
               clear h3 h4 h5
               have g3 : s[k].toNat < 97 := by omega
               go_wp2
               go_round
               case rel => exact ⟨k + 1, true, by omega, by go_num, bval (by first | rfl | (simp; done) | (simp; omega)), HN⟩
               case measure => simp [intOf]; omega
             · rw [h3] at HN
               clear h3 h4 h5
               have g3 : 48 ≤ s[k].toNat := by omega
               have g5 : (((s[k].toNat : Nat) : Int) == 45) = false := by simp; omega
               go_wp2
               go_round
               case rel => exact ⟨k + 1, false, by omega, by go_num, bval (by first | rfl | (simp; done) | (simp; omega)), HN⟩
               case measure => simp [intOf]; omega
             · rw [h3] at HN
               clear h3 h4 h5
               have g3 : s[k].toNat < 48 := by omega
               have g4 : s[k].toNat < 97 := by omega
               have g5 : (((s[k].toNat : Nat) : Int) == 45) = true := by simp; omega
               clear g1
               go_wp2
               go_round
               case rel => exact ⟨k + 1, true, by omega, by go_num, bval (by first | rfl | (simp; done) | (simp; omega)), HN⟩
               case measure => simp [intOf]; omega
             · rw [h3] at HN
               clear h3 h4 h5
               have g4 : s[k].toNat < 97 := by omega
               have g5 : (((s[k].toNat : Nat) : Int) == 45) = false := by simp; omega
               clear g1
               go_wp2
               go_round
               case rel => exact ⟨k + 1, false, by omega, by go_num, bval (by first | rfl | (simp; done) | (simp; omega)), HN⟩
               case measure => simp [intOf]; omega)
      · have he : s.data.toList.take k = s.data.toList := List.take_of_length_le (by rw [HL.out]; omega)
        rw [he] at ha
        clear he
        cases b with
        | false =>
          go_wp2
          go_ret
          exact ret_code (.inr ⟨ha.out, rfl⟩)
        | true =>
          go_wp2
          go_ret
          exact ret_code (.inl ⟨ha.out, rfl⟩)
theorem rname_any (s : ByteArray) (w : World) (hs : s.size ≤ 1048576) :
    Calls Tryz.prog 206 #[.string s] w fun e w' => e = .returned (.int .i64 (nmC (nameOk s.data.toList))) ∧ w = w' := rname_big s w (by omega)
end Go.Proofs.YtdljpokhcfhhfaaGreatDoor

