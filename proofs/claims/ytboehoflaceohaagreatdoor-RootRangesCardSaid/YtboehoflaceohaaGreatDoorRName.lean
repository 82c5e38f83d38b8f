/- Contract of the document's Name. -/
import Derived.Test.YtboehoflaceohaaGreatDoorName
namespace Go.Proofs.YtboehoflaceohaaGreatDoor
open Go.RowKit Go.Lib Lx
/-- the number of a name's error -/
def nmC (b : Bool) : Int := if b then 0 else 109
theorem ret_code {b : Bool} {x : Int} {W : World} (h : b = true ∧ x = 0 ∨ b = false ∧ x = 109) : Ending.returned (.int .i64 x) = Ending.returned (.int .i64 (nmC b)) ∧ W = W := by
  rcases h with ⟨rfl, rfl⟩ | ⟨rfl, rfl⟩ <;> exact ⟨rfl, rfl⟩
theorem bval {a b : Bool} (h : a = b) : Value.bool a = Value.bool b := by rw [h]
set_option maxHeartbeats 4000000 in
theorem rname_big (s : ByteArray) (w : World) (hs : s.size ≤ 281474976710656) :
    Calls Tryz.prog 94 #[.string s] w fun e w' => e = .returned (.int .i64 (nmC (nameOk s.data.toList))) ∧ w = w' := by
  have HL : Hid (s.data.toList.length = s.size) := by show _ = _; simp
  have hcase : (Hid (headOk s.data.toList = false) ∧ s.size < 1) ∨ (Hid (headOk s.data.toList = false) ∧ 1 ≤ s.size ∧ 12 < s.size) ∨
      ∃ h : 0 < s.size, 1 ≤ s.size ∧ s.size ≤ 12 ∧ ((Hid (headOk s.data.toList = false) ∧ s[0].toNat < 97) ∨ (Hid (headOk s.data.toList = false) ∧ 97 ≤ s[0].toNat ∧ 122 < s[0].toNat) ∨ (Hid (headOk s.data.toList = true) ∧ 97 ≤ s[0].toNat ∧ s[0].toNat ≤ 122)) := by
    unfold headOk
    by_cases h1 : s.size < 1
    · refine .inl ⟨?_, h1⟩
      show _ = false
      rw [HL.out]; simp; omega
    · by_cases h2 : 12 < s.size
      · refine .inr (.inl ⟨?_, by omega, h2⟩)
        show _ = false
        rw [HL.out]; simp; omega
      · refine .inr (.inr ⟨by omega, by omega, by omega, ?_⟩)
        rw [head_byte s (by omega)]
        unfold ltr
        by_cases h3 : s[0].toNat < 97
        · refine .inl ⟨?_, h3⟩
          show _ = false
          simp; omega
        · by_cases h4 : 122 < s[0].toNat
          · refine .inr (.inl ⟨?_, by omega, h4⟩)
            show _ = false
            simp; omega
          · refine .inr (.inr ⟨?_, by omega, by omega⟩)
            show _ = true
            rw [HL.out]; simp; omega
  rcases hcase with ⟨H, h1⟩ | ⟨H, h0, h1⟩ | ⟨h0, h1, h2, ⟨H, h3⟩ | ⟨H, h3, h4⟩ | ⟨H, h3, h4⟩⟩
  all_goals
    go_enter Tryz.func94, Tryz.ntmps94
    go_wp2_with fail
    go_loop [3, 4] (fun o i => ∃ (k : Nat) (b : Bool), k ≤ s.size ∧ i = .int .i64 k ∧ o = .bool b ∧ Hid ((headOk s.data.toList && (s.data.toList.take k).all nch) = b)) (fun _ i => s.size - (intOf i).toNat)
    case atStart => exact ⟨0, _, Nat.zero_le _, rfl, rfl, by show _ = _; rw [H.out]; first | rfl | (simp; done) | (simp; omega)⟩
    case round =>
      obtain ⟨k, b, hk, rfl, rfl, ha⟩ := hrel
      by_cases hlt : k < s.size
      · have HN := Lib.hid (congrArg (headOk s.data.toList && ·) (all_take_next s.data.toList k (by rw [HL.out]; exact hlt)))
        simp only [← Bool.and_assoc, ha.out] at HN
        rw [← at_byte s k hlt] at HN
        have hi0 : (k : Int) < s.size := by omega
        cases b with
        | false =>
          go_wp2
          go_round
          case rel => exact ⟨k + 1, false, by omega, by go_num, bval (by first | rfl | (simp; done) | (simp; omega)), HN⟩
          case measure => simp [intOf]; omega
        | true =>
          first
          | (exfalso; have h9 := ha.out; rw [H.out] at h9; simp at h9; done)
          | (clear H
             rcases ch_cases s[k] with ⟨g1, g2, h3, h4⟩ | ⟨g1, h3, h4, h5⟩ | ⟨g1, g2, h3, h4, h5⟩ | ⟨g0, g1, h3, h4, h5⟩ | ⟨g1, h3, h4, h5⟩ | ⟨g0, g1, h3, h4, h5⟩
             · rw [h3] at HN
               clear h3 h4
               go_wp2
               go_round
               case rel => exact ⟨k + 1, true, by omega, by go_num, bval (by first | rfl | (simp; done) | (simp; omega)), HN⟩
               case measure => simp [intOf]; omega
             · rw [h3] at HN
               clear h3 h4 h5
               have g2 : 97 ≤ s[k].toNat := by omega
               have g3 : 48 ≤ s[k].toNat := by omega
               have g4 : 57 < s[k].toNat := by omega
               have g5 : (((s[k].toNat : Nat) : Int) == 45) = false := by simp; omega
               go_wp2
               go_round
               case rel => exact ⟨k + 1, false, by omega, by go_num, bval (by first | rfl | (simp; done) | (simp; omega)), HN⟩
               case measure => simp [intOf]; omega
             · rw [h3] at HN
               clear h3 h4 h5
               have g3 : s[k].toNat < 97 := by omega
               go_wp2
               go_round
               case rel => exact ⟨k + 1, true, by omega, by go_num, bval (by first | rfl | (simp; done) | (simp; omega)), HN⟩
               case measure => simp [intOf]; omega
             · rw [h3] at HN
               clear h3 h4 h5
               have g3 : 48 ≤ s[k].toNat := by omega
               have g5 : (((s[k].toNat : Nat) : Int) == 45) = false := by simp; omega
               go_wp2
               go_round
               case rel => exact ⟨k + 1, false, by omega, by go_num, bval (by first | rfl | (simp; done) | (simp; omega)), HN⟩
               case measure => simp [intOf]; omega
             · rw [h3] at HN
               clear h3 h4 h5
               have g3 : s[k].toNat < 48 := by omega
               have g4 : s[k].toNat < 97 := by omega
               have g5 : (((s[k].toNat : Nat) : Int) == 45) = true := by simp; omega
               clear g1
               go_wp2
               go_round
               case rel => exact ⟨k + 1, true, by omega, by go_num, bval (by first | rfl | (simp; done) | (simp; omega)), HN⟩
               case measure => simp [intOf]; omega
             · rw [h3] at HN
               clear h3 h4 h5
               have g4 : s[k].toNat < 97 := by omega
               have g5 : (((s[k].toNat : Nat) : Int) == 45) = false := by simp; omega
               clear g1
               go_wp2
               go_round
               case rel => exact ⟨k + 1, false, by omega, by go_num, bval (by first | rfl | (simp; done) | (simp; omega)), HN⟩
               case measure => simp [intOf]; omega)
      · have he : s.data.toList.take k = s.data.toList := List.take_of_length_le (by rw [HL.out]; omega)
        rw [he] at ha
        clear he
        cases b with
        | false =>
          go_wp2
          go_ret
          exact ret_code (.inr ⟨ha.out, rfl⟩)
        | true =>
          go_wp2
          go_ret
          exact ret_code (.inl ⟨ha.out, rfl⟩)
theorem rname_any (s : ByteArray) (w : World) (hs : s.size ≤ 1048576) :
    Calls Tryz.prog 94 #[.string s] w fun e w' => e = .returned (.int .i64 (nmC (nameOk s.data.toList))) ∧ w = w' := rname_big s w (by omega)
end Go.Proofs.YtboehoflaceohaaGreatDoor

