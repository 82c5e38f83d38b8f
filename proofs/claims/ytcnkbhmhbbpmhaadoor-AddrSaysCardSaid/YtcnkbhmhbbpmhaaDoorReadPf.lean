/- The contract of the document's own reading of prefixes: it answers as package addr's. -/
import Derived.Test.YtcnkbhmhbbpmhaaDoorRead
namespace Go.Proofs.YtcnkbhmhbbpmhaaDoor
open Go.RowKit
/-- what the document's ParsePrefix answers -/
def rprefV : Option (Int × Int) → Value
  | some (a, b) => .tuple #[.agg #[.int .u32 a, .int .i64 b], .bool true]
  | none => .tuple #[.agg #[.int .u32 0, .int .i64 0], .bool false]
theorem slash_int (c : UInt8) (h : c ≠ 47) : ((c.toNat : Int) != 47) = true := by
  have : c.toNat ≠ 47 := fun e => h (UInt8.toNat_inj.1 e)
  simp; omega
set_option maxRecDepth 100000 in
set_option maxHeartbeats 2000000 in
theorem rpref_any (s : ByteArray) (w : World) (hs : s.size ≤ 60) :
    Calls Tryd.prog 13 #[.string s] w fun e w' => e = .returned (rprefV (Ad.pref s)) ∧ Below w.heap.size w w' := by
  generalize hr : Ad.pref s = r
  have HR := Lib.hid hr
  clear hr
  go_enter Tryd.func13, Tryd.ntmps13
  go_wp2_with fail
  have hb0 : Blk (w.alloc (.cells #[.int .u32 0, .int .i64 0] 25)) w.heap.size 25 #[.int .u32 0, .int .i64 0] := Blk.new w _ _
  have hw0 : Below w.heap.size w (w.alloc (.cells #[.int .u32 0, .int .i64 0] 25)) := (Below.refl _ _).alloc (Nat.le_refl _) _
  generalize hW : w.alloc (.cells #[.int .u32 0, .int .i64 0] 25) = W at *
  clear hW
  have hlt := hb0.lt
  have hc0 : W.cell? ⟨w.heap.size, 0, none⟩ = some (.int .u32 0) := hb0.cell 0
  have hc1 : W.cell? ⟨w.heap.size, 1, none⟩ = some (.int .i64 0) := hb0.cell 1
  have hf0 : W.frozen? ⟨w.heap.size, 0, none⟩ = false := hb0.frozen 0
  have hf1 : W.frozen? ⟨w.heap.size, 1, none⟩ = false := hb0.frozen 1
  have HW := Lib.hid hw0
  have HB := Lib.hid hb0
  clear hb0 hw0
  go_loop [4] (fun i => ∃ k : Nat, k ≤ s.size ∧ i = .int .i64 k ∧ Hid (∀ x ∈ s.data.toList.take k, x ≠ 47)) (fun i => s.size - (intOf i).toNat)
  case atStart => exact ⟨0, by omega, rfl, by show ∀ x ∈ s.data.toList.take 0, x ≠ 47; simp⟩
  case round =>
    obtain ⟨k, hk, rfl, hn⟩ := hrel
    rcases Nat.lt_or_ge k s.size with h | h
    · by_cases h47 : s[k] = 47
      · have hpt : ((s[k].toNat : Int) != 47) = false := by rw [h47]; rfl
        have hcut := Ad.cut_at s k h hn.out h47
        have hle : (s.extract 0 k).size ≤ 60 := by rw [Lib.size_eq, Lib.extract_data, List.length_take, List.length_drop, ← Lib.size_eq]; omega
        have HC := Lib.hid (fun W => rparse_any (s.extract 0 k) W hle)
        have HD := Lib.hid (fun W => rnum_any (s.extract (k + 1) s.size) 2 W (by omega) (by omega))
        clear hle h47
        have hcase : (Ad.parse (s.extract 0 k) = none ∧ Hid (none = r)) ∨
            (∃ a, Ad.parse (s.extract 0 k) = some a ∧ (Ad.rnum (s.extract (k + 1) s.size).data.toList 2 < 0 ∨ 32 < Ad.rnum (s.extract (k + 1) s.size).data.toList 2) ∧ Hid (none = r)) ∨
            (∃ a b, Ad.parse (s.extract 0 k) = some a ∧ 0 ≤ a ∧ a ≤ 4294967295 ∧ Ad.rnum (s.extract (k + 1) s.size).data.toList 2 = b ∧ 0 ≤ b ∧ b ≤ 32 ∧ Hid (Ad.valid a b = false) ∧ Hid (none = r)) ∨
            (∃ a b, Ad.parse (s.extract 0 k) = some a ∧ 0 ≤ a ∧ a ≤ 4294967295 ∧ Ad.rnum (s.extract (k + 1) s.size).data.toList 2 = b ∧ 0 ≤ b ∧ b ≤ 32 ∧ Hid (Ad.valid a b = true) ∧ Hid (some (a, b) = r)) := by
          rw [← hcut.1, ← hcut.2]
          cases hp : Ad.parse (Ad.cut1 s) with
          | none => exact .inl ⟨rfl, (Ad.pref_no s hp).symm.trans HR.out⟩
          | some a =>
            have hbd := parse_bd hp
            rcases Ad.rnum2 (Ad.cut2 s).data.toList with ⟨h1, h2, h3, h4⟩ | ⟨h1, h2⟩
            · by_cases hv : Ad.valid a (Ad.val (Ad.cut2 s).data.toList) = true
              · exact .inr (.inr (.inr ⟨a, _, rfl, hbd.1, hbd.2, rfl, h3, h4, by rw [h2]; exact hv, (by rw [h2]; exact (Ad.pref_yes s a hp h1 hv).symm.trans HR.out)⟩))
              · have hv' : Ad.valid a (Ad.val (Ad.cut2 s).data.toList) = false := by simpa using hv
                exact .inr (.inr (.inl ⟨a, _, rfl, hbd.1, hbd.2, rfl, h3, h4, by rw [h2]; exact hv', (Ad.pref_bad s a hp hv').symm.trans HR.out⟩))
            · exact .inr (.inl ⟨a, rfl, h2, (Ad.pref_out s a hp h1).symm.trans HR.out⟩)
        clear hcut HR
        rcases hcase with ⟨hp, HF⟩ | ⟨a, hp, hb, HF⟩ | ⟨a, b, hp, ha0, ha1, hb, hb0, hb1, HV, HF⟩ | ⟨a, b, hp, ha0, ha1, hb, hb0, hb1, HV, HF⟩
        · rw [hp] at HC
          generalize Ad.rnum (s.extract (k + 1) s.size).data.toList 2 = n at *
          clear hp
          unfold rparseV at HC
          go_wp2_with (first
            | (go_at_call 11; refine (HC.out _).mono ?_; rintro e w1 ⟨rfl, rfl⟩)
            | (go_at_call 35; refine (HD.out _).mono ?_; rintro e w1 ⟨rfl, rfl⟩))
          refine bodyPost_ret (v := .tuple #[.agg #[.int .u32 0, .int .i64 0], .bool false]) (by simp [results, Tryd.results13, go_sem, hc0, hc1, hlt]) rfl ⟨by rw [← HF.out]; rfl, ?_⟩
          exact ((HW.out.setCell (Nat.le_refl _) _).setCell (Nat.le_refl _) _).alloc (((HW.out.setCell (Nat.le_refl _) _).setCell (Nat.le_refl _) _).size) _
        · rw [hp] at HC
          generalize Ad.rnum (s.extract (k + 1) s.size).data.toList 2 = n at *
          clear hp
          unfold rparseV at HC
          rcases hb with hb | hb
          all_goals
            go_wp2_with (first
              | (go_at_call 11; refine (HC.out _).mono ?_; rintro e w1 ⟨rfl, rfl⟩)
              | (go_at_call 35; refine (HD.out _).mono ?_; rintro e w1 ⟨rfl, rfl⟩))
            refine bodyPost_ret (v := .tuple #[.agg #[.int .u32 0, .int .i64 0], .bool false]) (by simp [results, Tryd.results13, go_sem, hc0, hc1, hlt]) rfl ⟨by rw [← HF.out]; rfl, ?_⟩
            exact ((HW.out.setCell (Nat.le_refl _) _).setCell (Nat.le_refl _) _).alloc (((HW.out.setCell (Nat.le_refl _) _).setCell (Nat.le_refl _) _).size) _
        · rw [hp] at HC
          rw [hb] at HD
          clear hp hb
          unfold rparseV at HC
          go_wp2_with (first
            | (go_at_call 11; refine (HC.out _).mono ?_; rintro e w1 ⟨rfl, rfl⟩)
            | (go_at_call 35; refine (HD.out _).mono ?_; rintro e w1 ⟨rfl, rfl⟩)
            | (go_at_call 22; refine (rvalid_any _ _ _ ha0 ha1).mono ?_; rintro e w3 ⟨rfl, hb3⟩; rw [HV.out]
               have hk3 : Blk w3 w.heap.size 25 #[.int .u32 0, .int .i64 0] := (HB.out.alloc _).next hb3
               have hq3 : Blk w3 W.heap.size 25 #[.int .u32 a, .int .i64 b] := (Blk.new W _ _).next hb3
               have hw3 : Below w.heap.size w w3 := (HW.out.alloc HW.out.size _).trans (hb3.mono (Nat.le_trans HW.out.size (by simp)))
               have hd0 : w3.cell? ⟨w.heap.size, 0, none⟩ = some (.int .u32 0) := hk3.cell 0
               have hd1 : w3.cell? ⟨w.heap.size, 1, none⟩ = some (.int .i64 0) := hk3.cell 1
               have hg0 : w3.frozen? ⟨w.heap.size, 0, none⟩ = false := hk3.frozen 0
               have hg1 : w3.frozen? ⟨w.heap.size, 1, none⟩ = false := hk3.frozen 1
               have hq0 : w3.cell? ⟨W.heap.size, 0, none⟩ = some (.int .u32 a) := hq3.cell 0
               have hq1 : w3.cell? ⟨W.heap.size, 1, none⟩ = some (.int .i64 b) := hq3.cell 1
               have HW3 := Lib.hid hw3
               clear hk3 hq3 hw3 hb3))
          refine bodyPost_ret (v := .tuple #[.agg #[.int .u32 0, .int .i64 0], .bool false]) (by simp [results, Tryd.results13, go_sem, hd0, hd1]) rfl ⟨by rw [← HF.out]; rfl, ?_⟩
          exact (HW3.out.setCell (Nat.le_refl _) _).setCell (Nat.le_refl _) _
        · rw [hp] at HC
          rw [hb] at HD
          clear hp hb
          unfold rparseV at HC
          go_wp2_with (first
            | (go_at_call 11; refine (HC.out _).mono ?_; rintro e w1 ⟨rfl, rfl⟩)
            | (go_at_call 35; refine (HD.out _).mono ?_; rintro e w1 ⟨rfl, rfl⟩)
            | (go_at_call 22; refine (rvalid_any _ _ _ ha0 ha1).mono ?_; rintro e w3 ⟨rfl, hb3⟩; rw [HV.out]
               have hk3 : Blk w3 w.heap.size 25 #[.int .u32 0, .int .i64 0] := (HB.out.alloc _).next hb3
               have hq3 : Blk w3 W.heap.size 25 #[.int .u32 a, .int .i64 b] := (Blk.new W _ _).next hb3
               have hw3 : Below w.heap.size w w3 := (HW.out.alloc HW.out.size _).trans (hb3.mono (Nat.le_trans HW.out.size (by simp)))
               have hd0 : w3.cell? ⟨w.heap.size, 0, none⟩ = some (.int .u32 0) := hk3.cell 0
               have hd1 : w3.cell? ⟨w.heap.size, 1, none⟩ = some (.int .i64 0) := hk3.cell 1
               have hg0 : w3.frozen? ⟨w.heap.size, 0, none⟩ = false := hk3.frozen 0
               have hg1 : w3.frozen? ⟨w.heap.size, 1, none⟩ = false := hk3.frozen 1
               have hq0 : w3.cell? ⟨W.heap.size, 0, none⟩ = some (.int .u32 a) := hq3.cell 0
               have hq1 : w3.cell? ⟨W.heap.size, 1, none⟩ = some (.int .i64 b) := hq3.cell 1
               have HW3 := Lib.hid hw3
               clear hk3 hq3 hw3 hb3))
          refine bodyPost_ret (v := .tuple #[.agg #[.int .u32 a, .int .i64 b], .bool true]) (by simp [results, Tryd.results13, go_sem, hd0, hd1]) rfl ⟨by rw [← HF.out]; rfl, ?_⟩
          exact (HW3.out.setCell (Nat.le_refl _) _).setCell (Nat.le_refl _) _
      · have hpt := slash_int _ h47
        have HN := Lib.hid (Ad.take_no_next s k h hn.out h47)
        clear h47
        go_wp2
        go_round
        case rel => exact ⟨k + 1, by omega, by go_num, HN⟩
        case measure => simp [intOf]; omega
    · have HF : Hid (none = r) := by
        show none = r
        rw [← HR.out]
        refine (Ad.pref_miss s ?_).symm
        have := hn.out
        rwa [List.take_of_length_le (by rw [← Lib.size_eq]; exact h)] at this
      go_wp2
      refine bodyPost_ret (v := .tuple #[.agg #[.int .u32 0, .int .i64 0], .bool false]) (by simp [results, Tryd.results13, go_sem, hc0, hc1]) rfl ⟨by rw [← HF.out]; rfl, ?_⟩
      exact (HW.out.setCell (Nat.le_refl _) _).setCell (Nat.le_refl _) _
end Go.Proofs.YtcnkbhmhbbpmhaaDoor
