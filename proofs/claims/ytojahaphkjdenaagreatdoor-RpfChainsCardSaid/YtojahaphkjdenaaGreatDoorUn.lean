/- rivuletref.Among: is a number among these? Over the seat's program. -/
import Derived.Test.YtojahaphkjdenaaGreatDoorOn
import Derived.Test.YtojahaphkjdenaaGreatDoorProg
namespace Go.Proofs.YtojahaphkjdenaaGreatDoor
open Go.RowKit Lx Sm
theorem among_next {xs : List Int} {k : Nat} {a : Int} (h : k < xs.length) : (xs.take (k + 1)).contains a = ((xs.take k).contains a || (xs.getD k 0 == a)) := by
  rw [List.take_succ_eq_append_getElem h, List.getD_eq_getElem?_getD, List.getElem?_eq_getElem h]
  simp only [Option.getD_some]
  rw [Bool.eq_iff_iff]
  simp only [List.contains_iff_mem, Bool.or_eq_true, beq_iff_eq, List.mem_append, List.mem_singleton]
  constructor
  · rintro (h | h)
    · exact .inl h
    · exact .inr h.symm
  · rintro (h | h)
    · exact .inl h
    · exact .inr h.symm
set_option maxHeartbeats 1000000 in
theorem among_any (A : Option Addr) (n c : Nat) (xs : List Int) (a : Int) (w : World) (h : JR w A n xs) (hn : n ≤ 1000000) :
    Calls Tryz.prog 52 #[.slice A n c, .int .i64 a] w fun e w' => e = .returned (.bool (xs.contains a)) ∧ Below w.heap.size w w' := by
  have HR := Lib.hid h
  have HL := Lib.hid h.1
  clear h
  go_enter Tryz.func52, Tryz.ntmps52
  go_wp2_with fail
  go_loopw [5] (fun iv wr => ∃ k : Nat, k ≤ n ∧ iv = .int .i64 k ∧ Hid ((xs.take k).contains a = false) ∧ Hid (Below w.heap.size w wr)) (fun iv _ => n - (intOf iv).toNat)
  case atStart => exact ⟨0, by omega, rfl, Lib.hid (by simp), Lib.hid (Below.refl _ _)⟩
  case round =>
    obtain ⟨k, hk, rfl, HN, HB⟩ := hrel
    rcases Nat.lt_or_ge k n with hlt | hge
    · obtain ⟨b, o, rfl, _, hc⟩ := (HR.out.next HB.out).at_ hlt
      have HX := Lib.hid (among_next (a := a) (xs := xs) (k := k) (by rw [HL.out]; exact hlt))
      have l1 : (k : Int) < (n : Int) := by omega
      have l2 : (0 : Int) ≤ (k : Int) := by omega
      have HG := Lib.hid (show (xs.getD k 0 == a) = true → xs.contains a = true from fun e => by
        rw [List.contains_iff_mem, ← beq_iff_eq.1 e, List.getD_eq_getElem?_getD, List.getElem?_eq_getElem (by rw [HL.out]; exact hlt)]
        exact List.getElem_mem _)
      generalize xs.getD k 0 = y at *
      cases he : (y == a) with
      | true =>
        have HR2 := Lib.hid (HG.out he)
        go_wp2
        first | go_ret2 | go_ret
        exact ⟨by rw [HR2.out]; rfl, HB.out⟩
      | false =>
        have HN2 : Hid ((xs.take (k + 1)).contains a = false) := Lib.hid (by rw [HX.out, HN.out, he]; rfl)
        go_wp2
        go_roundw
        case rel => exact ⟨k + 1, by omega, by go_num, HN2, HB⟩
        case measure => simp [intOf]; omega
    · obtain rfl : n = k := by omega
      have hd : decide ((n : Int) < (n : Int)) = false := by simp
      have HR2 : Hid (xs.contains a = false) := Lib.hid (by have := HN.out; rw [List.take_of_length_le (by rw [HL.out]; exact Nat.le_refl _)] at this; exact this)
      go_wp2
      first | go_ret2 | go_ret
      exact ⟨by rw [HR2.out]; rfl, HB.out⟩
end Go.Proofs.YtojahaphkjdenaaGreatDoor

