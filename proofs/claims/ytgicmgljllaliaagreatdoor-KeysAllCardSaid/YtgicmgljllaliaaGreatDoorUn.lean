/- rivuletref.Among: is a number among these? Over the seat's program. -/
import Derived.Test.YtgicmgljllaliaaGreatDoorOn
import Derived.Test.YtgicmgljllaliaaGreatDoorProg
namespace Go.Proofs.YtgicmgljllaliaaGreatDoor
open Go.RowKit Lx Sm
theorem among_next {xs : List Int} {k : Nat} {a : Int} (h : k < xs.length) : (xs.take (k + 1)).contains a = ((xs.take k).contains a || (xs.getD k 0 == a)) := by
  rw [List.take_succ_eq_append_getElem h, List.getD_eq_getElem?_getD, List.getElem?_eq_getElem h]
  simp only [Option.getD_some]
  rw [Bool.eq_iff_iff]
  simp only [List.contains_iff_mem, Bool.or_eq_true, beq_iff_eq, List.mem_append, List.mem_singleton]
  constructor
  · rintro (h | h)
    · exact .inl h
    · exact .inr h.symm
  · rintro (h | h)
    · exact .inl h
    · exact .inr h.symm
end Go.Proofs.YtgicmgljllaliaaGreatDoor

