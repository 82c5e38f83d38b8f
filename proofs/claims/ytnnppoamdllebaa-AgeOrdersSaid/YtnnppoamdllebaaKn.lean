/- Small words: an address as a number; a row of the call's own goes on; keys of a map by addresses. No program is imported. -/
import Derived.Test.YtnnppoamdllebaaKit
import Derived.Maps.OwnSet
import Derived.Maps.Keyed
import Derived.Maps.Views
import Derived.Carry
import Derived.Handy
namespace Go.Proofs.Ytnnppoamdllebaa
open Go.RowKit Go.Maps
def U32 (a : Int) : Prop := 0 ≤ a ∧ a ≤ 4294967295
theorem lit_key (a : Int) : WideAt.IsKeyLit (.int .u32 a) := trivial
theorem wf_a {a : Int} (h : U32 a) : (Lit.int .u32 a).wf = true := by
  obtain ⟨h0, h1⟩ := h
  simp [Lit.wf, IntKind.min, IntKind.max, IntKind.signed, IntKind.bits]; omega
section
variable {b k n : Nat} {t : TypeId} {v : Value} {W W' : World}
theorem ownk_next {ys : List Value} (h : W.ownsRow b t k v n ys) (hb : Below W.heap.size W W') : W'.ownsRow b t k v n ys := by
  refine ⟨h.1, ?_⟩
  rcases h.2 with hn | ⟨g, cap, cur, rfl, hbg, hh, rest⟩
  · exact .inl hn
  · exact .inr ⟨g, cap, cur, rfl, hbg, (hb.block g (Array.getElem?_eq_some_iff.1 hh).1).trans hh, rest⟩
theorem ownk_up {b' : Nat} {ys : List Value} (h : W.ownsRow b' t k v n ys) (hb : b ≤ b') : W.ownsRow b t k v n ys := by
  refine ⟨h.1, ?_⟩
  rcases h.2 with hn | ⟨g, cap, cur, rfl, hbg, hh, rest⟩
  · exact .inl hn
  · exact .inr ⟨g, cap, cur, rfl, Nat.le_trans hb hbg, hh, rest⟩
end
end Go.Proofs.Ytnnppoamdllebaa

