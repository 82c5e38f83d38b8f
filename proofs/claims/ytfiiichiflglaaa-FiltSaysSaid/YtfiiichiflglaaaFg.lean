/- What a filter lets by, plainly: just what one of the members admits; over the seat's program. -/
import Derived.Test.YtfiiichiflglaaaFf
namespace Go.Proofs.Ytfiiichiflglaaa
open Go.RowKit Sm Go.Maps
theorem mem_flat {ms : List Mb} {a : Int} : a ∈ flat ms ↔ ∃ m ∈ ms, a ∈ m.xs := by
  unfold flat; exact List.mem_flatMap
theorem mem_onl {ms : List Mb} {m : Mb} : m ∈ onl ms ↔ m ∈ ms ∧ m.o = true := by
  unfold onl; exact List.mem_filter
theorem mem_but {ms : List Mb} {m : Mb} : m ∈ but ms ↔ m ∈ ms ∧ m.o = false := by
  unfold but; rw [List.mem_filter]; simp
theorem mem_ref {ms : List Mb} {xs : List Int} {a : Int} : a ∈ refL ms xs ↔ a ∈ flat ms ∧ (∀ m ∈ ms, a ∈ m.xs) ∧ a ∉ xs := by
  unfold refL
  rw [grp_mem, List.mem_filter]
  simp
/-- does one of the members admit it? -/
def admP (ms : List Mb) (a : Int) : Bool := ms.any (fun m => m.xs.contains a == m.o)
theorem adm_iff {ms : List Mb} {a : Int} : admP ms a = true ↔ (∃ m ∈ ms, m.o = true ∧ a ∈ m.xs) ∨ (∃ m ∈ ms, m.o = false ∧ a ∉ m.xs) := by
  unfold admP
  rw [List.any_eq_true]
  constructor
  · rintro ⟨m, hm, h⟩
    have h := beq_iff_eq.1 h
    cases ho : m.o with
    | true => rw [ho] at h; exact .inl ⟨m, hm, ho, List.contains_iff_mem.1 h⟩
    | false => rw [ho] at h; exact .inr ⟨m, hm, ho, fun hc => by rw [List.contains_iff_mem.2 hc] at h; cases h⟩
  · rintro (⟨m, hm, ho, hc⟩ | ⟨m, hm, ho, hc⟩)
    · exact ⟨m, hm, by rw [ho, List.contains_iff_mem.2 hc]; rfl⟩
    · refine ⟨m, hm, ?_⟩
      have : m.xs.contains a = false := by
        cases h : m.xs.contains a with
        | false => rfl
        | true => exact absurd (List.contains_iff_mem.1 h) hc
      rw [ho, this]; rfl
theorem but_pos {ms : List Mb} : 0 < (but ms).length ↔ ∃ m ∈ ms, m.o = false := by
  rw [List.length_pos_iff_exists_mem]
  constructor
  · rintro ⟨m, hm⟩; exact ⟨m, (mem_but.1 hm).1, (mem_but.1 hm).2⟩
  · rintro ⟨m, hm, ho⟩; exact ⟨m, mem_but.2 ⟨hm, ho⟩⟩
theorem lets_of (ms : List Mb) (a : Int) : ((ofL ms).contains a != anyM ms) = admP ms a := by
  unfold ofL anyM
  by_cases hb : 0 < (but ms).length
  · rw [if_pos hb, decide_eq_true hb]
    obtain ⟨m0, hm0, ho0⟩ := but_pos.1 hb
    rw [Bool.eq_iff_iff, adm_iff, bne_iff_ne, ne_eq, List.contains_iff_mem, mem_ref, mem_flat]
    constructor
    · intro h
      apply Classical.byContradiction
      intro hn
      apply h
      have h1 : ∀ m ∈ ms, m.o = false → a ∈ m.xs := fun m hm ho => Classical.byContradiction fun hc => hn (.inr ⟨m, hm, ho, hc⟩)
      refine ⟨⟨m0, mem_but.2 ⟨hm0, ho0⟩, h1 m0 hm0 ho0⟩, fun m hm => h1 m (mem_but.1 hm).1 (mem_but.1 hm).2, fun hf => ?_⟩
      obtain ⟨m, hm, hx⟩ := mem_flat.1 hf
      exact hn (.inl ⟨m, (mem_onl.1 hm).1, (mem_onl.1 hm).2, hx⟩)
    · rintro (⟨m, hm, ho, hx⟩ | ⟨m, hm, ho, hx⟩) h
      · exact h.2.2 (mem_flat.2 ⟨m, mem_onl.2 ⟨hm, ho⟩, hx⟩)
      · exact hx (h.2.1 m (mem_but.2 ⟨hm, ho⟩))
  · rw [if_neg hb, decide_eq_false hb]
    have ho : ∀ m ∈ ms, m.o = true := fun m hm => by
      cases h : m.o with
      | true => rfl
      | false => exact absurd (but_pos.2 ⟨m, hm, h⟩) hb
    rw [Bool.eq_iff_iff, adm_iff, Bool.bne_false, List.contains_iff_mem, grp_mem, mem_flat]
    constructor
    · rintro ⟨m, hm, hx⟩
      exact .inl ⟨m, (mem_onl.1 hm).1, (mem_onl.1 hm).2, hx⟩
    · rintro (⟨m, hm, ho', hx⟩ | ⟨m, hm, ho', hx⟩)
      · exact ⟨m, mem_onl.2 ⟨hm, ho'⟩, hx⟩
      · rw [ho m hm] at ho'; cases ho'
theorem of_lt (ms : List Mb) : (ofL ms).Pairwise (· < ·) := by
  unfold ofL
  split
  · exact grp_lt _
  · exact grp_lt _
/-- two rows of members make the same filter, if they admit the same, and have both or neither one that listens to all but some -/
theorem of_ext {ms ks : List Mb} (h1 : anyM ms = anyM ks) (h2 : ∀ a, admP ms a = admP ks a) : ofL ms = ofL ks := by
  refine lt_unique (of_lt ms) (of_lt ks) fun a => ?_
  have e1 := lets_of ms a
  have e2 := lets_of ks a
  rw [h2 a, ← e2, h1] at e1
  have : (ofL ms).contains a = (ofL ks).contains a := by
    revert e1
    cases (ofL ms).contains a <;> cases (ofL ks).contains a <;> cases anyM ks <;> simp
  rw [← List.contains_iff_mem, ← List.contains_iff_mem, this]
end Go.Proofs.Ytfiiichiflglaaa

