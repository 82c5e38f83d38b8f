/- The keys of a map, met one by one: whatever reads as a key; what has been met when all is over. No program is imported. -/
import Derived.Test.YtfiiichiflglaaaKit
import Derived.Sort.MapsRangeIn
import Derived.Sort.KeysCollected
namespace Go.Proofs.Ytfiiichiflglaaa
open Go.RowKit Go.Maps
open Go.WideElems (Fit)
/-- the keys met so far: none twice; a key is among them just where the map has it and it is no longer to come -/
structure Met {H : Type} {α : Type} (P : Program) (k : TypeId) (enc : α → Value) (D0 : DataW H) (left : Lit → Bool) (ss : List α) : Prop where
  apart : ss.Nodup
  keys : ∀ x ∈ ss, ∃ kl, keyOf P k (enc x) = some kl
  just : ∀ x kl, keyOf P k (enc x) = some kl → (x ∈ ss ↔ (has D0 kl = true ∧ left kl = false))
section
variable {H : Type} {α : Type} {P : Program} {k : TypeId} {enc : α → Value} {D0 : DataW H} {left : Lit → Bool} {ss : List α}
theorem Met.start : Met P k enc D0 (has D0) ([] : List α) := ⟨List.nodup_nil, by simp, fun x kl _ => by cases has D0 kl <;> simp⟩
theorem Met.step (K : Keyed P k) (hinj : ∀ x y, enc x = enc y → x = y) (h : Met P k enc D0 left ss) {x : α} {kl : Lit} {y : DataW H} (hx : keyOf P k (enc x) = some kl) (hl : left kl = true) (hat : ∀ zd, D0.atKey kl zd = y) :
    Met P k enc D0 (fun z => left z && !z.sameKey kl) (ss ++ [x]) := by
  have hhas : has D0 kl = true := has_true_of_atKey hat
  have hnew : x ∉ ss := fun hm => by have := ((h.just x kl hx).1 hm).2; rw [hl] at this; cases this
  have hself := WideAt.sameKey_self (K.key hx)
  refine ⟨List.nodup_append.2 ⟨h.apart, by simp, fun a ha b hb => by simp at hb; subst hb; exact fun e => hnew (e ▸ ha)⟩, fun z hz => ?_, fun z kz hz => ?_⟩
  · rw [List.mem_append, List.mem_singleton] at hz
    rcases hz with hz | rfl
    · exact h.keys z hz
    · exact ⟨kl, hx⟩
  · rw [List.mem_append, List.mem_singleton, h.just z kz hz]
    by_cases e : z = x
    · subst e
      obtain rfl : kl = kz := by rw [hx] at hz; cases hz; rfl
      simp [hhas, hself]
    · have hne : kz.sameKey kl = false := by
        cases hk : kz.sameKey kl with
        | false => rfl
        | true =>
          have := (WideAt.sameKey_iff (K.key hx)).1 hk
          subst this
          exact absurd (hinj _ _ (K.inj hz hx)) e
      simp [e, hne]
/-- when nothing is left: just the map's keys, in some order -/
theorem Met.all (K : Keyed P k) (hinj : ∀ x y, enc x = enc y → x = y) {R : Value → Option (DataW H × List MemPlace)} {es : Array MapEntry} {clock : Nat} (hF : Fit P k R es clock) (hD : D0 = .map ((es.toList.map (WideElems.rg P k R)).foldr DataW.insert []))
    (h : Met P k enc D0 left ss) (hl : ∀ kl, left kl = false) {ks : List α} (hks : es.toList.map (·.key) = ks.map enc) : ss.Perm ks := by
  have hnd : ks.Nodup := by
    have hn := hF.stamped.2.2
    rw [hks] at hn
    unfold List.Nodup at hn ⊢
    rw [List.pairwise_map] at hn
    exact hn.imp fun h e => h (congrArg enc e)
  refine (List.perm_ext_iff_of_nodup h.apart hnd).2 fun x => ?_
  have hkey : ∀ e ∈ es.toList, ∃ kl, keyOf P k e.key = some kl ∧ (WideElems.rg P k R e).1 = kl := fun e he => by
    obtain ⟨y, hy⟩ := hF.reads e he
    exact ⟨_, WideElems.rd_key hy, by rw [WideElems.rg_of hy]⟩
  have hhas : ∀ kl, WideAt.IsKeyLit kl → (has D0 kl = true ↔ ∃ e ∈ es.toList, (WideElems.rg P k R e).1 = kl) := fun kl hkl => by
    rw [hD, has_eq, List.any_eq_true]
    constructor
    · rintro ⟨p, hp, hs⟩
      obtain ⟨e, he, rfl⟩ := List.mem_map.1 (mem_sorted.1 hp)
      exact ⟨e, he, (WideAt.sameKey_iff hkl).1 hs⟩
    · rintro ⟨e, he, rfl⟩
      exact ⟨_, mem_sorted.2 (List.mem_map.2 ⟨e, he, rfl⟩), WideAt.sameKey_self hkl⟩
  constructor
  · intro hx
    obtain ⟨kl, hkl⟩ := h.keys x hx
    obtain ⟨e, he, hr⟩ := (hhas kl (K.key hkl)).1 ((h.just x kl hkl).1 hx).1
    obtain ⟨kl', h1, h2⟩ := hkey e he
    have h3 : e.key = enc x := K.inj (h1.trans (by rw [← h2, hr])) hkl
    have h4 : e.key ∈ ks.map enc := by rw [← hks]; exact List.mem_map.2 ⟨e, he, rfl⟩
    obtain ⟨y, hy, hyk⟩ := List.mem_map.1 h4
    obtain rfl : y = x := hinj _ _ (hyk.trans h3)
    exact hy
  · intro hx
    have h4 : enc x ∈ es.toList.map (·.key) := by rw [hks]; exact List.mem_map.2 ⟨x, hx, rfl⟩
    obtain ⟨e, he, hek⟩ := List.mem_map.1 h4
    obtain ⟨kl, h1, h2⟩ := hkey e he
    rw [show e.key = enc x from hek] at h1
    exact (h.just x kl h1).2 ⟨(hhas kl (K.key h1)).2 ⟨e, he, h2⟩, hl kl⟩
end
end Go.Proofs.Ytfiiichiflglaaa

