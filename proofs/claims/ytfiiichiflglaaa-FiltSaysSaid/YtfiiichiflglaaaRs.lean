/- slices.Values, Sorted over it, Compact; filt.rising: what a list holds, each once, rising, in new memory; over the seat's program. -/
import Derived.Test.YtfiiichiflglaaaPi
import Derived.Test.YtfiiichiflglaaaSz
import Derived.Test.YtfiiichiflglaaaKn
import Derived.Test.YtfiiichiflglaaaStr
import Derived.Test.YtfiiichiflglaaaGen
import Derived.RangeFuncKeeps
import Derived.RangeFuncBox
import Derived.RangeFuncLeaves
namespace Go.Proofs.Ytfiiichiflglaaa
open Go.RowKit Go.Maps Go.Shelf Sm
/-! what Compact leaves of a row that does not fall -/
theorem cmp_rise {d : Array Int} (hs : ∀ i j, i ≤ j → j < d.size → d[i]! ≤ d[j]!) : ∀ m, m ≤ d.size → (Lib.compactUpTo d m).Pairwise (· < ·) ∧ ∀ a, a ∈ Lib.compactUpTo d m ↔ ∃ j, j < m ∧ d[j]! = a
  | 0, _ => ⟨by simp [Lib.compactUpTo], fun a => by simp [Lib.compactUpTo]⟩
  | m + 1, hm => by
    obtain ⟨h1, h2⟩ := cmp_rise hs m (by omega)
    rw [Lib.compactUpTo_succ]
    by_cases hk : Lib.keeps d m = true
    · rw [if_pos hk]
      have hne : m = 0 ∨ d[m]! ≠ d[m - 1]! := by simpa [Lib.keeps] using hk
      refine ⟨List.pairwise_append.2 ⟨h1, List.pairwise_singleton _ _, fun x hx y hy => ?_⟩, fun a => ?_⟩
      · obtain ⟨j, hj, rfl⟩ := (h2 x).1 hx
        obtain rfl : y = d[m]! := by simpa using hy
        have h3 := hs j (m - 1) (by omega) (by omega)
        have h4 := hs (m - 1) m (by omega) (by omega)
        rcases hne with h0 | h0
        · omega
        · omega
      · rw [List.mem_append, h2, List.mem_singleton]
        constructor
        · rintro (⟨j, hj, e⟩ | rfl)
          · exact ⟨j, by omega, e⟩
          · exact ⟨m, by omega, rfl⟩
        · rintro ⟨j, hj, e⟩
          rcases Nat.lt_or_ge j m with h | h
          · exact .inl ⟨j, h, e⟩
          · obtain rfl : j = m := by omega
            exact .inr e.symm
    · rw [if_neg hk, List.append_nil]
      refine ⟨h1, fun a => ?_⟩
      have hne : ¬ (m = 0 ∨ d[m]! ≠ d[m - 1]!) := by simpa [Lib.keeps] using hk
      have h0 : m ≠ 0 := fun e => hne (.inl e)
      have he : d[m]! = d[m - 1]! := Classical.not_not.1 fun e => hne (.inr e)
      rw [h2]
      constructor
      · rintro ⟨j, hj, e⟩
        exact ⟨j, by omega, e⟩
      · rintro ⟨j, hj, e⟩
        rcases Nat.lt_or_ge j m with h | h
        · exact ⟨j, h, e⟩
        · obtain rfl : j = m := by omega
          exact ⟨j - 1, by omega, by rw [← he]; exact e⟩
theorem cmp_sortA (xs : List Int) : Lib.compactUpTo (sortA xs).toArray xs.length = groupsL xs := by
  have hz : (sortA xs).toArray.size = xs.length := by simp [sortA_len]
  have hget : ∀ i (hi : i < (sortA xs).length), (sortA xs).toArray[i]! = (sortA xs)[i] := fun i hi => by rw [← bang, List.getD_eq_getElem?_getD]; simp [hi]
  have hs : ∀ i j, i ≤ j → j < (sortA xs).toArray.size → (sortA xs).toArray[i]! ≤ (sortA xs).toArray[j]! := by
    intro i j hij hj
    have hj' : j < (sortA xs).length := by simpa using hj
    rw [hget i (by omega), hget j hj']
    rcases Nat.lt_or_ge i j with h | h
    · exact List.pairwise_iff_getElem.1 (sortA_sorts xs) i j (by omega) hj' h
    · obtain rfl : i = j := by omega
      exact Int.le_refl _
  obtain ⟨h1, h2⟩ := cmp_rise hs xs.length (by omega)
  refine lt_unique h1 (grp_lt xs) fun a => ?_
  rw [h2, grp_mem, ← (sortA_perm xs).mem_iff, List.mem_iff_getElem]
  constructor
  · rintro ⟨j, hj, e⟩
    exact ⟨j, by rw [sortA_len]; exact hj, by rw [← hget j (by rw [sortA_len]; exact hj)]; exact e⟩
  · rintro ⟨j, hj, e⟩
    exact ⟨j, by rw [sortA_len] at hj; exact hj, by rw [hget j hj]; exact e⟩
/-! Compact on a row of the call's own -/
theorem own_putRow {base g n cap : Nat} {T : TypeId} {w : World} {xs : List Value} {d : Array Int} {q : Nat} (h : w.ownsRow base T 1 (.slice (some ⟨g, 0, none⟩) n cap) n xs) (hd : d.size = n) :
    (Sort.putRow (Value.int .u32) (Sort.ahead w q) g 0 d).ownsRow base T 1 (.slice (some ⟨g, 0, none⟩) n cap) n (A32 d.toList) ∧ w.grownBy (Sort.putRow (Value.int .u32) (Sort.ahead w q) g 0 d) (some g) := by
  obtain ⟨hl, hh⟩ := h
  rcases hh with ⟨e, _⟩ | ⟨g', cap', cur, e, hb, hc, h1, h2, h3, h4⟩
  · cases e
  · cases e
    have hc2 : (Sort.putRow (Value.int .u32) (Sort.ahead w q) g 0 d).heap[g]? = some (.cells (Sort.putCells (Value.int .u32) 0 d cur) T (0, 0)) := by
      simp [Sort.putRow, Sort.mapBlock, Sort.ahead, Array.getElem?_modify, hc, Sort.onCells]
    refine ⟨⟨by rw [A32_len]; simpa using hd, .inr ⟨g, cap, _, rfl, hb, hc2, h1, h2, by simp [Sort.putCells, h3], ?_⟩⟩, ?_⟩
    · apply List.ext_getElem
      · simp [Sort.putCells, A32_len, h3, hd]; omega
      · intro i hi1 hi2
        have hi : i < d.size := by simpa [A32_len] using hi2
        simp [Sort.putCells, A32, hi]
    · refine ⟨rfl, rfl, rfl, by simp [Sort.putRow, Sort.mapBlock, Sort.ahead], fun k hk hne => ?_⟩
      simp [Sort.putRow, Sort.mapBlock, Sort.ahead, Array.getElem?_modify]
      intro e
      exact absurd (by rw [e]) hne
theorem own_cut {base g n cap : Nat} {T : TypeId} {w : World} {ys zs : List Value} (h : w.ownsRow base T 1 (.slice (some ⟨g, 0, none⟩) n cap) n (ys ++ zs)) : w.ownsRow base T 1 (.slice (some ⟨g, 0, none⟩) ys.length cap) ys.length ys := by
  obtain ⟨hl, hh⟩ := h
  rw [List.length_append, Nat.mul_one] at hl
  refine ⟨(Nat.mul_one _).symm, ?_⟩
  rcases hh with ⟨e, _⟩ | ⟨g', cap', cur, e, hb, hc, h1, h2, h3, h4⟩
  · cases e
  · cases e
    refine .inr ⟨g, cap, cur, rfl, hb, hc, by omega, h2, h3, ?_⟩
    rw [Nat.mul_one] at h4 ⊢
    have := congrArg (List.take ys.length) h4
    rw [List.take_take, Nat.min_eq_left (by omega), List.take_left] at this
    exact this
theorem compact2_any (base g n c : Nat) (xs : List Int) (w : World) (h : w.ownsRow base 27 1 (.slice (some ⟨g, 0, none⟩) n c) n (A32 xs)) :
    Calls Try.prog 32 #[.slice (some ⟨g, 0, none⟩) n c] w fun e w' => e = .returned (.slice (some ⟨g, 0, none⟩) (Lib.compactUpTo xs.toArray n).length c) ∧
      w'.ownsRow base 27 1 (.slice (some ⟨g, 0, none⟩) (Lib.compactUpTo xs.toArray n).length c) (Lib.compactUpTo xs.toArray n).length (A32 (Lib.compactUpTo xs.toArray n)) ∧ w.grownBy w' (some g) := by
  have hl : xs.length = n := by have := h.1; rw [A32_len] at this; omega
  have hz : xs.toArray.size = n := by simpa using hl
  have hcap : n ≤ c ∧ c ≤ maxLen := by
    obtain ⟨_, hh⟩ := h
    rcases hh with ⟨e, _⟩ | ⟨g', cap', cur, e, hb, hc, h1, h2, h3, h4⟩
    · cases e
    · cases e; exact ⟨h1, h2⟩
  have hH : Sort.Holds (Value.int .u32) w g 0 xs.toArray := fun j hj => by
    rw [hz] at hj
    refine ⟨?_, h.frozenAt _⟩
    rw [Nat.zero_add, h.cellAt j (by omega), A32_at (by omega), ← bang]
  have := AnyE.slices_Compact Try.compactA (Value.int .u32) (fun _ => rfl) (EqlAt.intD _ _ _) (NeqAt.intD _ _ _) 0 (fun w => by kernel_rfl) g 0 c xs.toArray w hH (by unfold maxLen at hcap; omega) (by omega)
  rw [hz] at this
  refine this.mono ?_
  rintro e w' ⟨rfl, q, rfl⟩
  have hk : (Lib.compactUpTo xs.toArray n).length ≤ n := by
    unfold Lib.compactUpTo
    rw [List.length_map]
    exact Nat.le_trans (List.length_filter_le _ _) (by simp)
  obtain ⟨h1, h2⟩ := own_putRow (d := (Lib.compactUpTo xs.toArray n ++ List.replicate (n - (Lib.compactUpTo xs.toArray n).length) 0).toArray) (q := q) h (by simp; omega)
  rw [List.toList_toArray, A32_app] at h1
  have h3 := own_cut h1
  rw [A32_len] at h3
  exact ⟨rfl, h3, h2⟩
end Go.Proofs.Ytfiiichiflglaaa

