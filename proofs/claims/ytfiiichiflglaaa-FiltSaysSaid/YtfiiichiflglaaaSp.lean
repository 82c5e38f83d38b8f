/- The sort by insertion, plainly: it sorts; of lists of the same numbers, each once, it makes the same. -/
import Derived.Test.YtfiiichiflglaaaSo
namespace Go.Proofs.Ytfiiichiflglaaa
open Go.RowKit Sm
theorem getD_set {xs : List Int} {i k : Nat} {v : Int} (hi : i < xs.length) : (xs.set i v).getD k 0 = if i = k then v else xs.getD k 0 := by
  rw [List.getD_eq_getElem?_getD, List.getElem?_set]
  by_cases h : i = k
  · subst h; simp [hi]
  · simp [h, List.getD_eq_getElem?_getD]
theorem sink_sorts : ∀ (j K : Nat) (xs : List Int), j ≤ K → K < xs.length → (∀ i i', i < i' → i' ≤ K → i ≠ j → i' ≠ j → xs.getD i 0 ≤ xs.getD i' 0) → (∀ i', j < i' → i' ≤ K → xs.getD j 0 ≤ xs.getD i' 0) →
    ∀ i i', i < i' → i' ≤ K → (sinkA xs j).getD i 0 ≤ (sinkA xs j).getD i' 0
  | 0, K, xs, _, _, h1, h2, i, i', hi, hk => by
    unfold sinkA
    by_cases e : i = 0
    · subst e; exact h2 i' hi hk
    · exact h1 i i' hi hk e (by omega)
  | j + 1, K, xs, hj, hK, h1, h2, i, i', hi, hk => by
    unfold sinkA
    split
    · rename_i hlt
      refine sink_sorts j K _ (by omega) (by simpa using hK) ?_ ?_ i i' hi hk
      · intro a b hab hbK ha hb
        rw [getD_set (by simp; omega), getD_set (by omega), getD_set (by simp; omega), getD_set (by omega), if_neg (Ne.symm ha), if_neg (Ne.symm hb)]
        by_cases ea : j + 1 = a
        · rw [if_pos ea, if_neg (by omega)]
          exact h1 j b (by omega) hbK (by omega) (by omega)
        · rw [if_neg ea]
          by_cases eb : j + 1 = b
          · rw [if_pos eb]
            exact h1 a j (by omega) (by omega) (by omega) (by omega)
          · rw [if_neg eb]
            exact h1 a b hab hbK (Ne.symm ea) (Ne.symm eb)
      · intro b hjb hbK
        rw [getD_set (by simp; omega), getD_set (by omega), getD_set (by simp; omega), getD_set (by omega), if_pos rfl, if_neg (show j ≠ b by omega)]
        by_cases eb : j + 1 = b
        · rw [if_pos eb]; omega
        · rw [if_neg eb]
          exact h2 b (by omega) hbK
    · rename_i hge
      by_cases ea : i = j + 1
      · subst ea; exact h2 i' hi hk
      · by_cases eb : i' = j + 1
        · subst eb
          by_cases ec : i = j
          · subst ec; omega
          · have := h1 i j (by omega) (by omega) ea (by omega)
            omega
        · exact h1 i i' hi hk ea eb
theorem ins_sorts (xs : List Int) : ∀ k, k < xs.length → ∀ i i', i < i' → i' ≤ k → (insA xs k).getD i 0 ≤ (insA xs k).getD i' 0
  | 0, _, i, i', hi, hk => by omega
  | k + 1, h, i, i', hi, hk => by
    unfold insA
    refine sink_sorts (k + 1) (k + 1) (insA xs k) (Nat.le_refl _) (by rw [insA_len]; exact h) ?_ ?_ i i' hi hk
    · intro a b hab hb _ hb2
      exact ins_sorts xs k (by omega) a b hab (by omega)
    · intro b h1 h2; omega
theorem sortA_sorts (xs : List Int) : (sortA xs).Pairwise (· ≤ ·) := by
  rw [List.pairwise_iff_getElem]
  intro i j hi hj hij
  have hl : (sortA xs).length = xs.length := by unfold sortA; rw [insA_len]
  have := ins_sorts xs (xs.length - 1) (by omega) i j hij (by omega)
  have e1 : (sortA xs).getD i 0 = (sortA xs)[i] := by simp [List.getD_eq_getElem?_getD, hi]
  have e2 : (sortA xs).getD j 0 = (sortA xs)[j] := by simp [List.getD_eq_getElem?_getD, hj]
  rw [← e1, ← e2]
  exact this
theorem sink_perm : ∀ (j : Nat) (xs : List Int), j < xs.length → (sinkA xs j).Perm xs
  | 0, xs, _ => List.Perm.refl _
  | j + 1, xs, h => by
    unfold sinkA
    split
    · refine (sink_perm j _ (by simp; omega)).trans ?_
      have e1 : xs.getD j 0 = xs[j] := by simp [List.getD_eq_getElem?_getD, show j < xs.length by omega]
      have e2 : xs.getD (j + 1) 0 = xs[j + 1] := by simp [List.getD_eq_getElem?_getD, h]
      rw [e1, e2]
      exact List.set_set_perm h (by omega)
    · exact List.Perm.refl _
theorem ins_perm (xs : List Int) : ∀ k, k < xs.length ∨ k = 0 → (insA xs k).Perm xs
  | 0, _ => List.Perm.refl _
  | k + 1, h => by
    unfold insA
    exact (sink_perm (k + 1) _ (by rw [insA_len]; omega)).trans (ins_perm xs k (by omega))
theorem sortA_perm (xs : List Int) : (sortA xs).Perm xs := by
  unfold sortA
  exact ins_perm xs _ (by omega)
theorem sortA_len (xs : List Int) : (sortA xs).length = xs.length := (sortA_perm xs).length_eq
theorem sortA_same {xs ys : List Int} (h : xs.Perm ys) : sortA xs = sortA ys :=
  List.Perm.eq_of_pairwise (le := (· ≤ ·)) (fun a b _ _ h1 h2 => by omega) (sortA_sorts xs) (sortA_sorts ys) (((sortA_perm xs).trans h).trans (sortA_perm ys).symm)
/-- each number once -/
def nubA : List Int → List Int
  | [] => []
  | a :: l => if nubA l |>.contains a then nubA l else a :: nubA l
theorem nub_mem : ∀ (l : List Int) (a : Int), a ∈ nubA l ↔ a ∈ l
  | [], a => Iff.rfl
  | b :: l, a => by
    unfold nubA
    have ih := nub_mem l
    split
    · rename_i h
      have hb : b ∈ nubA l := by simpa using h
      rw [ih, List.mem_cons]
      constructor
      · exact .inr
      · rintro (rfl | h)
        · exact (ih a).1 hb
        · exact h
    · rw [List.mem_cons, List.mem_cons, ih]
theorem nub_nodup : ∀ l : List Int, (nubA l).Nodup
  | [] => List.nodup_nil
  | b :: l => by
    unfold nubA
    split
    · exact nub_nodup l
    · rename_i h
      exact List.nodup_cons.2 ⟨by simpa using h, nub_nodup l⟩
theorem same_once {ss l : List Int} (h : ss.Nodup) (hm : ∀ a, a ∈ ss ↔ a ∈ l) : ss.Perm (nubA l) :=
  (List.perm_ext_iff_of_nodup h (nub_nodup l)).2 fun a => by rw [hm, nub_mem]
/-- the numbers of a list, each once, rising -/
def groupsL (L : List Int) : List Int := sortA (nubA L)
theorem grp_mem (L : List Int) (a : Int) : a ∈ groupsL L ↔ a ∈ L := by
  unfold groupsL; rw [(sortA_perm _).mem_iff, nub_mem]
theorem grp_lt (L : List Int) : (groupsL L).Pairwise (· < ·) := by
  have h1 := sortA_sorts (nubA L)
  have h2 : (groupsL L).Nodup := (sortA_perm (nubA L)).nodup_iff.2 (nub_nodup L)
  exact (h1.and h2).imp fun ⟨h, h'⟩ => by omega
theorem lt_nodup {l : List Int} (h : l.Pairwise (· < ·)) : l.Nodup := h.imp fun {a b} h => by show a ≠ b; omega
theorem lt_unique {l l' : List Int} (h : l.Pairwise (· < ·)) (h' : l'.Pairwise (· < ·)) (hm : ∀ a, a ∈ l ↔ a ∈ l') : l = l' :=
  List.Perm.eq_of_pairwise (le := (· < ·)) (fun a b _ _ h1 h2 => by omega) h h' ((List.perm_ext_iff_of_nodup (lt_nodup h) (lt_nodup h')).2 hm)
theorem grp_ext {L L' : List Int} (h : ∀ a, a ∈ L ↔ a ∈ L') : groupsL L = groupsL L' :=
  lt_unique (grp_lt L) (grp_lt L') fun a => by rw [grp_mem, grp_mem, h]
theorem grp_self {L : List Int} (h : L.Pairwise (· < ·)) : groupsL L = L := lt_unique (grp_lt L) h (grp_mem L)
theorem grp_len (L : List Int) : (groupsL L).length ≤ L.length := by
  unfold groupsL; rw [sortA_len]
  induction L with
  | nil => exact Nat.le_refl _
  | cons b l ih => unfold nubA; split <;> simp <;> omega
end Go.Proofs.Ytfiiichiflglaaa

