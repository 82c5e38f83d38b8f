/- Plain tries of prefixes within one another. No program is imported. -/
import Derived.Test.YtnnoigdedjbbmaaTl
namespace Go.Proofs.Ytnnoigdedjbbmaa
open Go.RowKit
namespace Tr
theorem get_app (L M : Row) (p : Pf) : get (L ++ M) p = (get L p).or (get M p) := by
  induction L with
  | nil => simp [get]
  | cons x r ih =>
    obtain ⟨q, xs⟩ := x
    rw [List.cons_append]
    by_cases h : q = p
    · simp [get, h]
    · simp [get, h, ih]
def nest (a : Int) (k : Nat) : Row := (List.range k).map fun i => ((ar a i, (i : Int)), [(i : Int)])
theorem nest_succ (a : Int) (k : Nat) : nest a (k + 1) = nest a k ++ [((ar a k, (k : Int)), [(k : Int)])] := by
  unfold nest; rw [List.range_succ, List.map_append]; rfl
theorem nest_len (a : Int) (k : Nat) : (nest a k).length = k := by unfold nest; simp
theorem get_nest (a x : Int) (j k : Nat) : get (nest a k) (x, (j : Int)) = if x = ar a j ∧ j < k then some [(j : Int)] else none := by
  induction k with
  | zero => simp [nest, get]
  | succ k ih =>
    rw [nest_succ, get_app, ih]
    by_cases h : x = ar a j ∧ j < k
    · rw [if_pos h, if_pos ⟨h.1, by omega⟩]; rfl
    · rw [if_neg h]
      simp only [Option.none_or, get]
      by_cases h2 : (ar a k, (k : Int)) = (x, (j : Int))
      · rw [if_pos h2]
        simp only [Prod.mk.injEq] at h2
        have hjk : k = j := by omega
        subst hjk
        rw [if_pos ⟨h2.1.symm, by omega⟩]
      · rw [if_neg h2, if_neg]
        rintro ⟨rfl, h3⟩
        have : j = k := by
          rcases Nat.lt_or_ge j k with h4 | h4
          · exact absurd ⟨rfl, h4⟩ h
          · omega
        subst this
        exact h2 rfl
theorem put_nest (a : Int) (k : Nat) : put (nest a k) (ar a k, (k : Int)) (k : Int) = nest a (k + 1) := by
  rw [nest_succ, put_new]
  rw [← get_none, get_nest, if_neg (by omega)]
theorem nest_short (a : Int) (k : Nat) (p : Pf) : ((get (nest a k) p).getD []).length ≤ 1 := by
  cases hg : get (nest a k) p with
  | none => simp
  | some xs =>
    obtain ⟨j, hj⟩ := get_mem hg
    have hm := List.mem_of_getElem? hj
    unfold nest at hm
    simp only [List.mem_map, Prod.mk.injEq] at hm
    obtain ⟨i, _, _, rfl⟩ := hm
    simp
theorem lk_at (L : Row) (a : Int) (k m : Nat) (xs : List Int) (hk : k < m) (h : get L (ar a k, (k : Int)) = some xs) (hn : ∀ j : Nat, k < j → j < m → get L (ar a j, (j : Int)) = none) : lk L a m = some (k, xs) := by
  induction m with
  | zero => omega
  | succ m ih =>
    unfold lk
    by_cases hm : k = m
    · subst hm; rw [h]
    · rw [hn m (by omega) (by omega)]
      exact ih (by omega) (fun j h1 h2 => hn j h1 (by omega))
theorem look_nest (a : Int) (n : Nat) (hn : n ≤ 32) : look (nest a (n + 1)) a = some (n, [(n : Int)]) :=
  lk_at _ _ _ _ _ (by omega) (by rw [get_nest, if_pos ⟨rfl, by omega⟩]) (fun j h1 h2 => by rw [get_nest, if_neg (by omega)])
theorem ar_nat (n k : Nat) : ar (n : Int) k = ((n / 2 ^ (32 - k) * 2 ^ (32 - k) : Nat) : Int) := by
  unfold ar
  have e : (n : Int) % 2 ^ (32 - k) = ((n % 2 ^ (32 - k) : Nat) : Int) := by rw [Int.natCast_emod]; simp
  rw [e]
  have := Nat.div_add_mod n (2 ^ (32 - k))
  rw [Nat.mul_comm] at this
  omega
theorem flip_div (n m j : Nat) : (n ^^^ 2 ^ m) / 2 ^ j = n / 2 ^ j ↔ m < j := by
  rw [← Nat.shiftRight_eq_div_pow, ← Nat.shiftRight_eq_div_pow, Nat.shiftRight_xor_distrib]
  have h : 2 ^ m >>> j = 0 ↔ m < j := by
    rw [Nat.shiftRight_eq_div_pow, Nat.div_eq_zero_iff]
    constructor
    · rintro (h | h)
      · have := Nat.two_pow_pos j; omega
      · exact (Nat.pow_lt_pow_iff_right (by omega)).1 h
    · exact fun h => .inr (Nat.pow_lt_pow_right (by omega) h)
  rw [← h]
  constructor
  · intro e
    have : n >>> j ^^^ (n >>> j ^^^ 2 ^ m >>> j) = n >>> j ^^^ n >>> j := by rw [e]
    rwa [← Nat.xor_assoc, Nat.xor_self, Nat.zero_xor] at this
  · intro e; rw [e, Nat.xor_zero]
/-- unlike at one bit: as many bits ahead of it are the same, and no more -/
theorem flip_ar (n out k : Nat) (ho : out < 32) : ar ((n ^^^ 2 ^ (31 - out) : Nat) : Int) k = ar (n : Int) k ↔ k ≤ out := by
  rw [ar_nat, ar_nat]
  have hp := Nat.two_pow_pos (32 - k)
  constructor
  · intro h
    have := (flip_div n (31 - out) (32 - k)).1 (Nat.eq_of_mul_eq_mul_right hp (by omega))
    omega
  · intro h
    rw [(flip_div n (31 - out) (32 - k)).2 (by omega)]
theorem look_flip (n m out : Nat) (ho : out < m) (hm : m ≤ 32) : look (nest (n : Int) (m + 1)) ((n ^^^ 2 ^ (31 - out) : Nat) : Int) = some (out, [(out : Int)]) :=
  lk_at _ _ _ _ _ (by omega) (by rw [get_nest, if_pos ⟨(flip_ar n out out (by omega)).2 (Nat.le_refl _), by omega⟩]) (fun j h1 h2 => by
    rw [get_nest, if_neg]
    rintro ⟨h3, _⟩
    have := (flip_ar n out j (by omega)).1 h3
    omega)
end Tr
theorem ar_valid (a : Int) (k : Nat) (hk : k ≤ 32) : Ad.valid (Tr.ar a k) (k : Int) = true := by
  unfold Ad.valid Tr.ar Ad.fr
  have e : ((32 : Int) - (k : Int)).toNat = 32 - k := by omega
  rw [e]
  simp only [decide_eq_true_eq]
  refine ⟨by omega, by omega, ?_⟩
  rw [Int.sub_emod, Int.emod_emod, Int.sub_self, Int.zero_emod]
theorem ar_mask (a : Int) (k : Nat) (hk : k ≤ 32) (h0 : 0 ≤ a) (h1 : a ≤ 4294967295) : bits .and .u32 a (Ad.mask (k : Int)) = Tr.ar a k := by
  rw [Ad.and_mask a k (by omega) (by omega) h0 h1]
  unfold Tr.ar Ad.fr
  rw [show ((32 : Int) - (k : Int)).toNat = 32 - k by omega]
end Go.Proofs.Ytnnoigdedjbbmaa

