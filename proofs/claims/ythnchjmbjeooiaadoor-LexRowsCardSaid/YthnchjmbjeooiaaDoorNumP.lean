/- Plain facts on short decimal numerals: which texts are one, and their value. No program is imported. -/
import Derived.Test.YthnchjmbjeooiaaDoorKit
namespace Go.Proofs.YthnchjmbjeooiaaDoor
namespace Ad
def isDig (c : UInt8) : Bool := decide (48 ≤ c.toNat ∧ c.toNat ≤ 57)
def val (l : List UInt8) : Nat := l.foldl (fun n c => 10 * n + (c.toNat - 48)) 0
def numOk (l : List UInt8) : Bool := decide (1 ≤ l.length ∧ l.length ≤ 3) && (!(decide (1 < l.length) && decide (l.headD 0 = 48)) && l.all isDig)
theorem val_snoc (l : List UInt8) (c : UInt8) : val (l ++ [c]) = 10 * val l + (c.toNat - 48) := by unfold val; simp
theorem val_from (l : List UInt8) (h : l.all isDig = true) : ∀ a : Nat, l.foldl (fun n c => 10 * n + (c.toNat - 48)) a < (a + 1) * 10 ^ l.length := by
  induction l with
  | nil => intro a; simp
  | cons c l ih =>
    intro a
    simp only [List.all_cons, Bool.and_eq_true] at h
    have h2 : c.toNat ≤ 57 := by have := h.1; simp [isDig] at this; omega
    have h1 := ih h.2 (10 * a + (c.toNat - 48))
    have h3 : (10 * a + (c.toNat - 48) + 1) * 10 ^ l.length ≤ (10 * (a + 1)) * 10 ^ l.length := Nat.mul_le_mul_right _ (by omega)
    have h4 : (a + 1) * 10 ^ (c :: l).length = (10 * (a + 1)) * 10 ^ l.length := by
      rw [List.length_cons, Nat.pow_succ, Nat.mul_comm 10 (a + 1), Nat.mul_assoc, Nat.mul_comm 10]
    rw [List.foldl_cons, h4]
    omega
theorem val_lt (l : List UInt8) (h : l.all isDig = true) : val l < 10 ^ l.length := by
  have := val_from l h 0
  simpa [val] using this
theorem val_take (l : List UInt8) (k : Nat) (hk : k < l.length) : val (l.take (k + 1)) = 10 * val (l.take k) + (l[k].toNat - 48) := by
  rw [List.take_succ_eq_append_getElem hk, val_snoc]
theorem all_take (l : List UInt8) (k : Nat) (h : l.all isDig = true) : (l.take k).all isDig = true := by
  rw [List.all_eq_true] at h ⊢
  intro x hx
  exact h x (List.mem_of_mem_take hx)
theorem val_take_lt (l : List UInt8) (k : Nat) (h : (l.take k).all isDig = true) (hl : l.length ≤ 3) : val (l.take k) < 1000 := by
  have h1 := val_lt _ h
  have h2 : (l.take k).length ≤ 3 := by rw [List.length_take]; omega
  have h3 : 10 ^ (l.take k).length ≤ 10 ^ 3 := Nat.pow_le_pow_right (by decide) h2
  omega
theorem dig_at (l : List UInt8) (k : Nat) (hk : k < l.length) (h : l.all isDig = true) : 48 ≤ l[k].toNat ∧ l[k].toNat ≤ 57 := by
  rw [List.all_eq_true] at h
  have := h l[k] (List.getElem_mem hk)
  simpa [isDig] using this
theorem all_take_succ (l : List UInt8) (k : Nat) (hk : k < l.length) (h : (l.take k).all isDig = true) (hd : 48 ≤ l[k].toNat ∧ l[k].toNat ≤ 57) : (l.take (k + 1)).all isDig = true := by
  rw [List.take_succ_eq_append_getElem hk, List.all_append, h]
  simp [isDig, hd]
end Ad
end Go.Proofs.YthnchjmbjeooiaaDoor
