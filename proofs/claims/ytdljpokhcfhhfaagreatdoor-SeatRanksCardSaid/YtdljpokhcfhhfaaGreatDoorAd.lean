/- Plain arithmetic of addresses: masks of bits as powers of two, and what and, andNot and or give with them. No program is imported. -/
import Derived.WalkKit
namespace Go.Proofs.YtdljpokhcfhhfaaGreatDoor
namespace Ad
open Go.RowKit (wrap32 wrap64)

/-- so many low bits are free behind n leading ones -/
def fr (n : Int) : Nat := (32 - n).toNat
/-- so many ones from the highest bit on -/
def mask (b : Int) : Int := 4294967296 - 2 ^ (fr (max 0 (min b 32)))
def valid (a b : Int) : Bool := decide (0 ≤ b ∧ b ≤ 32 ∧ a % 2 ^ fr b = 0)
def isIn (a b x : Int) : Bool := valid a b && decide (x - x % 2 ^ fr b = a)
def within (a b c d : Int) : Bool := valid a b && (decide (d ≤ b) && isIn c d a)
def group (a : Int) : Bool := decide (a / 268435456 = 14)

theorem two_pos (k : Nat) : (1 : Int) ≤ 2 ^ k := by
  have : 0 < (2 : Int) ^ k := Int.pow_pos (by decide)
  omega
theorem two_le {k : Nat} (h : k ≤ 32) : (2 : Int) ^ k ≤ 4294967296 := by
  have : (2 : Nat) ^ k ≤ 2 ^ 32 := Nat.pow_le_pow_right (by decide) h
  have e : ((2 ^ k : Nat) : Int) = (2 : Int) ^ k := by simp
  omega
theorem two_dvd {k : Nat} (h : k ≤ 32) : (4294967296 : Int) % 2 ^ k = 0 := by
  have : (4294967296 : Int) = 2 ^ (32 - k) * 2 ^ k := by
    rw [← Int.pow_add, Nat.sub_add_cancel h]; rfl
  rw [this]; exact Int.mul_emod_left _ _
theorem fr_le (b : Int) (h : 0 ≤ b) : fr b ≤ 32 := by unfold fr; omega
theorem mask_in (b : Int) (h0 : 0 ≤ b) (h1 : b ≤ 32) : mask b = 4294967296 - 2 ^ fr b := by
  unfold mask; rw [show max 0 (min b 32) = b by omega]
theorem mask_low (b : Int) (h : b < 0) : mask b = 0 := by
  unfold mask; rw [show max 0 (min b 32) = 0 by omega]; rfl
theorem mask_high (b : Int) (h : 32 < b) : mask b = 4294967295 := by
  unfold mask; rw [show max 0 (min b 32) = 32 by omega]; rfl
theorem mask_bd (b : Int) : 0 ≤ mask b ∧ mask b ≤ 4294967295 := by
  unfold mask
  have h1 := two_pos (fr (max 0 (min b 32)))
  have h2 := two_le (fr_le (max 0 (min b 32)) (by omega))
  omega
theorem shl_mask (k : Nat) (h : k ≤ 32) : (4294967295 : Int) * 2 ^ k % 4294967296 = 4294967296 - 2 ^ k ∨ (k = 32 ∧ (4294967295 : Int) * 2 ^ k % 4294967296 = 0) := by
  have hk : ∀ j : Fin 33, (4294967295 : Int) * 2 ^ j.val % 4294967296 = 4294967296 - 2 ^ j.val ∨ (j.val = 32 ∧ (4294967295 : Int) * 2 ^ j.val % 4294967296 = 0) := by decide +kernel
  exact hk ⟨k, by omega⟩
theorem shl_mask' (b : Int) (h0 : 0 ≤ b) (h1 : b ≤ 32) : (4294967295 : Int) * 2 ^ (32 - b).toNat % 4294967296 = mask b := by
  rw [mask_in b h0 h1]
  rcases shl_mask (32 - b).toNat (by omega) with h | ⟨h, g⟩
  · exact h
  · unfold fr; rw [g, h]; rfl

theorem nat_high (a k : Nat) (hk : k ≤ 32) (ha : a < 4294967296) : a &&& (4294967296 - 2 ^ k) = a - a % 2 ^ k := by
  have e : a - a % 2 ^ k = (a / 2 ^ k) <<< k := by
    rw [Nat.shiftLeft_eq]
    have := Nat.div_add_mod a (2 ^ k)
    rw [Nat.mul_comm] at this
    omega
  have e2 : 4294967296 - 2 ^ k = (2 ^ (32 - k) - 1) <<< k := by
    rw [Nat.shiftLeft_eq, Nat.sub_mul, ← Nat.pow_add, Nat.sub_add_cancel hk, Nat.one_mul]
  rw [e, e2]
  apply Nat.eq_of_testBit_eq
  intro i
  rw [Nat.testBit_and, Nat.testBit_shiftLeft, Nat.testBit_shiftLeft, Nat.testBit_two_pow_sub_one, Nat.testBit_div_two_pow]
  by_cases h : k ≤ i
  · rw [Nat.sub_add_cancel h]
    simp only [h, decide_true, Bool.true_and]
    by_cases h32 : i < 32
    · simp only [show i - k < 32 - k by omega, decide_true, Bool.and_true]
    · have : a.testBit i = false := Nat.testBit_lt_two_pow (Nat.lt_of_lt_of_le ha (Nat.pow_le_pow_right (by omega : 2 > 0) (show 32 ≤ i by omega)))
      simp [this]
  · simp [h]
theorem cast_two (k : Nat) : ((2 ^ k : Nat) : Int) = (2 : Int) ^ k := by simp
theorem nat_two_le {k : Nat} (h : k ≤ 32) : (2 : Nat) ^ k ≤ 4294967296 := Nat.pow_le_pow_right (by decide) h
theorem and_high (a : Int) (k : Nat) (hk : k ≤ 32) (h0 : 0 ≤ a) (h1 : a ≤ 4294967295) : bits .and .u32 a (4294967296 - 2 ^ k) = a - a % 2 ^ k := by
  obtain ⟨n, rfl⟩ := Int.eq_ofNat_of_zero_le h0
  have h2 := nat_two_le hk
  have hp : 0 < 2 ^ k := Nat.two_pow_pos k
  have hm : (4294967296 : Int) - 2 ^ k = ((4294967296 - 2 ^ k : Nat) : Int) := by rw [← cast_two]; omega
  rw [hm, u32_and_nat n _ (by omega) (by omega), nat_high n k hk (by omega)]
  have hl : n % 2 ^ k ≤ n := Nat.mod_le _ _
  rw [Int.natCast_sub hl, Int.natCast_emod, cast_two]
theorem andNot_low (a : Int) (k : Nat) (hk : k ≤ 32) (h0 : 0 ≤ a) (h1 : a ≤ 4294967295) : bits .andNot .u32 a (4294967296 - 2 ^ k) = a % 2 ^ k := by
  obtain ⟨n, rfl⟩ := Int.eq_ofNat_of_zero_le h0
  have h2 := nat_two_le hk
  have hp : 0 < 2 ^ k := Nat.two_pow_pos k
  have hm : (4294967296 : Int) - 2 ^ k = ((4294967296 - 2 ^ k : Nat) : Int) := by rw [← cast_two]; omega
  rw [hm, u32_andNot_nat n _ (by omega) (by omega), show 4294967295 - (4294967296 - 2 ^ k) = 2 ^ k - 1 by omega, Nat.and_two_pow_sub_one_eq_mod]
  rw [Int.natCast_emod, cast_two]
theorem and_mask (a b : Int) (hb0 : 0 ≤ b) (hb1 : b ≤ 32) (h0 : 0 ≤ a) (h1 : a ≤ 4294967295) : bits .and .u32 a (mask b) = a - a % 2 ^ fr b := by
  rw [mask_in b hb0 hb1]; exact and_high a _ (fr_le b hb0) h0 h1
theorem andNot_mask (a b : Int) (hb0 : 0 ≤ b) (hb1 : b ≤ 32) (h0 : 0 ≤ a) (h1 : a ≤ 4294967295) : bits .andNot .u32 a (mask b) = a % 2 ^ fr b := by
  rw [mask_in b hb0 hb1]; exact andNot_low a _ (fr_le b hb0) h0 h1
/-- or of what has no bit in common, as a sum -/
theorem or_join (x y : Int) (i : Nat) (hx0 : 0 ≤ x) (hx1 : x ≤ 4294967295) (hx : x % 2 ^ i = 0) (hy0 : 0 ≤ y) (hy : y < 2 ^ i) (hy1 : y ≤ 4294967295) : bits .or .u32 x y = x + y := by
  obtain ⟨n, rfl⟩ := Int.eq_ofNat_of_zero_le hx0
  obtain ⟨m, rfl⟩ := Int.eq_ofNat_of_zero_le hy0
  rw [u32_or_nat n m (by omega) (by omega), nat_join i n m (by rw [← cast_two] at hx; omega) (by rw [← cast_two] at hy; omega)]
  exact Int.natCast_add _ _
/-- the four bytes of an address -/
theorem of_bytes (a b c d : Int) (ha0 : 0 ≤ a) (ha : a ≤ 255) (hb0 : 0 ≤ b) (hb : b ≤ 255) (hc0 : 0 ≤ c) (hc : c ≤ 255) (hd0 : 0 ≤ d) (hd : d ≤ 255) :
    bits .or .u32 (bits .or .u32 (bits .or .u32 (a % 4294967296 * 16777216 % 4294967296) (b % 4294967296 * 65536 % 4294967296)) (c % 4294967296 * 256 % 4294967296)) (d % 4294967296) = a * 16777216 + b * 65536 + c * 256 + d := by
  rw [show a % 4294967296 * 16777216 % 4294967296 = a * 16777216 by omega, show b % 4294967296 * 65536 % 4294967296 = b * 65536 by omega, show c % 4294967296 * 256 % 4294967296 = c * 256 by omega, show d % 4294967296 = d by omega]
  rw [or_join (a * 16777216) (b * 65536) 24 (by omega) (by omega) (by omega) (by omega) (by omega) (by omega)]
  rw [or_join _ (c * 256) 16 (by omega) (by omega) (by omega) (by omega) (by omega) (by omega)]
  rw [or_join _ d 8 (by omega) (by omega) (by omega) (by omega) (by omega) (by omega)]
end Ad
end Go.Proofs.YtdljpokhcfhhfaaGreatDoor

