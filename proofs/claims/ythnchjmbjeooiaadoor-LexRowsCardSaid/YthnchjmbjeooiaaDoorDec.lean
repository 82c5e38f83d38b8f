/- Plain facts on decimal numerals of up to nine digits: which texts are one, what they are worth, and that what is read and written again is the same. No program is imported. -/
import Derived.Test.YthnchjmbjeooiaaDoorNumP
import Derived.Lib.AtoiAll
import Derived.Lib.ItoaLen
namespace Go.Proofs.YthnchjmbjeooiaaDoor
namespace Lx
open Ad (isDig val val_snoc val_lt)
theorem dec_step {u : Nat} (h : ¬ u < 10) : Lib.decDigits u = Lib.decDigits (u / 10) ++ [UInt8.ofNat (48 + u % 10)] := by
  rw [Lib.decDigits, dif_neg h]
theorem toNat_dig (d : Nat) (h : d < 10) : (UInt8.ofNat (48 + d)).toNat = 48 + d := by
  rw [UInt8.toNat_ofNat']; omega
theorem dig_ok (d : Nat) (h : d < 10) : isDig (UInt8.ofNat (48 + d)) = true := by unfold isDig; rw [toNat_dig d h]; simp; omega
theorem dec_all : ∀ (u : Nat), (Lib.decDigits u).all isDig = true := by
  intro u
  induction u using Nat.strongRecOn with
  | ind u ih =>
    by_cases h : u < 10
    · rw [Lib.decDigits_one h]
      show (isDig (UInt8.ofNat (48 + u)) && true) = true
      rw [dig_ok u h]; rfl
    · rw [dec_step h, List.all_append, ih (u / 10) (by omega)]
      show (true && (isDig (UInt8.ofNat (48 + u % 10)) && true)) = true
      rw [dig_ok (u % 10) (by omega)]; rfl
theorem dec_val : ∀ (u : Nat), val (Lib.decDigits u) = u := by
  intro u
  induction u using Nat.strongRecOn with
  | ind u ih =>
    by_cases h : u < 10
    · rw [Lib.decDigits_one h]
      show 10 * 0 + ((UInt8.ofNat (48 + u)).toNat - 48) = u
      rw [toNat_dig u h]; omega
    · rw [dec_step h, val_snoc, ih (u / 10) (by omega), toNat_dig (u % 10) (by omega)]
      omega
theorem dec_head : ∀ (u : Nat), 0 < u → (Lib.decDigits u).headD 0 ≠ 48 ∧ Lib.decDigits u ≠ [] := by
  intro u
  induction u using Nat.strongRecOn with
  | ind u ih =>
    intro hu
    by_cases h : u < 10
    · rw [Lib.decDigits_one h]
      refine ⟨fun e => ?_, by simp⟩
      have e' : UInt8.ofNat (48 + u) = 48 := e
      have := congrArg UInt8.toNat e'
      rw [toNat_dig u h] at this
      have h2 : (48 : UInt8).toNat = 48 := rfl
      omega
    · have h1 := ih (u / 10) (by omega) (by omega)
      rw [dec_step h]
      refine ⟨?_, by simp⟩
      cases hd : Lib.decDigits (u / 10) with
      | nil => exact absurd hd h1.2
      | cons x r => rw [hd] at h1; exact h1.1
theorem dec_len : ∀ (k u : Nat), u < 10 ^ (k + 1) → 1 ≤ (Lib.decDigits u).length ∧ (Lib.decDigits u).length ≤ k + 1
  | 0, u, h => by rw [Lib.decDigits_one (by omega)]; simp
  | k + 1, u, h => by
    by_cases h10 : u < 10
    · rw [Lib.decDigits_one h10]; simp
    · have := dec_len k (u / 10) (by rw [Nat.pow_succ] at h; omega)
      rw [dec_step h10, List.length_append]
      simp; omega
theorem itoa_nat {n : Int} (h : 0 ≤ n) : Lib.itoa n = Lib.decDigits n.toNat := by unfold Lib.itoa; rw [if_neg (by omega)]
/-- a numeral of up to nine digits -/
def nOk (l : List UInt8) : Bool := decide (1 ≤ l.length ∧ l.length ≤ 9) && (!(decide (1 < l.length) && decide (l.headD 0 = 48)) && l.all isDig)
theorem nOk_len {l : List UInt8} (h : nOk l = true) : 1 ≤ l.length ∧ l.length ≤ 9 := by unfold nOk at h; simp at h; exact ⟨by omega, by omega⟩
theorem nOk_all {l : List UInt8} (h : nOk l = true) : l.all isDig = true := by unfold nOk at h; simp only [Bool.and_eq_true] at h; exact h.2.2
theorem nOk_head {l : List UInt8} (h : nOk l = true) : 1 < l.length → l.headD 0 ≠ 48 := by
  unfold nOk at h
  simp only [Bool.and_eq_true, Bool.not_eq_true', Bool.and_eq_false_iff, decide_eq_false_iff_not] at h
  intro h1
  exact h.2.1.resolve_left (by omega)
theorem nOk_dec {u : Nat} (h : u < 1000000000) : nOk (Lib.decDigits u) = true := by
  unfold nOk
  have h1 := dec_len 8 u (by omega)
  rw [dec_all u]
  have e1 : decide (1 ≤ (Lib.decDigits u).length ∧ (Lib.decDigits u).length ≤ 9) = true := by simpa using h1
  rw [e1]
  rcases Nat.eq_zero_or_pos u with h0 | h0
  · subst h0; rw [Lib.decDigits_one (by decide)]; rfl
  · have h2 := (dec_head u h0).1
    have e2 : decide ((Lib.decDigits u).headD 0 = 48) = false := by simpa using h2
    rw [e2]; simp
theorem val_big {l : List UInt8} (h : nOk l = true) : val l < 1000000000 := by
  have h1 := val_lt l (nOk_all h)
  have h2 : 10 ^ l.length ≤ 10 ^ 9 := Nat.pow_le_pow_right (by decide) (nOk_len h).2
  omega
/-- what is read and written again is the same -/
theorem dec_back : ∀ (k : Nat) (l : List UInt8), l.length = k + 1 → l.all isDig = true → (1 < l.length → l.headD 0 ≠ 48) → Lib.decDigits (val l) = l ∧ (0 < k → 0 < val l)
  | 0, l, hl, ha, _ => by
    match l, hl with
    | [c], _ =>
      simp only [List.all_cons, List.all_nil, Bool.and_true, isDig, decide_eq_true_eq] at ha
      have e : val [c] = c.toNat - 48 := by show 10 * 0 + (c.toNat - 48) = _; omega
      rw [e, Lib.decDigits_one (by omega)]
      refine ⟨?_, fun h => absurd h (by omega)⟩
      rw [show 48 + (c.toNat - 48) = c.toNat by omega]
      simp
  | k + 1, l, hl, ha, hh => by
    obtain ⟨r, c, rfl⟩ : ∃ r c, l = r ++ [c] := ⟨l.dropLast, l.getLast (by intro e; rw [e] at hl; simp at hl), (List.dropLast_concat_getLast _).symm⟩
    have hr : r.length = k + 1 := by simpa using hl
    have hne : r ≠ [] := by intro e; rw [e] at hr; simp at hr
    rw [List.all_append, Bool.and_eq_true] at ha
    have hhd : r.headD 0 = (r ++ [c]).headD 0 := by
      cases r with
      | nil => exact absurd rfl hne
      | cons a r => rfl
    have hh' : r.headD 0 ≠ 48 := by rw [hhd]; exact hh (by simp; omega)
    obtain ⟨i1, i2⟩ := dec_back k r hr ha.1 (fun _ => hh')
    have hc : 48 ≤ c.toNat ∧ c.toNat ≤ 57 := by have := ha.2; simpa [isDig] using this
    have hpos : 0 < val r := by
      rcases Nat.eq_zero_or_pos k with rfl | hk
      · match r, hr with
        | [a], _ =>
          have ha1 := ha.1
          simp only [List.all_cons, List.all_nil, Bool.and_true, isDig, decide_eq_true_eq] at ha1
          have h48 : a.toNat ≠ 48 := fun e => hh' (UInt8.toNat_inj.1 e)
          show 0 < 10 * 0 + (a.toNat - 48)
          omega
      · exact i2 hk
    rw [val_snoc, dec_step (by omega)]
    rw [show (10 * val r + (c.toNat - 48)) / 10 = val r by omega, show (10 * val r + (c.toNat - 48)) % 10 = c.toNat - 48 by omega, i1, show 48 + (c.toNat - 48) = c.toNat by omega]
    refine ⟨by simp, fun _ => by omega⟩
theorem nOk_back {l : List UInt8} (h : nOk l = true) : Lib.itoa (val l : Int) = l := by
  have h1 := nOk_len h
  rw [itoa_nat (by omega)]
  exact (dec_back (l.length - 1) l (by omega) (nOk_all h) (nOk_head h)).1
theorem parse_val : ∀ (l : List UInt8) (acc : Nat), l.all isDig = true → l.length ≤ 9 → acc < 10 ^ (9 - l.length) → Lib.parseUint10 acc l = .ok (l.foldl (fun n c => 10 * n + (c.toNat - 48)) acc)
  | [], acc, _, _, _ => rfl
  | c :: l, acc, ha, hl, hacc => by
    simp only [List.all_cons, Bool.and_eq_true, isDig, decide_eq_true_eq] at ha
    obtain ⟨h1, h2⟩ := ha
    have hle : 10 ^ (9 - (c :: l).length) ≤ 10 ^ 9 := Nat.pow_le_pow_right (by decide) (by omega)
    have hl' : l.length + 1 ≤ 9 := by simpa using hl
    have he : 9 - l.length = (9 - (c :: l).length) + 1 := by simp; omega
    rw [Lib.parseUint10, if_pos h1, if_neg (by omega), if_neg (by omega), parse_val l _ h2 (by omega) (by rw [he, Nat.pow_succ]; omega), List.foldl_cons, Nat.mul_comm acc 10]
theorem atoi_ok {l : List UInt8} (h : nOk l = true) : Lib.atoiAll l = .ok (val l : Int) := by
  have h1 := nOk_len h
  have ha := nOk_all h
  have hv := val_big h
  cases l with
  | nil => simp at h1
  | cons c r =>
    have hc : 48 ≤ c.toNat ∧ c.toNat ≤ 57 := by simp only [List.all_cons, Bool.and_eq_true, isDig, decide_eq_true_eq] at ha; exact ha.1
    have hp : Lib.parseMag (c :: r) = .ok (val (c :: r)) := by
      unfold Lib.parseMag
      rw [if_neg (by simp), parse_val _ 0 ha h1.2 (Nat.pow_pos (by decide))]
      rfl
    unfold Lib.atoiAll
    simp only
    rw [if_neg (by omega), hp]
    simp only
    rw [if_neg (by omega), if_neg (by omega), if_neg (by omega)]
theorem nOk_itoa {v : Int} {l : List UInt8} (h0 : 0 ≤ v) (hl : l.length ≤ 9) (h : Lib.itoa v = l) : nOk l = true := by
  rw [itoa_nat h0] at h
  subst h
  have h1 := val_lt _ (dec_all v.toNat)
  rw [dec_val] at h1
  have h2 : 10 ^ (Lib.decDigits v.toNat).length ≤ 10 ^ 9 := Nat.pow_le_pow_right (by decide) hl
  exact nOk_dec (by omega)
end Lx
end Go.Proofs.YthnchjmbjeooiaaDoor
