/- Plain arithmetic of 16-bit sums over lists of bytes: totals by two, what is left when the carry is added again, where a sum is put. No program is imported. -/
import Derived.WalkKit
import Derived.Laws.BitsAllLaws
namespace Go.Proofs.Ytnnppoamdllebaa
namespace Sm
def IsB (xs : List Int) : Prop := ∀ x ∈ xs, 0 ≤ x ∧ x ≤ 255
def tot : List Int → Int
  | [] => 0
  | [a] => a * 256
  | a :: b :: r => a * 256 + b + tot r
def oc (t : Int) : Int := if t = 0 then 0 else (t - 1) % 65535 + 1
def sum (xs : List Int) : Int := 65535 - oc (tot xs)
def place (n : Nat) (at_ : Int) : Bool := decide (0 ≤ at_ ∧ at_ % 2 = 0 ∧ at_ ≤ (n : Int) - 2)
def zero2 (xs : List Int) (i : Nat) : List Int := (xs.set i 0).set (i + 1) 0
def put2 (xs : List Int) (i : Nat) (s : Int) : List Int := (xs.set i (s / 256)).set (i + 1) (s % 256)
def put (xs : List Int) (at_ : Int) : List Int :=
  if place xs.length at_ then put2 (zero2 xs at_.toNat) at_.toNat (sum (zero2 xs at_.toNat)) else xs

theorem oc_bd {t : Int} (_h : 0 ≤ t) : 0 ≤ oc t ∧ oc t ≤ 65535 := by unfold oc; split <;> omega
theorem oc_small {t : Int} (h0 : 0 ≤ t) (h1 : t ≤ 65535) : oc t = t := by unfold oc; split <;> omega
theorem oc_fold {t : Int} (h0 : 0 ≤ t) : oc (t / 65536 + t % 65536) = oc t := by unfold oc; split <;> split <;> omega
theorem oc_add {a b c : Int} (h0 : 0 ≤ a) (h1 : 0 ≤ b) (hc : 0 ≤ c) (h : oc a = oc b) : oc (a + c) = oc (b + c) := by
  unfold oc at *
  repeat' split at h
  all_goals (repeat' split)
  all_goals omega
theorem IsB.at_ {xs : List Int} (h : IsB xs) (i : Nat) : 0 ≤ xs.getD i 0 ∧ xs.getD i 0 ≤ 255 := by
  rw [List.getD_eq_getElem?_getD]
  cases hx : xs[i]? with
  | none => simp
  | some x => exact h x (List.mem_of_getElem? hx)
theorem IsB.tail {a : Int} {xs : List Int} (h : IsB (a :: xs)) : IsB xs := fun x hx => h x (List.mem_cons_of_mem _ hx)
theorem IsB.take {xs : List Int} (h : IsB xs) (k : Nat) : IsB (xs.take k) := fun x hx => h x (List.mem_of_mem_take hx)
theorem IsB.drop {xs : List Int} (h : IsB xs) (k : Nat) : IsB (xs.drop k) := fun x hx => h x (List.mem_of_mem_drop hx)
theorem IsB.append {xs ys : List Int} (h : IsB xs) (g : IsB ys) : IsB (xs ++ ys) := fun x hx => by
  rcases List.mem_append.1 hx with h1 | h1
  · exact h x h1
  · exact g x h1
theorem IsB.set {xs : List Int} (h : IsB xs) (i : Nat) {v : Int} (h0 : 0 ≤ v) (h1 : v ≤ 255) : IsB (xs.set i v) := fun x hx => by
  rcases List.mem_or_eq_of_mem_set hx with h2 | rfl
  · exact h x h2
  · exact ⟨h0, h1⟩
theorem tot_bd : ∀ {xs : List Int}, IsB xs → 0 ≤ tot xs ∧ tot xs ≤ 65535 * (xs.length : Int)
  | [], _ => by simp [tot]
  | [a], h => by
    have := h a (by simp)
    simp [tot]; omega
  | a :: b :: r, h => by
    have h1 := h a (by simp)
    have h2 := h b (by simp)
    have h3 := tot_bd (xs := r) h.tail.tail
    simp only [tot, List.length_cons]
    omega
theorem tot_append : ∀ (xs ys : List Int), xs.length % 2 = 0 → tot (xs ++ ys) = tot xs + tot ys
  | [], ys, _ => by simp [tot]
  | [a], ys, h => by simp at h
  | a :: b :: r, ys, h => by
    have h3 := tot_append r ys (by simp at h; omega)
    simp only [List.cons_append, tot, h3]
    omega
theorem tot_odd : ∀ (xs : List Int) (y : Int), xs.length % 2 = 1 → tot (xs ++ [y]) = tot xs + y
  | [], y, h => by simp at h
  | [a], y, _ => by simp [tot]
  | a :: b :: r, y, h => by
    have h3 := tot_odd r y (by simp at h; omega)
    simp only [List.cons_append, tot, h3]
    omega
theorem take_succ_getD (xs : List Int) (k : Nat) (h : k < xs.length) : xs.take (k + 1) = xs.take k ++ [xs.getD k 0] := by
  rw [List.take_succ_eq_append_getElem h]
  simp [List.getD, List.getElem?_eq_getElem h]
theorem tot_step_even (xs : List Int) (k : Nat) (h : k < xs.length) (he : k % 2 = 0) : tot (xs.take (k + 1)) = tot (xs.take k) + xs.getD k 0 * 256 := by
  rw [take_succ_getD xs k h, tot_append _ _ (by simp; omega)]
  simp [tot]
theorem tot_step_odd (xs : List Int) (k : Nat) (h : k < xs.length) (he : k % 2 = 1) : tot (xs.take (k + 1)) = tot (xs.take k) + xs.getD k 0 := by
  rw [take_succ_getD xs k h, tot_odd _ _ (by simp; omega)]
theorem tot_step2 (xs : List Int) (k : Nat) (h : k + 1 < xs.length) (he : k % 2 = 0) : tot (xs.take (k + 2)) = tot (xs.take k) + (xs.getD k 0 * 256 + xs.getD (k + 1) 0) := by
  rw [tot_step_odd xs (k + 1) h (by omega), tot_step_even xs k (by omega) he]
  omega
theorem tot_set : ∀ (xs : List Int) (i : Nat) (v : Int), i < xs.length → tot (xs.set i v) = tot xs + (v - xs.getD i 0) * (if i % 2 = 0 then 256 else 1)
  | [], i, v, h => by simp at h
  | [a], i, v, h => by
    obtain rfl : i = 0 := by simpa using h
    simp [tot]; omega
  | a :: b :: r, 0, v, _ => by simp [tot]; omega
  | a :: b :: r, 1, v, _ => by simp [tot]; omega
  | a :: b :: r, i + 2, v, h => by
    have h3 := tot_set r i v (by simpa using h)
    simp only [List.set_cons_succ, tot, h3, List.getD_cons_succ, Nat.add_mod_right]
    omega
theorem getD_set_self {xs : List Int} {i : Nat} (v : Int) (h : i < xs.length) : (xs.set i v).getD i 0 = v := by simp [List.getD, h]
theorem getD_set_ne {xs : List Int} {i j : Nat} (v : Int) (h : i ≠ j) : (xs.set i v).getD j 0 = xs.getD j 0 := by simp [List.getD, List.getElem?_set_ne h]
theorem zero2_len (xs : List Int) (i : Nat) : (zero2 xs i).length = xs.length := by simp [zero2]
theorem put2_len (xs : List Int) (i : Nat) (s : Int) : (put2 xs i s).length = xs.length := by simp [put2]
theorem put_len (xs : List Int) (a : Int) : (put xs a).length = xs.length := by
  unfold put
  split
  · rw [put2_len, zero2_len]
  · rfl
theorem zero2_b {xs : List Int} (h : IsB xs) (i : Nat) : IsB (zero2 xs i) := (h.set _ (by omega) (by omega)).set _ (by omega) (by omega)
theorem put2_b {xs : List Int} (h : IsB xs) (i : Nat) {s : Int} (h0 : 0 ≤ s) (h1 : s ≤ 65535) : IsB (put2 xs i s) := (h.set _ (by omega) (by omega)).set _ (by omega) (by omega)
theorem sum_bd {xs : List Int} (h : IsB xs) : 0 ≤ sum xs ∧ sum xs ≤ 65535 := by
  have := oc_bd (tot_bd h).1
  unfold sum; omega
theorem put_b {xs : List Int} (h : IsB xs) (a : Int) : IsB (put xs a) := by
  unfold put
  split
  · exact put2_b (zero2_b h _) _ (sum_bd (zero2_b h _)).1 (sum_bd (zero2_b h _)).2
  · exact h
theorem tot_put2 {xs : List Int} {i : Nat} (h : i + 1 < xs.length) (he : i % 2 = 0) (s : Int) : tot (put2 (zero2 xs i) i s) = tot (zero2 xs i) + s := by
  unfold put2
  rw [tot_set _ _ _ (by simp [zero2]; omega), tot_set _ _ _ (by simp [zero2]; omega), getD_set_ne _ (by omega)]
  have z0 : (zero2 xs i).getD i 0 = 0 := by unfold zero2; rw [getD_set_ne _ (by omega), getD_set_self _ (by omega)]
  have z1 : (zero2 xs i).getD (i + 1) 0 = 0 := by unfold zero2; rw [getD_set_self _ (by simp; omega)]
  rw [z0, z1, if_pos he, if_neg (by omega)]
  omega
/-- Put where a sum can stand, the sum of all is 0. -/
theorem sum_put {xs : List Int} (hb : IsB xs) {a : Int} (h : place xs.length a = true) : oc (tot (put xs a)) = 65535 := by
  have hp := h
  simp only [place, decide_eq_true_eq] at h
  unfold put
  rw [if_pos hp, tot_put2 (by omega) (by omega)]
  have hz := (tot_bd (zero2_b hb a.toNat)).1
  unfold sum oc
  split <;> split <;> omega
/-- One bit turned. -/
theorem xor_bit : ∀ (o : Fin 256) (j : Fin 8), (bits .xor .u8 (o.val : Int) (2 ^ j.val) = o.val + 2 ^ j.val ∨ bits .xor .u8 (o.val : Int) (2 ^ j.val) = o.val - 2 ^ j.val) ∧
    bits .xor .u8 (bits .xor .u8 (o.val : Int) (2 ^ j.val)) (2 ^ j.val) = o.val ∧ 0 ≤ bits .xor .u8 (o.val : Int) (2 ^ j.val) ∧ bits .xor .u8 (o.val : Int) (2 ^ j.val) ≤ 255 := by decide +kernel
theorem two8 : ∀ j : Fin 8, (2 : Int) ^ j.val = 1 ∨ (2 : Int) ^ j.val = 2 ∨ (2 : Int) ^ j.val = 4 ∨ (2 : Int) ^ j.val = 8 ∨ (2 : Int) ^ j.val = 16 ∨ (2 : Int) ^ j.val = 32 ∨ (2 : Int) ^ j.val = 64 ∨ (2 : Int) ^ j.val = 128 := by decide
theorem two8_mod {j : Nat} (hj : j < 8) : (2 : Int) ^ j % 256 = 2 ^ j := by
  have := two8 ⟨j, hj⟩
  simp only at this
  omega
theorem turned {xs : List Int} (hb : IsB xs) (ho : oc (tot xs) = 65535) {i : Nat} (hi : i < xs.length) {j : Nat} (hj : j < 8) : oc (tot (xs.set i (bits .xor .u8 (xs.getD i 0) (2 ^ j)))) ≠ 65535 := by
  obtain ⟨h0, h1⟩ := hb.at_ i
  obtain ⟨o, ho'⟩ := Int.eq_ofNat_of_zero_le h0
  obtain ⟨hx, _, hy0, hy1⟩ := xor_bit ⟨o, by omega⟩ ⟨j, hj⟩
  simp only at hx hy0 hy1
  have ht := tot_bd (hb.set i hy0 hy1)
  have h2 := two8 ⟨j, hj⟩
  simp only at h2
  have e := tot_set xs i (bits .xor .u8 (o : Int) (2 ^ j)) hi
  rw [ho'] at e ⊢
  have ht0 := ht.1
  have hs := (tot_bd hb).1
  rw [e] at ht0 ⊢
  generalize tot xs = T at *
  generalize bits .xor .u8 (o : Int) (2 ^ j) = V at *
  generalize (2 : Int) ^ j = p at *
  have hd : ∃ d : Int, (V - o) * (if i % 2 = 0 then (256 : Int) else 1) = d ∧ -32768 ≤ d ∧ d ≤ 32768 ∧ d ≠ 0 := by
    refine ⟨_, rfl, ?_, ?_, ?_⟩ <;> split <;> omega
  obtain ⟨d, hd, hd1, hd2, hd3⟩ := hd
  rw [hd] at ht0 ⊢
  unfold oc at *
  split at ho <;> split <;> omega
theorem back {xs : List Int} (hb : IsB xs) {i : Nat} (hi : i < xs.length) {j : Nat} (hj : j < 8) :
    (xs.set i (bits .xor .u8 (xs.getD i 0) (2 ^ j))).set i (bits .xor .u8 ((xs.set i (bits .xor .u8 (xs.getD i 0) (2 ^ j))).getD i 0) (2 ^ j)) = xs := by
  obtain ⟨h0, h1⟩ := hb.at_ i
  obtain ⟨o, ho'⟩ := Int.eq_ofNat_of_zero_le h0
  obtain ⟨_, hx, _, _⟩ := xor_bit ⟨o, by omega⟩ ⟨j, hj⟩
  simp only at hx
  rw [getD_set_self _ hi, List.set_set, ho']
  show xs.set i (bits .xor .u8 (bits .xor .u8 (o : Int) (2 ^ j)) (2 ^ j)) = xs
  rw [hx]
  have : xs[i] = (o : Int) := by
    have e : xs.getD i 0 = xs[i] := by simp [List.getD, List.getElem?_eq_getElem hi]
    rw [← e, ho']
  rw [← this, List.set_getElem_self]
theorem turned_b {xs : List Int} (hb : IsB xs) (i : Nat) {j : Nat} (hj : j < 8) : IsB (xs.set i (bits .xor .u8 (xs.getD i 0) (2 ^ j))) := by
  obtain ⟨h0, h1⟩ := hb.at_ i
  obtain ⟨o, ho'⟩ := Int.eq_ofNat_of_zero_le h0
  obtain ⟨_, _, hy0, hy1⟩ := xor_bit ⟨o, by omega⟩ ⟨j, hj⟩
  rw [ho']
  exact hb.set i hy0 hy1
theorem tot_rot (xs : List Int) (k : Nat) (hk : k % 2 = 0) (hl : xs.length % 2 = 0) (hkl : k ≤ xs.length) : tot (xs.drop k ++ xs.take k) = tot xs := by
  have e : tot xs = tot (xs.take k ++ xs.drop k) := by rw [List.take_append_drop]
  rw [e, tot_append _ _ (by simp; omega), tot_append _ _ (by simp; omega)]
  omega
theorem tot_00 (xs : List Int) (hl : xs.length % 2 = 0) : tot (xs ++ [0, 0]) = tot xs := by
  rw [tot_append _ _ hl]; simp [tot]
theorem tot_0 (xs : List Int) (hl : xs.length % 2 = 1) : tot (xs ++ [0]) = tot xs := by
  rw [tot_odd _ _ hl]; omega
theorem and_u64 (x : Int) (h0 : 0 ≤ x) (h1 : x < 18446744073709551616) : bits .and .u64 x 65535 = x % 65536 := by
  obtain ⟨n, rfl⟩ := Int.eq_ofNat_of_zero_le h0
  have h := u64_and_nat n 65535 (by omega) (by omega)
  rw [Nat.and_two_pow_sub_one_eq_mod n 16] at h
  exact h.trans (by omega)
theorem and_u32 (x : Int) (h0 : 0 ≤ x) (h1 : x < 4294967296) : bits .and .u32 x 65535 = x % 65536 := by
  obtain ⟨n, rfl⟩ := Int.eq_ofNat_of_zero_le h0
  have h := u32_and_nat n 65535 (by omega) (by omega)
  rw [Nat.and_two_pow_sub_one_eq_mod n 16] at h
  exact h.trans (by omega)
theorem or_u16 (a b : Int) (ha0 : 0 ≤ a) (ha : a ≤ 255) (hb0 : 0 ≤ b) (hb : b ≤ 255) : bits .or .u16 (a * 256) b = a * 256 + b := by
  obtain ⟨n, rfl⟩ := Int.eq_ofNat_of_zero_le ha0
  obtain ⟨m, rfl⟩ := Int.eq_ofNat_of_zero_le hb0
  have h := u16_or_nat (2 ^ 8 * n) m (by omega) (by omega)
  rw [← Nat.two_pow_add_eq_or_of_lt (by omega)] at h
  have e : ((2 ^ 8 * n : Nat) : Int) = (n : Int) * 256 := by omega
  rw [e] at h
  exact h.trans (by omega)
theorem xor_u16 {o s : Int} (h0 : 0 ≤ o) (h1 : o ≤ 65535) (e : 65535 - o = s) : bits .xor .u16 IntKind.u16.max o = s := by
  subst e
  obtain ⟨n, rfl⟩ := Int.eq_ofNat_of_zero_le h0
  have h := u16_xor_nat 65535 n (by omega) (by omega)
  have e : 65535 ^^^ n = 65535 - n := by
    apply Nat.eq_of_testBit_eq
    intro i
    rw [Nat.testBit_xor, show (65535 : Nat) = 2 ^ 16 - 1 from rfl, Nat.testBit_two_pow_sub_one, show 2 ^ 16 - 1 - n = 2 ^ 16 - (n + 1) by omega, Nat.testBit_two_pow_sub_succ (by omega)]
    by_cases hi : i < 16
    · simp [hi]
    · have : n.testBit i = false := Nat.testBit_lt_two_pow (Nat.lt_of_lt_of_le (show n < 2 ^ 16 by omega) (Nat.pow_le_pow_right (by omega : 2 > 0) (show 16 ≤ i by omega)))
      simp [hi, this]
  rw [e] at h
  exact h.trans (by omega)
/-- one round of adding the carry again -/
theorem fold_step {x : Int} (h0 : 65536 ≤ x) (h1 : x < 18446744073709551616) :
    IntKind.u64.wrap (x / 65536 + bits .and .u64 x 65535) = x / 65536 + x % 65536 ∧ x / 65536 + x % 65536 < x := by
  rw [and_u64 x (by omega) h1]
  refine ⟨?_, by omega⟩
  simp [IntKind.wrap, IntKind.bits, IntKind.signed]
  omega
end Sm
end Go.Proofs.Ytnnppoamdllebaa

