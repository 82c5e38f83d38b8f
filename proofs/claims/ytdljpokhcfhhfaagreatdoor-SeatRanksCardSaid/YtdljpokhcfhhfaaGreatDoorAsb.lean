/- Plain arithmetic of 16-bit sums over lists of bytes: totals by two, what is left when the carry is added again, where a sum is put. No program is imported. A slice of bytes that reads as a list of numbers, nil let in; what the call owns reads so. No program is imported. Plain headers of packets: their bytes, what bytes say as one. No program is imported. Plain messages: which may be, their bytes, what bytes say as one. No program is imported. A slice of addresses that reads as a list of numbers, nil let in; what the call owns reads so. No program is imported. -/
import Derived.Test.YtdljpokhcfhhfaaGreatDoorAs
import Derived.WalkKit
import Derived.Laws.BitsAllLaws
import Derived.Test.YtdljpokhcfhhfaaGreatDoorKit
import Derived.Maps.AppendAt
import Derived.Deep.AppendLies
import Derived.OwnWalk
namespace Go.Proofs.YtdljpokhcfhhfaaGreatDoor
namespace Sm
theorem oc_bd {t : Int} (_h : 0 ≤ t) : 0 ≤ oc t ∧ oc t ≤ 65535 := by unfold oc; split <;> omega
theorem oc_small {t : Int} (h0 : 0 ≤ t) (h1 : t ≤ 65535) : oc t = t := by unfold oc; split <;> omega
theorem oc_fold {t : Int} (h0 : 0 ≤ t) : oc (t / 65536 + t % 65536) = oc t := by unfold oc; split <;> split <;> omega
theorem oc_add {a b c : Int} (h0 : 0 ≤ a) (h1 : 0 ≤ b) (hc : 0 ≤ c) (h : oc a = oc b) : oc (a + c) = oc (b + c) := by
  unfold oc at *
  repeat' split at h
  all_goals (repeat' split)
  all_goals omega
theorem tot_append : ∀ (xs ys : List Int), xs.length % 2 = 0 → tot (xs ++ ys) = tot xs + tot ys
  | [], ys, _ => by simp [tot]
  | [a], ys, h => by simp at h
  | a :: b :: r, ys, h => by
    have h3 := tot_append r ys (by simp at h; omega)
    simp only [List.cons_append, tot, h3]
    omega
theorem tot_odd : ∀ (xs : List Int) (y : Int), xs.length % 2 = 1 → tot (xs ++ [y]) = tot xs + y
  | [], y, h => by simp at h
  | [a], y, _ => by simp [tot]
  | a :: b :: r, y, h => by
    have h3 := tot_odd r y (by simp at h; omega)
    simp only [List.cons_append, tot, h3]
    omega
theorem take_succ_getD (xs : List Int) (k : Nat) (h : k < xs.length) : xs.take (k + 1) = xs.take k ++ [xs.getD k 0] := by
  rw [List.take_succ_eq_append_getElem h]
  simp [List.getD, List.getElem?_eq_getElem h]
theorem tot_step_even (xs : List Int) (k : Nat) (h : k < xs.length) (he : k % 2 = 0) : tot (xs.take (k + 1)) = tot (xs.take k) + xs.getD k 0 * 256 := by
  rw [take_succ_getD xs k h, tot_append _ _ (by simp; omega)]
  simp [tot]
theorem tot_step_odd (xs : List Int) (k : Nat) (h : k < xs.length) (he : k % 2 = 1) : tot (xs.take (k + 1)) = tot (xs.take k) + xs.getD k 0 := by
  rw [take_succ_getD xs k h, tot_odd _ _ (by simp; omega)]
theorem tot_step2 (xs : List Int) (k : Nat) (h : k + 1 < xs.length) (he : k % 2 = 0) : tot (xs.take (k + 2)) = tot (xs.take k) + (xs.getD k 0 * 256 + xs.getD (k + 1) 0) := by
  rw [tot_step_odd xs (k + 1) h (by omega), tot_step_even xs k (by omega) he]
  omega
theorem zero2_len (xs : List Int) (i : Nat) : (zero2 xs i).length = xs.length := by simp [zero2]
theorem put2_len (xs : List Int) (i : Nat) (s : Int) : (put2 xs i s).length = xs.length := by simp [put2]
theorem put_len (xs : List Int) (a : Int) : (put xs a).length = xs.length := by
  unfold put
  split
  · rw [put2_len, zero2_len]
  · rfl
theorem zero2_b {xs : List Int} (h : IsB xs) (i : Nat) : IsB (zero2 xs i) := (h.set _ (by omega) (by omega)).set _ (by omega) (by omega)
theorem put2_b {xs : List Int} (h : IsB xs) (i : Nat) {s : Int} (h0 : 0 ≤ s) (h1 : s ≤ 65535) : IsB (put2 xs i s) := (h.set _ (by omega) (by omega)).set _ (by omega) (by omega)
theorem sum_bd {xs : List Int} (h : IsB xs) : 0 ≤ sum xs ∧ sum xs ≤ 65535 := by
  have := oc_bd (tot_bd h).1
  unfold sum; omega
theorem put_b {xs : List Int} (h : IsB xs) (a : Int) : IsB (put xs a) := by
  unfold put
  split
  · exact put2_b (zero2_b h _) _ (sum_bd (zero2_b h _)).1 (sum_bd (zero2_b h _)).2
  · exact h
theorem tot_put2 {xs : List Int} {i : Nat} (h : i + 1 < xs.length) (he : i % 2 = 0) (s : Int) : tot (put2 (zero2 xs i) i s) = tot (zero2 xs i) + s := by
  unfold put2
  rw [tot_set _ _ _ (by simp [zero2]; omega), tot_set _ _ _ (by simp [zero2]; omega), getD_set_ne _ (by omega)]
  have z0 : (zero2 xs i).getD i 0 = 0 := by unfold zero2; rw [getD_set_ne _ (by omega), getD_set_self _ (by omega)]
  have z1 : (zero2 xs i).getD (i + 1) 0 = 0 := by unfold zero2; rw [getD_set_self _ (by simp; omega)]
  rw [z0, z1, if_pos he, if_neg (by omega)]
  omega
/-- Put where a sum can stand, the sum of all is 0. -/
theorem sum_put {xs : List Int} (hb : IsB xs) {a : Int} (h : place xs.length a = true) : oc (tot (put xs a)) = 65535 := by
  have hp := h
  simp only [place, decide_eq_true_eq] at h
  unfold put
  rw [if_pos hp, tot_put2 (by omega) (by omega)]
  have hz := (tot_bd (zero2_b hb a.toNat)).1
  unfold sum oc
  split <;> split <;> omega
theorem two8_mod {j : Nat} (hj : j < 8) : (2 : Int) ^ j % 256 = 2 ^ j := by
  have := two8 ⟨j, hj⟩
  simp only at this
  omega
theorem turned_b {xs : List Int} (hb : IsB xs) (i : Nat) {j : Nat} (hj : j < 8) : IsB (xs.set i (bits .xor .u8 (xs.getD i 0) (2 ^ j))) := by
  obtain ⟨h0, h1⟩ := hb.at_ i
  obtain ⟨o, ho'⟩ := Int.eq_ofNat_of_zero_le h0
  obtain ⟨_, _, hy0, hy1⟩ := xor_bit ⟨o, by omega⟩ ⟨j, hj⟩
  rw [ho']
  exact hb.set i hy0 hy1
theorem tot_rot (xs : List Int) (k : Nat) (hk : k % 2 = 0) (hl : xs.length % 2 = 0) (hkl : k ≤ xs.length) : tot (xs.drop k ++ xs.take k) = tot xs := by
  have e : tot xs = tot (xs.take k ++ xs.drop k) := by rw [List.take_append_drop]
  rw [e, tot_append _ _ (by simp; omega), tot_append _ _ (by simp; omega)]
  omega
theorem tot_00 (xs : List Int) (hl : xs.length % 2 = 0) : tot (xs ++ [0, 0]) = tot xs := by
  rw [tot_append _ _ hl]; simp [tot]
theorem tot_0 (xs : List Int) (hl : xs.length % 2 = 1) : tot (xs ++ [0]) = tot xs := by
  rw [tot_odd _ _ hl]; omega
theorem and_u64 (x : Int) (h0 : 0 ≤ x) (h1 : x < 18446744073709551616) : bits .and .u64 x 65535 = x % 65536 := by
  obtain ⟨n, rfl⟩ := Int.eq_ofNat_of_zero_le h0
  have h := u64_and_nat n 65535 (by omega) (by omega)
  rw [Nat.and_two_pow_sub_one_eq_mod n 16] at h
  exact h.trans (by omega)
theorem and_u32 (x : Int) (h0 : 0 ≤ x) (h1 : x < 4294967296) : bits .and .u32 x 65535 = x % 65536 := by
  obtain ⟨n, rfl⟩ := Int.eq_ofNat_of_zero_le h0
  have h := u32_and_nat n 65535 (by omega) (by omega)
  rw [Nat.and_two_pow_sub_one_eq_mod n 16] at h
  exact h.trans (by omega)
theorem or_u16 (a b : Int) (ha0 : 0 ≤ a) (ha : a ≤ 255) (hb0 : 0 ≤ b) (hb : b ≤ 255) : bits .or .u16 (a * 256) b = a * 256 + b := by
  obtain ⟨n, rfl⟩ := Int.eq_ofNat_of_zero_le ha0
  obtain ⟨m, rfl⟩ := Int.eq_ofNat_of_zero_le hb0
  have h := u16_or_nat (2 ^ 8 * n) m (by omega) (by omega)
  rw [← Nat.two_pow_add_eq_or_of_lt (by omega)] at h
  have e : ((2 ^ 8 * n : Nat) : Int) = (n : Int) * 256 := by omega
  rw [e] at h
  exact h.trans (by omega)
theorem xor_u16 {o s : Int} (h0 : 0 ≤ o) (h1 : o ≤ 65535) (e : 65535 - o = s) : bits .xor .u16 IntKind.u16.max o = s := by
  subst e
  obtain ⟨n, rfl⟩ := Int.eq_ofNat_of_zero_le h0
  have h := u16_xor_nat 65535 n (by omega) (by omega)
  have e : 65535 ^^^ n = 65535 - n := by
    apply Nat.eq_of_testBit_eq
    intro i
    rw [Nat.testBit_xor, show (65535 : Nat) = 2 ^ 16 - 1 from rfl, Nat.testBit_two_pow_sub_one, show 2 ^ 16 - 1 - n = 2 ^ 16 - (n + 1) by omega, Nat.testBit_two_pow_sub_succ (by omega)]
    by_cases hi : i < 16
    · simp [hi]
    · have : n.testBit i = false := Nat.testBit_lt_two_pow (Nat.lt_of_lt_of_le (show n < 2 ^ 16 by omega) (Nat.pow_le_pow_right (by omega : 2 > 0) (show 16 ≤ i by omega)))
      simp [hi, this]
  rw [e] at h
  exact h.trans (by omega)
/-- one round of adding the carry again -/
theorem fold_step {x : Int} (h0 : 65536 ≤ x) (h1 : x < 18446744073709551616) :
    IntKind.u64.wrap (x / 65536 + bits .and .u64 x 65535) = x / 65536 + x % 65536 ∧ x / 65536 + x % 65536 < x := by
  rw [and_u64 x (by omega) h1]
  refine ⟨?_, by omega⟩
  simp [IntKind.wrap, IntKind.bits, IntKind.signed]
  omega
end Sm
end Go.Proofs.YtdljpokhcfhhfaaGreatDoor
namespace Go.Proofs.YtdljpokhcfhhfaaGreatDoor
open Go.RowKit Sm
def B8 (xs : List Int) : List Value := xs.map (Value.int .u8)
theorem B8_len (xs : List Int) : (B8 xs).length = xs.length := by simp [B8]
theorem B8_app (xs ys : List Int) : B8 (xs ++ ys) = B8 xs ++ B8 ys := by simp [B8]
theorem B8_set (xs : List Int) (i : Nat) (v : Int) : B8 (xs.set i v) = (B8 xs).set i (.int .u8 v) := by simp [B8, List.map_set]
theorem B8_one (xs : List Int) : ∀ u ∈ B8 xs, u.oneCell' = true := by
  intro u hu; obtain ⟨x, _, rfl⟩ := List.mem_map.1 hu; rfl
theorem B8_at {xs : List Int} {i : Nat} (h : i < xs.length) : (B8 xs)[i]? = some (.int .u8 (xs.getD i 0)) := by
  simp [B8, List.getD, List.getElem?_eq_getElem h]
section
variable {w w' : World} {A : Option Addr} {n : Nat} {xs : List Int}

theorem BR.isB (h : BR w A n xs) : IsB xs := h.2.1
/-- Owned by the call: the slice's form, and what it reads as. -/
theorem own_form {base : Nat} {e : TypeId} {v : Value} (h : w.ownsRow base e 1 v n (B8 xs)) (hb : IsB xs) :
    ∃ A c, v = .slice A n c ∧ n ≤ c ∧ BR w A n xs ∧ (0 < n → ∃ g, A = some ⟨g, 0, none⟩ ∧ base ≤ g ∧ g < w.heap.size) := by
  have hl : xs.length = n := by have := h.1; rw [B8_len] at this; omega
  have h0 := h
  rcases h.2 with ⟨rfl, rfl⟩ | ⟨g, cap, cur, rfl, hbg, hh, hnc, _⟩
  · obtain rfl : xs = [] := List.eq_nil_of_length_eq_zero hl
    exact ⟨none, 0, rfl, Nat.le_refl _, BR.none_ _ _, fun h => absurd h (by omega)⟩
  · have hlt : g < w.heap.size := (Array.getElem?_eq_some_iff.1 hh).1
    refine ⟨_, cap, rfl, hnc, ⟨hl, hb, fun _ => ⟨g, 0, rfl, hlt, fun i hi => ?_⟩⟩, fun _ => ⟨g, rfl, hbg, hlt⟩⟩
    rw [Nat.zero_add, h0.cellAt i (by omega)]
    exact B8_at (by omega)
theorem own_up {base base' : Nat} {e : TypeId} {v : Value} {ys : List Value} (h : w.ownsRow base' e 1 v n ys) (hb : base ≤ base') : w.ownsRow base e 1 v n ys := by
  refine ⟨h.1, ?_⟩
  rcases h.2 with hn | ⟨g, cap, cur, rfl, hbg, hh, rest⟩
  · exact .inl hn
  · exact .inr ⟨g, cap, cur, rfl, Nat.le_trans hb hbg, hh, rest⟩
/-- A store into what the call owns: what it owns behind it. -/
theorem own_set {base : Nat} {e : TypeId} {g cap : Nat} (h : w.ownsRow base e 1 (.slice (some ⟨g, 0, none⟩) n cap) n (B8 xs)) (i : Nat) (v : Int) :
    (w.setCell ⟨g, i, none⟩ (.int .u8 v)).ownsRow base e 1 (.slice (some ⟨g, 0, none⟩) n cap) n (B8 (xs.set i v)) := by
  rw [B8_set]
  exact (h.stored i (.int .u8 v)).1
theorem below_store {B g i : Nat} (h : Below B w w') (hg : B ≤ g) (u : Value) : Below B w (w'.setCell ⟨g, i, none⟩ u) := h.setCell (by simpa using hg) u
end
end Go.Proofs.YtdljpokhcfhhfaaGreatDoor
namespace Go.Proofs.YtdljpokhcfhhfaaGreatDoor
namespace Sm
def hfit (l i t p : Int) : Bool := decide (20 ≤ l ∧ l ≤ 65535 ∧ 0 ≤ i ∧ i ≤ 65535 ∧ 0 ≤ t ∧ t ≤ 255 ∧ 0 ≤ p ∧ p ≤ 255)
theorem hbs_eq (l i t p f o : Int) : ∃ s, hbs l i t p f o = [69, 0, l / 256, l % 256, i / 256, i % 256, 0, 0, t, p, s / 256, s % 256, f / 16777216, f / 65536 % 256, f / 256 % 256, f % 256, o / 16777216, o / 65536 % 256, o / 256 % 256, o % 256] :=
  ⟨sum (hdr l i t p f o), by unfold hbs put; rw [if_pos (by rfl)]; rfl⟩
theorem hdr_b {l i t p f o : Int} (h : hfit l i t p = true) (hf : isA f) (ho : isA o) : IsB (hdr l i t p f o) := by
  simp only [hfit, decide_eq_true_eq] at h
  unfold isA at hf ho
  intro x hx
  simp only [hdr, List.mem_cons, List.not_mem_nil, or_false] at hx
  omega
theorem hbs_len (l i t p f o : Int) : (hbs l i t p f o).length = 20 := put_len _ _
theorem hbs_b {l i t p f o : Int} (h : hfit l i t p = true) (hf : isA f) (ho : isA o) : IsB (hbs l i t p f o) := put_b (hdr_b h hf ho) _
theorem hbs_sum {l i t p f o : Int} (h : hfit l i t p = true) (hf : isA f) (ho : isA o) : oc (tot (hbs l i t p f o)) = 65535 := sum_put (hdr_b h hf ho) (by rfl)
/- what bytes say -/
theorem getD_take {xs : List Int} {k n : Nat} (h : k < n) : (xs.take n).getD k 0 = xs.getD k 0 := by simp [List.getD, h]
theorem rcode_cases (xs : List Int) : rcode xs = 101 ∨ rcode xs = 102 ∨ rcode xs = 105 ∨ rcode xs = 103 ∨ rcode xs = 0 := by
  unfold rcode; repeat' split
  all_goals simp
theorem rcode_ok {xs : List Int} (h : rcode xs = 0) : 20 ≤ xs.length ∧ rsh xs = true ∧ oc (tot (xs.take 20)) = 65535 ∧ 20 ≤ rn xs 2 := by
  unfold rcode at h
  repeat' split at h
  all_goals first | omega | skip
  rename_i h1 h2 h3 h4
  exact ⟨by omega, by simpa using h2, by simpa using h3, by omega⟩
theorem rn_bd {xs : List Int} (h : IsB xs) (k : Nat) : 0 ≤ rn xs k ∧ rn xs k ≤ 65535 := by
  have h0 := h.at_ k
  have h1 := h.at_ (k + 1)
  unfold rn; omega
theorem ra_bd {xs : List Int} (h : IsB xs) (k : Nat) : isA (ra xs k) := by
  have h0 := h.at_ k
  have h1 := h.at_ (k + 1)
  have h2 := h.at_ (k + 2)
  have h3 := h.at_ (k + 3)
  unfold ra isA; omega
theorem rfit {xs : List Int} (hb : IsB xs) (h : rcode xs = 0) : hfit (rn xs 2) (rn xs 4) (xs.getD 8 0) (xs.getD 9 0) = true := by
  have h2 := rn_bd hb 2
  have h4 := rn_bd hb 4
  have h8 := hb.at_ 8
  have h9 := hb.at_ 9
  have := (rcode_ok h).2.2.2
  simp only [hfit, decide_eq_true_eq]
  omega
/-- a header's bytes are read as it -/
theorem rback {l i t p f o : Int} (h : hfit l i t p = true) (hf : isA f) (ho : isA o) (ys : List Int) :
    rcode (hbs l i t p f o ++ ys) = 0 ∧ rn (hbs l i t p f o ++ ys) 2 = l ∧ rn (hbs l i t p f o ++ ys) 4 = i ∧ (hbs l i t p f o ++ ys).getD 8 0 = t ∧ (hbs l i t p f o ++ ys).getD 9 0 = p ∧ ra (hbs l i t p f o ++ ys) 12 = f ∧ ra (hbs l i t p f o ++ ys) 16 = o := by
  have hs := hbs_sum h hf ho
  have hl := hbs_len l i t p f o
  have ht : (hbs l i t p f o ++ ys).take 20 = hbs l i t p f o := by rw [List.take_append_of_le_length (by omega), List.take_of_length_le (by omega)]
  obtain ⟨s, e⟩ := hbs_eq l i t p f o
  have e2 : rn (hbs l i t p f o ++ ys) 2 = l := by rw [e]; simp [rn, List.getD]; omega
  simp only [hfit, decide_eq_true_eq] at h
  unfold isA at hf ho
  refine ⟨?_, e2, ?_, ?_, ?_, ?_, ?_⟩
  · unfold rcode
    rw [if_neg (by simp; omega), if_neg (by rw [e]; simp [rsh, List.getD]), if_neg (by rw [ht, hs]; simp), if_neg (by omega)]
  all_goals rw [e]; simp [rn, ra, List.getD]; try omega
theorem hbs_inj {l i t p f o l' i' t' p' f' o' : Int} (h : hfit l i t p = true) (hf : isA f) (ho : isA o) (h' : hfit l' i' t' p' = true) (hf' : isA f') (ho' : isA o') (e : hbs l i t p f o = hbs l' i' t' p' f' o') : l = l' ∧ i = i' ∧ t = t' ∧ p = p' ∧ f = f' ∧ o = o' := by
  obtain ⟨_, a1, a2, a3, a4, a5, a6⟩ := rback h hf ho []
  obtain ⟨_, b1, b2, b3, b4, b5, b6⟩ := rback h' hf' ho' []
  rw [e] at a1 a2 a3 a4 a5 a6
  exact ⟨a1.symm.trans b1, a2.symm.trans b2, a3.symm.trans b3, a4.symm.trans b4, a5.symm.trans b5, a6.symm.trans b6⟩
/-- a hop less -/
def hcode (xs : List Int) : Int := if rcode xs = 0 then if xs.getD 8 0 = 0 then 103 else 0 else rcode xs
def hops (xs : List Int) : List Int := if hcode xs = 0 then hbs (rn xs 2) (rn xs 4) (xs.getD 8 0 - 1) (xs.getD 9 0) (ra xs 12) (ra xs 16) else []
theorem rfit1 {xs : List Int} (hb : IsB xs) (h : rcode xs = 0) (h8 : xs.getD 8 0 ≠ 0) : hfit (rn xs 2) (rn xs 4) (xs.getD 8 0 - 1) (xs.getD 9 0) = true := by
  have h1 := rfit hb h
  have h8 := hb.at_ 8
  simp only [hfit, decide_eq_true_eq] at h1 ⊢
  omega
end Sm
end Go.Proofs.YtdljpokhcfhhfaaGreatDoor
namespace Go.Proofs.YtdljpokhcfhhfaaGreatDoor

namespace Sm

def wfm (m : Ms) : Prop := isA m.f ∧ isA m.t ∧ isA m.s ∧ isA m.g ∧ IsAs m.l
def mraw (m : Ms) : List Int := (32 + m.k) :: 0 :: 0 :: 0 :: (b4 m.f ++ body m)
def mbs (m : Ms) : List Int := put (mraw m) 2
def ras (xs : List Int) (p : Nat) : Nat → List Int
  | 0 => []
  | n + 1 => ra xs p :: ras xs (p + 4) n
def rkind (xs : List Int) : Int := xs.getD 0 0 - 32
def mrk (k : Int) (xs : List Int) : Ms :=
  ⟨k, ra xs 4, if k = 2 then ra xs 8 else 0, if k = 2 then ra xs 12 else if k = 3 then ra xs 8 else 0,
   if k = 2 then ra xs 16 else if k = 3 then ra xs 12 else if k = 4 ∨ k = 5 then ra xs 8 else 0,
   if k = 1 then rn xs 8 else 0, if k = 3 then rn xs 16 else 0, if k = 4 then decide (xs.getD 12 0 = 1) else false,
   if k = 4 then ras xs 14 (xs.getD 13 0).toNat else []⟩
def mrd (xs : List Int) : Ms := mrk (rkind xs) xs
def mszk (k : Int) (xs : List Int) : Nat := if k = 1 then 10 else if k = 2 then 20 else if k = 3 then 18 else if k = 4 then 14 + 4 * (xs.getD 13 0).toNat else 12
def msz (xs : List Int) : Nat := mszk (rkind xs) xs
def modd (xs : List Int) : Bool := decide (rkind xs = 4 ∧ 1 < xs.getD 12 0)
def mz : Ms := ⟨0, 0, 0, 0, 0, 0, 0, false, []⟩
def mrc (xs : List Int) : Int :=
  if xs.length < 4 then 101 else if oc (tot xs) ≠ 65535 then 105 else if xs.getD 1 0 ≠ 0 then 102 else if kOk (rkind xs) = false then 113
  else if xs.length < msz xs then 101 else if msz xs < xs.length ∨ modd xs = true then 102 else mcode (mrd xs)
def mres (xs : List Int) : Ms := if mrc xs = 0 then mrd xs else mz
theorem b2_len (a : Int) : (b2 a).length = 2 := rfl
theorem b4_b {v : Int} (h : isA v) : IsB (b4 v) := by
  obtain ⟨h0, h1⟩ := h
  intro x hx; simp only [b4, List.mem_cons, List.not_mem_nil, or_false] at hx; omega
theorem b2_b {v : Int} (h0 : 0 ≤ v) (h1 : v ≤ 65535) : IsB (b2 v) := by
  intro x hx; simp only [b2, List.mem_cons, List.not_mem_nil, or_false] at hx; omega
theorem flat_b : ∀ {l : List Int}, IsAs l → IsB (flat l)
  | [], _ => fun x hx => by cases hx
  | a :: r, h => (b4_b (h a (by simp))).append (flat_b fun x hx => h x (by simp [hx]))
theorem flat_append (l k : List Int) : flat (l ++ k) = flat l ++ flat k := by
  induction l with
  | nil => rfl
  | cons a r ih => simp [flat, ih]
theorem ra_b4 {a : Int} (h : isA a) (zs : List Int) : ra (b4 a ++ zs) 0 = a := by
  obtain ⟨h0, h1⟩ := h
  simp [ra, b4, List.getD]; omega
theorem rn_b2 {a : Int} (_h0 : 0 ≤ a) (_h1 : a ≤ 65535) (zs : List Int) : rn (b2 a ++ zs) 0 = a := by
  simp [rn, b2, List.getD]; omega
theorem ra_at {xs : List Int} {p : Nat} {a : Int} {zs : List Int} (h : xs.drop p = b4 a ++ zs) (ha : isA a) : ra xs p = a := by
  have e : ra xs p = ra (xs.drop p) 0 := by unfold ra; simp [List.getD]
  rw [e, h, ra_b4 ha]
theorem rn_at {xs : List Int} {p : Nat} {a : Int} {zs : List Int} (h : xs.drop p = b2 a ++ zs) (h0 : 0 ≤ a) (h1 : a ≤ 65535) : rn xs p = a := by
  have e : rn xs p = rn (xs.drop p) 0 := by unfold rn; simp [List.getD]
  rw [e, h, rn_b2 h0 h1]
theorem drop_next {xs : List Int} {p k : Nat} {us zs : List Int} (h : xs.drop p = us ++ zs) (hk : us.length = k) : xs.drop (p + k) = zs := by
  rw [← List.drop_drop, h, ← hk, List.drop_left]
theorem getD_at {xs : List Int} {p : Nat} {a : Int} {zs : List Int} (h : xs.drop p = a :: zs) : xs.getD p 0 = a := by
  have e : xs.getD p 0 = (xs.drop p).getD 0 0 := by simp [List.getD]
  rw [e, h]; rfl
theorem ras_at : ∀ (l : List Int) (xs : List Int) (p : Nat) (zs : List Int), xs.drop p = flat l ++ zs → IsAs l → ras xs p l.length = l
  | [], _, _, _, _, _ => rfl
  | a :: r, xs, p, zs, h, ha => by
    have h1 : xs.drop p = b4 a ++ (flat r ++ zs) := by rw [h]; simp [flat]
    have h2 := drop_next h1 (b4_len a)
    show ra xs p :: ras xs (p + 4) r.length = a :: r
    rw [ra_at h1 (ha a (by simp)), ras_at r xs (p + 4) zs h2 (fun x hx => ha x (by simp [hx]))]
theorem ras_len (xs : List Int) : ∀ (n p : Nat), (ras xs p n).length = n
  | 0, _ => rfl
  | n + 1, p => by simp [ras, ras_len xs n (p + 4)]
theorem ras_b {xs : List Int} (h : IsB xs) : ∀ (n p : Nat), IsAs (ras xs p n)
  | 0, _ => fun x hx => by cases hx
  | n + 1, p => fun x hx => by
    rcases List.mem_cons.1 hx with rfl | hx
    · exact ra_bd h p
    · exact ras_b h n (p + 4) x hx
theorem mrd_wf {xs : List Int} (h : IsB xs) : wfm (mrd xs) := by
  have z : isA 0 := ⟨by omega, by omega⟩
  refine ⟨ra_bd h 4, ?_, ?_, ?_, ?_⟩
  · show isA (if _ then _ else _); split
    · exact ra_bd h 8
    · exact z
  · show isA (if _ then _ else if _ then _ else _); split
    · exact ra_bd h 12
    · split
      · exact ra_bd h 8
      · exact z
  · show isA (if _ then _ else if _ then _ else if _ then _ else _); split
    · exact ra_bd h 16
    · split
      · exact ra_bd h 12
      · split
        · exact ra_bd h 8
        · exact z
  · show IsAs (if _ then _ else _); split
    · exact ras_b h _ _
    · exact fun x hx => by cases hx
/- what a right message is -/
theorem mcode_ok {m : Ms} (h : mcode m = 0) : 1 ≤ m.k ∧ m.k ≤ 5 ∧ m.l.length ≤ 4 ∧ 0 ≤ m.r ∧ m.r ≤ 65535 ∧ 0 ≤ m.c ∧ m.c ≤ 65535 ∧ (m.k ≠ 1 → gOk m.g = true) ∧ m.t = (owned m).t ∧ m.s = (owned m).s ∧ m.g = (owned m).g ∧ m.r = (owned m).r ∧ m.c = (owned m).c ∧ m.o = (owned m).o ∧ m.l = (owned m).l := by
  unfold mcode at h
  split at h
  · omega
  split at h
  · omega
  split at h
  · rename_i h1 h2 h3
    simp only [kOk, decide_eq_false_iff_not, Decidable.not_not] at h1
    obtain ⟨h3, h4⟩ := h3
    simp only [cOk, Bool.and_eq_true, Bool.or_eq_true, decide_eq_true_eq, beq_iff_eq] at h3
    simp only [sameB, decide_eq_true_eq] at h4
    obtain ⟨h31, h32, h33⟩ := h3
    obtain ⟨_, _, h42, ⟨h43, h44⟩, h45, h46, h47, h48⟩ := h4
    exact ⟨h1.1, h1.2, by omega, h31.1, h31.2, h32.1, h32.2, fun hk => h33.resolve_left hk, h42, h43, h44, h45, h46, h47, h48⟩
  · omega
theorem mcode_cases (m : Ms) : mcode m = 113 ∨ mcode m = 104 ∨ mcode m = 103 ∨ mcode m = 0 := by
  unfold mcode; repeat' split
  all_goals simp
theorem mrc_cases (xs : List Int) : mrc xs = 101 ∨ mrc xs = 105 ∨ mrc xs = 102 ∨ mrc xs = 113 ∨ mrc xs = 104 ∨ mrc xs = 103 ∨ mrc xs = 0 := by
  unfold mrc; repeat' split
  all_goals first | simp; done | skip
  have := mcode_cases (mrd xs)
  omega
theorem body_b {m : Ms} (hw : wfm m) (hc : mcode m = 0) : IsB (body m) := by
  obtain ⟨h1, h2, h3, h4, h5, h6, h7, _⟩ := mcode_ok hc
  obtain ⟨_, w2, w3, w4, w5⟩ := hw
  unfold body
  split
  · exact b2_b h4 h5
  split
  · exact (b4_b w2).append ((b4_b w3).append (b4_b w4))
  split
  · exact (b4_b w3).append ((b4_b w4).append (b2_b h6 h7))
  split
  · refine (b4_b w4).append (IsB.append ?_ (flat_b w5))
    intro x hx
    simp only [List.mem_cons, List.not_mem_nil, or_false] at hx
    rcases hx with rfl | rfl
    · cases m.o <;> simp
    · omega
  · exact b4_b w4
theorem mraw_b {m : Ms} (hw : wfm m) (hc : mcode m = 0) : IsB (mraw m) := by
  have h := mcode_ok hc
  exact IsB.cons (by omega) (by omega) (IsB.cons (by omega) (by omega) (IsB.cons (by omega) (by omega) (IsB.cons (by omega) (by omega) ((b4_b hw.1).append (body_b hw hc)))))
theorem mraw_place (m : Ms) : place (mraw m).length 2 = true := by
  have h : (mraw m).length = (b4 m.f ++ body m).length + 4 := rfl
  rw [h]
  exact decide_eq_true ⟨by omega, by omega, by omega⟩
theorem mbs_b {m : Ms} (hw : wfm m) (hc : mcode m = 0) : IsB (mbs m) := put_b (mraw_b hw hc) _
theorem mbs_sum {m : Ms} (hw : wfm m) (hc : mcode m = 0) : oc (tot (mbs m)) = 65535 := sum_put (mraw_b hw hc) (mraw_place m)
theorem mbs_len (m : Ms) : (mbs m).length = (mraw m).length := put_len _ _
theorem mbs_eq (m : Ms) : ∃ s, mbs m = (32 + m.k) :: 0 :: s / 256 :: s % 256 :: (b4 m.f ++ body m) :=
  ⟨sum (zero2 (mraw m) 2), by unfold mbs put; rw [if_pos (mraw_place m)]; rfl⟩
theorem mraw_len (m : Ms) : (mraw m).length = if m.k = 1 then 10 else if m.k = 2 then 20 else if m.k = 3 then 18 else if m.k = 4 then 14 + 4 * m.l.length else 12 := by
  unfold mraw body
  repeat' split
  all_goals simp [b4_len, b2_len, flat_len]
  all_goals omega
/-- a message's bytes are read as it, whatever is behind -/
theorem mback {m : Ms} (hw : wfm m) (hc : mcode m = 0) (ys : List Int) :
    rkind (mbs m ++ ys) = m.k ∧ (mbs m ++ ys).getD 1 0 = 0 ∧ mrd (mbs m ++ ys) = m ∧ msz (mbs m ++ ys) = (mbs m).length ∧ modd (mbs m ++ ys) = false := by
  obtain ⟨s, e⟩ := mbs_eq m
  obtain ⟨h1, h2, h3, h4, h5, h6, h7, _, h8, h9, h10, h11, h12, h13, h14⟩ := mcode_ok hc
  obtain ⟨w1, w2, w3, w4, w5⟩ := hw
  have hl := mbs_len m
  rw [mraw_len] at hl
  have hk : rkind (mbs m ++ ys) = m.k := by rw [e]; simp [rkind, List.getD]; omega
  have d4 : (mbs m ++ ys).drop 4 = b4 m.f ++ (body m ++ ys) := by rw [e]; simp
  have d8 := drop_next d4 (b4_len _)
  have hf := ra_at d4 w1
  generalize hX : mbs m ++ ys = X at *
  have hX1 : X.getD 1 0 = 0 := by rw [← hX, e]; rfl
  rw [hX1]
  have hK : m.k = 1 ∨ m.k = 2 ∨ m.k = 3 ∨ m.k = 4 ∨ m.k = 5 := by omega
  unfold mrd msz modd
  rw [hk]
  unfold mrk mszk
  rw [hl, hf]
  clear hl hX hc hf e
  obtain ⟨k, f, t, s', g, r, c, o, l⟩ := m
  simp only [owned, body] at *
  rcases hK with rfl | rfl | rfl | rfl | rfl
  · simp at h8 h9 h10 h12 h13 h14 d8
    have e8 := rn_at d8 h4 h5
    subst h8 h9 h10 h12 h13 h14
    simp [e8]
  · simp at h11 h12 h13 h14 d8
    have e8 := ra_at d8 w2
    have d12 := drop_next d8 (b4_len _)
    have e12 := ra_at d12 w3
    have d16 := drop_next d12 (b4_len _)
    have e16 := ra_at d16 w4
    subst h11 h12 h13 h14
    simp [e8, e12, e16]
  · simp at h8 h11 h13 h14 d8
    have e8 := ra_at d8 w3
    have d12 := drop_next d8 (b4_len _)
    have e12 := ra_at d12 w4
    have d16 := drop_next d12 (b4_len _)
    have e16 := rn_at d16 h6 h7
    subst h8 h11 h13 h14
    simp [e8, e12, e16]
  · simp at h8 h9 h11 h12 d8
    have e8 := ra_at d8 w4
    have d12 := drop_next d8 (b4_len _)
    have e12 := getD_at d12
    have d13 : X.drop 13 = (l.length : Int) :: (flat l ++ ys) := drop_next (us := [if o = true then 1 else 0]) (k := 1) d12 rfl
    have e13 := getD_at d13
    have d14 : X.drop 14 = flat l ++ ys := drop_next (us := [(l.length : Int)]) (k := 1) d13 rfl
    have e14 := ras_at l X 14 ys d14 w5
    subst h8 h9 h11 h12
    simp only [e8, e12, e13, Int.toNat_natCast, e14]
    cases o <;> simp
  · simp at h8 h9 h11 h12 h13 h14 d8
    have e8 := ra_at d8 w4
    subst h8 h9 h11 h12 h13 h14
    simp [e8]
theorem mrc_of {m : Ms} (hw : wfm m) (hc : mcode m = 0) : mrc (mbs m) = 0 := by
  obtain ⟨h1, h2, h3, h4, h5⟩ := mback hw hc []
  rw [List.append_nil] at h1 h2 h3 h4 h5
  have hl := mbs_len m
  rw [mraw_len] at hl
  have hk := mcode_ok hc
  have hK : kOk m.k = true := decide_eq_true ⟨hk.1, hk.2.1⟩
  unfold mrc
  rw [mbs_sum hw hc, h1, h2, h3, h4, h5, hK, hc, if_neg, if_neg, if_neg, if_neg, if_neg, if_neg]
  all_goals first | simp; done | skip
  repeat' split at hl
  all_goals omega
theorem mbs_len10 {m : Ms} (_hc : mcode m = 0) : 10 ≤ (mbs m).length ∧ (mbs m).length ≤ 30 := by
  have hl := mbs_len m
  have := mcode_ok _hc
  rw [mraw_len] at hl
  repeat' split at hl
  all_goals omega
/-- more behind a message's bytes is none -/
theorem mrc_more {m : Ms} (hw : wfm m) (hc : mcode m = 0) {ys : List Int} (hy : ys ≠ []) : mrc (mbs m ++ ys) ≠ 0 := by
  obtain ⟨h1, h2, h3, h4, h5⟩ := mback hw hc ys
  have hp : 0 < ys.length := List.length_pos_iff.2 hy
  have hl : (mbs m).length < (mbs m ++ ys).length := by simp; omega
  unfold mrc
  rw [h4]
  repeat' split
  all_goals omega
/-- cut off it is none -/
theorem mrc_cut {m : Ms} (hw : wfm m) (hc : mcode m = 0) {c : Nat} (hlt : c < (mbs m).length) : mrc ((mbs m).take c) ≠ 0 := by
  obtain ⟨h1, _, _, h4, _⟩ := mback hw hc []
  rw [List.append_nil] at h1 h4
  have hl : ((mbs m).take c).length = c := by simp; omega
  have hm : 4 ≤ c → c < msz ((mbs m).take c) := by
    intro h
    have hk : rkind ((mbs m).take c) = m.k := by
      rw [← h1]; unfold rkind; rw [getD_take (by omega)]
    have h13 : ((mbs m).take c).getD 13 0 = if 13 < c then (mbs m).getD 13 0 else 0 := by
      split
      · rw [getD_take (by omega)]
      · unfold List.getD; rw [List.getElem?_eq_none (by omega)]; rfl
    unfold msz mszk at h4 ⊢
    rw [h1] at h4
    rw [hk, h13]
    repeat' split at h4
    all_goals repeat' split
    all_goals first | omega | (simp; omega)
  unfold mrc
  rw [hl]
  by_cases h : c < 4
  · rw [if_pos h]; omega
  · have := hm (by omega)
    rw [if_neg h]
    repeat' split
    all_goals omega
/-- with a sum that does not hold -/
theorem mrc_sum {xs : List Int} (hl : 4 ≤ xs.length) (ho : oc (tot xs) ≠ 65535) : mrc xs = 105 := by
  unfold mrc
  rw [if_neg (by omega), if_pos ho]
/- what bytes say, written again -/
theorem ra_drop4 {xs : List Int} (hb : IsB xs) {p : Nat} (h : p + 4 ≤ xs.length) : b4 (ra xs p) = (xs.drop p).take 4 := by
  have h0 := hb.at_ p
  have h1 := hb.at_ (p + 1)
  have h2 := hb.at_ (p + 2)
  have h3 := hb.at_ (p + 3)
  have e : xs.drop p = xs.getD p 0 :: xs.getD (p + 1) 0 :: xs.getD (p + 2) 0 :: xs.getD (p + 3) 0 :: xs.drop (p + 4) := by
    rw [List.drop_eq_getElem_cons (show p < xs.length by omega), List.drop_eq_getElem_cons (show p + 1 < xs.length by omega), List.drop_eq_getElem_cons (show p + 1 + 1 < xs.length by omega), List.drop_eq_getElem_cons (show p + 1 + 1 + 1 < xs.length by omega)]
    simp [List.getD, show p < xs.length by omega, show p + 1 < xs.length by omega, show p + 2 < xs.length by omega, show p + 3 < xs.length by omega]
  rw [e]
  unfold ra b4
  generalize xs.getD p 0 = a at *
  generalize xs.getD (p + 1) 0 = b at *
  generalize xs.getD (p + 2) 0 = c at *
  generalize xs.getD (p + 3) 0 = d at *
  simp
  omega
theorem rn_drop2 {xs : List Int} (hb : IsB xs) {p : Nat} (h : p + 2 ≤ xs.length) : b2 (rn xs p) = (xs.drop p).take 2 := by
  have h0 := hb.at_ p
  have h1 := hb.at_ (p + 1)
  have e : xs.drop p = xs.getD p 0 :: xs.getD (p + 1) 0 :: xs.drop (p + 2) := by
    rw [List.drop_eq_getElem_cons (show p < xs.length by omega), List.drop_eq_getElem_cons (show p + 1 < xs.length by omega)]
    simp [List.getD, show p < xs.length by omega, show p + 1 < xs.length by omega]
  rw [e]
  unfold rn b2
  generalize xs.getD p 0 = a at *
  generalize xs.getD (p + 1) 0 = b at *
  simp
  omega
theorem seg (xs : List Int) (p a b : Nat) : (xs.drop p).take a ++ (xs.drop (p + a)).take b = (xs.drop p).take (a + b) := by
  rw [← List.drop_drop, List.take_add]
theorem ras_drop {xs : List Int} (hb : IsB xs) : ∀ (n p : Nat), p + 4 * n ≤ xs.length → flat (ras xs p n) = (xs.drop p).take (4 * n)
  | 0, p, _ => by simp [ras, flat]
  | n + 1, p, h => by
    show b4 (ra xs p) ++ flat (ras xs (p + 4) n) = _
    rw [ra_drop4 hb (by omega), ras_drop hb n (p + 4) (by omega), seg]
    congr 1; omega
theorem mrc_ok {xs : List Int} (h : mrc xs = 0) : 4 ≤ xs.length ∧ oc (tot xs) = 65535 ∧ xs.getD 1 0 = 0 ∧ 1 ≤ rkind xs ∧ rkind xs ≤ 5 ∧ xs.length = msz xs ∧ modd xs = false ∧ mcode (mrd xs) = 0 := by
  unfold mrc at h
  repeat' split at h
  all_goals first | omega | skip
  rename_i h1 h2 h3 h4 h5 h6
  simp only [kOk, decide_eq_false_iff_not, Decidable.not_not] at h4
  refine ⟨by omega, by omega, by omega, h4.1, h4.2, by omega, ?_, h⟩
  cases hm : modd xs
  · rfl
  · exact absurd (.inr hm) h6
theorem cut4 {xs : List Int} (h : 4 ≤ xs.length) : xs = xs.getD 0 0 :: xs.getD 1 0 :: xs.getD 2 0 :: xs.getD 3 0 :: xs.drop 4 := by
  match xs, h with
  | a :: b :: c :: d :: r, _ => rfl
theorem body_rd {xs : List Int} (hb : IsB xs) (h : mrc xs = 0) : b4 (mrd xs).f ++ body (mrd xs) = xs.drop 4 := by
  obtain ⟨h1, _, _, h4, h5, h6, h7, h8⟩ := mrc_ok h
  have hl := (mcode_ok h8).2.2.1
  unfold msz mszk at h6
  have hK : rkind xs = 1 ∨ rkind xs = 2 ∨ rkind xs = 3 ∨ rkind xs = 4 ∨ rkind xs = 5 := by omega
  unfold mrd at hl ⊢
  unfold modd at h7
  generalize rkind xs = k at *
  have hlast : ∀ p a, p + a = xs.length → (xs.drop p).take a = xs.drop p := fun p a h => List.take_of_length_le (by simp; omega)
  unfold body mrk at *
  rcases hK with rfl | rfl | rfl | rfl | rfl
  · simp at h6 ⊢
    rw [ra_drop4 hb (by omega), rn_drop2 hb (by omega), seg, hlast _ _ (by omega)]
  · simp at h6 ⊢
    rw [ra_drop4 hb (by omega), ra_drop4 hb (by omega), ra_drop4 hb (by omega), ra_drop4 hb (by omega), seg, seg, seg, hlast _ _ (by omega)]
  · simp at h6 ⊢
    rw [ra_drop4 hb (by omega), ra_drop4 hb (by omega), ra_drop4 hb (by omega), rn_drop2 hb (by omega), seg, seg, seg, hlast _ _ (by omega)]
  · have b12 := hb.at_ 12
    have b13 := hb.at_ 13
    have e1 := rn_drop2 hb (p := 12) 
    unfold rn at e1
    generalize xs.getD 12 0 = u at *
    generalize xs.getD (12 + 1) 0 = v at *
    simp at h6 h7 ⊢
    have e1 := e1 (by omega)
    have e2 : (if u = 1 then (1 : Int) else 0) :: ((ras xs 14 v.toNat).length : Int) :: flat (ras xs 14 v.toNat) = (xs.drop 12).take (2 + 4 * v.toNat) := by
      rw [ras_len, ras_drop hb _ _ (by omega), ← seg, ← e1]
      unfold b2
      simp only [List.cons_append, List.nil_append, List.cons.injEq]
      refine ⟨?_, by omega, trivial⟩
      split <;> omega
    rw [e2, ra_drop4 hb (by omega), ra_drop4 hb (by omega), seg, seg, hlast _ _ (by omega)]
  · simp at h6 ⊢
    rw [ra_drop4 hb (by omega), ra_drop4 hb (by omega), seg, hlast _ _ (by omega)]
/-- what is read, written again, is the same but for the sum -/
theorem mrd_again {xs : List Int} (hb : IsB xs) (h : mrc xs = 0) : (mbs (mrd xs)).length = xs.length ∧ ∀ i, i ≠ 2 → i ≠ 3 → (mbs (mrd xs)).getD i 0 = xs.getD i 0 := by
  obtain ⟨h1, _, h3, _⟩ := mrc_ok h
  obtain ⟨s, e⟩ := mbs_eq (mrd xs)
  rw [body_rd hb h] at e
  have hk : (32 : Int) + (mrd xs).k = xs.getD 0 0 := by show 32 + rkind xs = _; unfold rkind; omega
  have e2 := cut4 h1
  rw [hk] at e
  rw [h3] at e2
  rw [e]
  refine ⟨by simp; omega, fun i i2 i3 => ?_⟩
  match i, i2, i3 with
  | 0, _, _ => rfl
  | 1, _, _ => rw [h3]; rfl
  | j + 4, _, _ => simp [List.getD]; congr 2; omega
theorem mbs_inj {m n : Ms} (hm : wfm m) (hn : wfm n) (cm : mcode m = 0) (cn : mcode n = 0) (h : mbs m = mbs n) : m = n := by
  obtain ⟨_, _, h1, _⟩ := mback hm cm []
  obtain ⟨_, _, h2, _⟩ := mback hn cn []
  rw [h] at h1
  exact h1.symm.trans h2
theorem sameB_eq {m n : Ms} : sameB m n = true ↔ m = n := by
  obtain ⟨k, f, t, s, g, r, c, o, l⟩ := m
  obtain ⟨k', f', t', s', g', r', c', o', l'⟩ := n
  simp [sameB, Ms.mk.injEq, and_assoc]
end Sm
end Go.Proofs.YtdljpokhcfhhfaaGreatDoor
namespace Go.Proofs.YtdljpokhcfhhfaaGreatDoor
open Go.RowKit Sm
section
variable {w w' : World} {A : Option Addr} {n : Nat} {xs : List Int}

end
end Go.Proofs.YtdljpokhcfhhfaaGreatDoor


