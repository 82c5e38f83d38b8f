/- Plain arithmetic of 16-bit sums over lists of bytes: totals by two, what is left when the carry is added again, where a sum is put. No program is imported. A slice of bytes that reads as a list of numbers, nil let in; what the call owns reads so. No program is imported. Plain headers of packets: their bytes, what bytes say as one. No program is imported. Plain messages: which may be, their bytes, what bytes say as one. No program is imported. A slice of addresses that reads as a list of numbers, nil let in; what the call owns reads so. No program is imported. -/
import Derived.WalkKit
import Derived.Laws.BitsAllLaws
import Derived.Test.YtdljpokhcfhhfaaGreatDoorKit
import Derived.Maps.AppendAt
import Derived.Deep.AppendLies
import Derived.OwnWalk
namespace Go.Proofs.YtdljpokhcfhhfaaGreatDoor
namespace Sm
def IsB (xs : List Int) : Prop := ∀ x ∈ xs, 0 ≤ x ∧ x ≤ 255
def tot : List Int → Int
  | [] => 0
  | [a] => a * 256
  | a :: b :: r => a * 256 + b + tot r
def oc (t : Int) : Int := if t = 0 then 0 else (t - 1) % 65535 + 1
def sum (xs : List Int) : Int := 65535 - oc (tot xs)
def place (n : Nat) (at_ : Int) : Bool := decide (0 ≤ at_ ∧ at_ % 2 = 0 ∧ at_ ≤ (n : Int) - 2)
def zero2 (xs : List Int) (i : Nat) : List Int := (xs.set i 0).set (i + 1) 0
def put2 (xs : List Int) (i : Nat) (s : Int) : List Int := (xs.set i (s / 256)).set (i + 1) (s % 256)
def put (xs : List Int) (at_ : Int) : List Int :=
  if place xs.length at_ then put2 (zero2 xs at_.toNat) at_.toNat (sum (zero2 xs at_.toNat)) else xs

theorem IsB.at_ {xs : List Int} (h : IsB xs) (i : Nat) : 0 ≤ xs.getD i 0 ∧ xs.getD i 0 ≤ 255 := by
  rw [List.getD_eq_getElem?_getD]
  cases hx : xs[i]? with
  | none => simp
  | some x => exact h x (List.mem_of_getElem? hx)
theorem IsB.tail {a : Int} {xs : List Int} (h : IsB (a :: xs)) : IsB xs := fun x hx => h x (List.mem_cons_of_mem _ hx)
theorem IsB.take {xs : List Int} (h : IsB xs) (k : Nat) : IsB (xs.take k) := fun x hx => h x (List.mem_of_mem_take hx)
theorem IsB.drop {xs : List Int} (h : IsB xs) (k : Nat) : IsB (xs.drop k) := fun x hx => h x (List.mem_of_mem_drop hx)
theorem IsB.append {xs ys : List Int} (h : IsB xs) (g : IsB ys) : IsB (xs ++ ys) := fun x hx => by
  rcases List.mem_append.1 hx with h1 | h1
  · exact h x h1
  · exact g x h1
theorem IsB.set {xs : List Int} (h : IsB xs) (i : Nat) {v : Int} (h0 : 0 ≤ v) (h1 : v ≤ 255) : IsB (xs.set i v) := fun x hx => by
  rcases List.mem_or_eq_of_mem_set hx with h2 | rfl
  · exact h x h2
  · exact ⟨h0, h1⟩
theorem tot_bd : ∀ {xs : List Int}, IsB xs → 0 ≤ tot xs ∧ tot xs ≤ 65535 * (xs.length : Int)
  | [], _ => by simp [tot]
  | [a], h => by
    have := h a (by simp)
    simp [tot]; omega
  | a :: b :: r, h => by
    have h1 := h a (by simp)
    have h2 := h b (by simp)
    have h3 := tot_bd (xs := r) h.tail.tail
    simp only [tot, List.length_cons]
    omega
theorem tot_set : ∀ (xs : List Int) (i : Nat) (v : Int), i < xs.length → tot (xs.set i v) = tot xs + (v - xs.getD i 0) * (if i % 2 = 0 then 256 else 1)
  | [], i, v, h => by simp at h
  | [a], i, v, h => by
    obtain rfl : i = 0 := by simpa using h
    simp [tot]; omega
  | a :: b :: r, 0, v, _ => by simp [tot]; omega
  | a :: b :: r, 1, v, _ => by simp [tot]; omega
  | a :: b :: r, i + 2, v, h => by
    have h3 := tot_set r i v (by simpa using h)
    simp only [List.set_cons_succ, tot, h3, List.getD_cons_succ, Nat.add_mod_right]
    omega
theorem getD_set_self {xs : List Int} {i : Nat} (v : Int) (h : i < xs.length) : (xs.set i v).getD i 0 = v := by simp [List.getD, h]
theorem getD_set_ne {xs : List Int} {i j : Nat} (v : Int) (h : i ≠ j) : (xs.set i v).getD j 0 = xs.getD j 0 := by simp [List.getD, List.getElem?_set_ne h]
/-- One bit turned. -/
theorem xor_bit : ∀ (o : Fin 256) (j : Fin 8), (bits .xor .u8 (o.val : Int) (2 ^ j.val) = o.val + 2 ^ j.val ∨ bits .xor .u8 (o.val : Int) (2 ^ j.val) = o.val - 2 ^ j.val) ∧
    bits .xor .u8 (bits .xor .u8 (o.val : Int) (2 ^ j.val)) (2 ^ j.val) = o.val ∧ 0 ≤ bits .xor .u8 (o.val : Int) (2 ^ j.val) ∧ bits .xor .u8 (o.val : Int) (2 ^ j.val) ≤ 255 := by decide +kernel
theorem two8 : ∀ j : Fin 8, (2 : Int) ^ j.val = 1 ∨ (2 : Int) ^ j.val = 2 ∨ (2 : Int) ^ j.val = 4 ∨ (2 : Int) ^ j.val = 8 ∨ (2 : Int) ^ j.val = 16 ∨ (2 : Int) ^ j.val = 32 ∨ (2 : Int) ^ j.val = 64 ∨ (2 : Int) ^ j.val = 128 := by decide
theorem turned {xs : List Int} (hb : IsB xs) (ho : oc (tot xs) = 65535) {i : Nat} (hi : i < xs.length) {j : Nat} (hj : j < 8) : oc (tot (xs.set i (bits .xor .u8 (xs.getD i 0) (2 ^ j)))) ≠ 65535 := by
  obtain ⟨h0, h1⟩ := hb.at_ i
  obtain ⟨o, ho'⟩ := Int.eq_ofNat_of_zero_le h0
  obtain ⟨hx, _, hy0, hy1⟩ := xor_bit ⟨o, by omega⟩ ⟨j, hj⟩
  simp only at hx hy0 hy1
  have ht := tot_bd (hb.set i hy0 hy1)
  have h2 := two8 ⟨j, hj⟩
  simp only at h2
  have e := tot_set xs i (bits .xor .u8 (o : Int) (2 ^ j)) hi
  rw [ho'] at e ⊢
  have ht0 := ht.1
  have hs := (tot_bd hb).1
  rw [e] at ht0 ⊢
  generalize tot xs = T at *
  generalize bits .xor .u8 (o : Int) (2 ^ j) = V at *
  generalize (2 : Int) ^ j = p at *
  have hd : ∃ d : Int, (V - o) * (if i % 2 = 0 then (256 : Int) else 1) = d ∧ -32768 ≤ d ∧ d ≤ 32768 ∧ d ≠ 0 := by
    refine ⟨_, rfl, ?_, ?_, ?_⟩ <;> split <;> omega
  obtain ⟨d, hd, hd1, hd2, hd3⟩ := hd
  rw [hd] at ht0 ⊢
  unfold oc at *
  split at ho <;> split <;> omega
theorem back {xs : List Int} (hb : IsB xs) {i : Nat} (hi : i < xs.length) {j : Nat} (hj : j < 8) :
    (xs.set i (bits .xor .u8 (xs.getD i 0) (2 ^ j))).set i (bits .xor .u8 ((xs.set i (bits .xor .u8 (xs.getD i 0) (2 ^ j))).getD i 0) (2 ^ j)) = xs := by
  obtain ⟨h0, h1⟩ := hb.at_ i
  obtain ⟨o, ho'⟩ := Int.eq_ofNat_of_zero_le h0
  obtain ⟨_, hx, _, _⟩ := xor_bit ⟨o, by omega⟩ ⟨j, hj⟩
  simp only at hx
  rw [getD_set_self _ hi, List.set_set, ho']
  show xs.set i (bits .xor .u8 (bits .xor .u8 (o : Int) (2 ^ j)) (2 ^ j)) = xs
  rw [hx]
  have : xs[i] = (o : Int) := by
    have e : xs.getD i 0 = xs[i] := by simp [List.getD, List.getElem?_eq_getElem hi]
    rw [← e, ho']
  rw [← this, List.set_getElem_self]
end Sm
end Go.Proofs.YtdljpokhcfhhfaaGreatDoor
namespace Go.Proofs.YtdljpokhcfhhfaaGreatDoor
open Go.RowKit Sm

def BR (w : World) (A : Option Addr) (n : Nat) (xs : List Int) : Prop :=
  xs.length = n ∧ IsB xs ∧ (0 < n → ∃ b o, A = some ⟨b, o, none⟩ ∧ b < w.heap.size ∧ ∀ i, i < n → w.cell? ⟨b, o + i, none⟩ = some (.int .u8 (xs.getD i 0)))
section
variable {w w' : World} {A : Option Addr} {n : Nat} {xs : List Int}
theorem BR.none_ (w : World) (A : Option Addr) : BR w A 0 [] := ⟨rfl, (fun _ h => by cases h), fun h => absurd h (by omega)⟩
theorem BR.len (h : BR w A n xs) : xs.length = n := h.1
theorem BR.next (h : BR w A n xs) (hb : Below w.heap.size w w') : BR w' A n xs :=
  ⟨h.1, h.2.1, fun hn => by
    obtain ⟨b, o, e, hlt, hc⟩ := h.2.2 hn
    exact ⟨b, o, e, Nat.lt_of_lt_of_le hlt hb.size, fun i hi => (hb.cell (p := ⟨b, o + i, none⟩) hlt).trans (hc i hi)⟩⟩
theorem BR.at_ {k : Nat} (h : BR w A n xs) (hk : k < n) : ∃ b o, A = some ⟨b, o, none⟩ ∧ b < w.heap.size ∧ w.cell? ⟨b, o + k, none⟩ = some (.int .u8 (xs.getD k 0)) := by
  obtain ⟨b, o, e, hlt, hc⟩ := h.2.2 (by omega)
  exact ⟨b, o, e, hlt, hc k hk⟩
theorem own_next {base : Nat} {e : TypeId} {v : Value} {ys : List Value} (h : w.ownsRow base e 1 v n ys) (hb : Below w.heap.size w w') : w'.ownsRow base e 1 v n ys := by
  refine ⟨h.1, ?_⟩
  rcases h.2 with hn | ⟨g, cap, cur, rfl, hbg, hh, rest⟩
  · exact .inl hn
  · exact .inr ⟨g, cap, cur, rfl, hbg, (hb.block g (Array.getElem?_eq_some_iff.1 hh).1).trans hh, rest⟩
theorem below_next {w1 w2 : World} (h : Below w.heap.size w w1) (g : Below w1.heap.size w1 w2) : Below w.heap.size w w2 := h.trans (g.mono h.size)
end
end Go.Proofs.YtdljpokhcfhhfaaGreatDoor
namespace Go.Proofs.YtdljpokhcfhhfaaGreatDoor
namespace Sm

def hdr (l i t p f o : Int) : List Int := [69, 0, l / 256, l % 256, i / 256, i % 256, 0, 0, t, p, 0, 0, f / 16777216, f / 65536 % 256, f / 256 % 256, f % 256, o / 16777216, o / 65536 % 256, o / 256 % 256, o % 256]
def isA (f : Int) : Prop := 0 ≤ f ∧ f ≤ 4294967295
def hbs (l i t p f o : Int) : List Int := put (hdr l i t p f o) 10
def rsh (xs : List Int) : Bool := decide (xs.getD 0 0 = 69 ∧ xs.getD 1 0 = 0 ∧ xs.getD 6 0 = 0 ∧ xs.getD 7 0 = 0)
def rn (xs : List Int) (k : Nat) : Int := xs.getD k 0 * 256 + xs.getD (k + 1) 0
def ra (xs : List Int) (k : Nat) : Int := xs.getD k 0 * 16777216 + xs.getD (k + 1) 0 * 65536 + xs.getD (k + 2) 0 * 256 + xs.getD (k + 3) 0
def rcode (xs : List Int) : Int :=
  if xs.length < 20 then 101 else if rsh xs = false then 102 else if oc (tot (xs.take 20)) ≠ 65535 then 105 else if rn xs 2 < 20 then 103 else 0
end Sm

def hv (l i t p f o : Int) : Value := .agg #[.int .i64 l, .int .i64 i, .int .i64 t, .int .i64 p, .int .u32 f, .int .u32 o]
def rv (xs : List Int) : Value := if Sm.rcode xs = 0 then hv (Sm.rn xs 2) (Sm.rn xs 4) (xs.getD 8 0) (xs.getD 9 0) (Sm.ra xs 12) (Sm.ra xs 16) else hv 0 0 0 0 0 0
end Go.Proofs.YtdljpokhcfhhfaaGreatDoor
namespace Go.Proofs.YtdljpokhcfhhfaaGreatDoor
structure Ms where
  k : Int
  f : Int
  t : Int
  s : Int
  g : Int
  r : Int
  c : Int
  o : Bool
  l : List Int
namespace Sm
def b4 (a : Int) : List Int := [a / 16777216, a / 65536 % 256, a / 256 % 256, a % 256]
def b2 (n : Int) : List Int := [n / 256, n % 256]
def flat : List Int → List Int
  | [] => []
  | a :: r => b4 a ++ flat r
def IsAs (l : List Int) : Prop := ∀ x ∈ l, isA x
def kOk (k : Int) : Bool := decide (1 ≤ k ∧ k ≤ 5)
def cOk (n : Int) : Bool := decide (0 ≤ n ∧ n ≤ 65535)
def gOk (a : Int) : Bool := decide (a / 268435456 = 14)
def owned (m : Ms) : Ms := ⟨m.k, m.f, if m.k = 2 then m.t else 0, if m.k = 2 ∨ m.k = 3 then m.s else 0, if 2 ≤ m.k ∧ m.k ≤ 5 then m.g else 0, if m.k = 1 then m.r else 0, if m.k = 3 then m.c else 0, if m.k = 4 then m.o else false, if m.k = 4 then m.l else []⟩
def sameB (m n : Ms) : Bool := decide (m.k = n.k ∧ m.f = n.f ∧ m.t = n.t ∧ (m.s = n.s ∧ m.g = n.g) ∧ m.r = n.r ∧ m.c = n.c ∧ m.o = n.o ∧ m.l = n.l)
def mcode (m : Ms) : Int :=
  if kOk m.k = false then 113 else if 4 < m.l.length then 104
  else if (cOk m.r && (cOk m.c && ((m.k == 1) || gOk m.g))) = true ∧ sameB m (owned m) = true then 0 else 103
def body (m : Ms) : List Int :=
  if m.k = 1 then b2 m.r else if m.k = 2 then b4 m.t ++ (b4 m.s ++ b4 m.g) else if m.k = 3 then b4 m.s ++ (b4 m.g ++ b2 m.c)
  else if m.k = 4 then b4 m.g ++ ([if m.o then 1 else 0, (m.l.length : Int)] ++ flat m.l) else b4 m.g
theorem b4_len (a : Int) : (b4 a).length = 4 := rfl
theorem flat_len : ∀ l : List Int, (flat l).length = 4 * l.length
  | [] => rfl
  | a :: r => by simp [flat, b4_len, flat_len r]; omega
theorem IsB.cons {a : Int} {xs : List Int} (h0 : 0 ≤ a) (h1 : a ≤ 255) (h : IsB xs) : IsB (a :: xs) := fun x hx => by
  rcases List.mem_cons.1 hx with rfl | hx
  · exact ⟨h0, h1⟩
  · exact h x hx
end Sm
end Go.Proofs.YtdljpokhcfhhfaaGreatDoor
namespace Go.Proofs.YtdljpokhcfhhfaaGreatDoor
open Go.RowKit Sm

def A32 (xs : List Int) : List Value := xs.map (Value.int .u32)
theorem A32_len (xs : List Int) : (A32 xs).length = xs.length := by simp [A32]
theorem A32_app (xs ys : List Int) : A32 (xs ++ ys) = A32 xs ++ A32 ys := by simp [A32]
theorem A32_set (xs : List Int) (i : Nat) (v : Int) : A32 (xs.set i v) = (A32 xs).set i (.int .u32 v) := by simp [A32, List.map_set]
theorem A32_one (xs : List Int) : ∀ u ∈ A32 xs, u.oneCell' = true := by
  intro u hu; obtain ⟨x, _, rfl⟩ := List.mem_map.1 hu; rfl
theorem A32_at {xs : List Int} {i : Nat} (h : i < xs.length) : (A32 xs)[i]? = some (.int .u32 (xs.getD i 0)) := by
  simp [A32, List.getD, List.getElem?_eq_getElem h]
def AR (w : World) (A : Option Addr) (n : Nat) (xs : List Int) : Prop :=
  xs.length = n ∧ IsAs xs ∧ (0 < n → ∃ b o, A = some ⟨b, o, none⟩ ∧ b < w.heap.size ∧ ∀ i, i < n → w.cell? ⟨b, o + i, none⟩ = some (.int .u32 (xs.getD i 0)))
section
variable {w w' : World} {A : Option Addr} {n : Nat} {xs : List Int}
theorem AR.none_ (w : World) (A : Option Addr) : AR w A 0 [] := ⟨rfl, (fun _ h => by cases h), fun h => absurd h (by omega)⟩
theorem AR.len (h : AR w A n xs) : xs.length = n := h.1
theorem AR.isAs (h : AR w A n xs) : IsAs xs := h.2.1
theorem AR.next (h : AR w A n xs) (hb : Below w.heap.size w w') : AR w' A n xs :=
  ⟨h.1, h.2.1, fun hn => by
    obtain ⟨b, o, e, hlt, hc⟩ := h.2.2 hn
    exact ⟨b, o, e, Nat.lt_of_lt_of_le hlt hb.size, fun i hi => (hb.cell (p := ⟨b, o + i, none⟩) hlt).trans (hc i hi)⟩⟩
theorem AR.at_ {k : Nat} (h : AR w A n xs) (hk : k < n) : ∃ b o, A = some ⟨b, o, none⟩ ∧ b < w.heap.size ∧ w.cell? ⟨b, o + k, none⟩ = some (.int .u32 (xs.getD k 0)) := by
  obtain ⟨b, o, e, hlt, hc⟩ := h.2.2 (by omega)
  exact ⟨b, o, e, hlt, hc k hk⟩
/-- Owned by the call: the slice's form, and what it reads as. -/
theorem own_forma {base : Nat} {e : TypeId} {v : Value} (h : w.ownsRow base e 1 v n (A32 xs)) (hb : IsAs xs) :
    ∃ A c, v = .slice A n c ∧ n ≤ c ∧ AR w A n xs ∧ (0 < n → ∃ g, A = some ⟨g, 0, none⟩ ∧ base ≤ g ∧ g < w.heap.size) := by
  have hl : xs.length = n := by have := h.1; rw [A32_len] at this; omega
  have h0 := h
  rcases h.2 with ⟨rfl, rfl⟩ | ⟨g, cap, cur, rfl, hbg, hh, hnc, _⟩
  · obtain rfl : xs = [] := List.eq_nil_of_length_eq_zero hl
    exact ⟨none, 0, rfl, Nat.le_refl _, AR.none_ _ _, fun h => absurd h (by omega)⟩
  · have hlt : g < w.heap.size := (Array.getElem?_eq_some_iff.1 hh).1
    refine ⟨_, cap, rfl, hnc, ⟨hl, hb, fun _ => ⟨g, 0, rfl, hlt, fun i hi => ?_⟩⟩, fun _ => ⟨g, rfl, hbg, hlt⟩⟩
    rw [Nat.zero_add, h0.cellAt i (by omega)]
    exact A32_at (by omega)
/-- A store into what the call owns: what it owns behind it. -/
theorem own_seta {base : Nat} {e : TypeId} {g cap : Nat} (h : w.ownsRow base e 1 (.slice (some ⟨g, 0, none⟩) n cap) n (A32 xs)) (i : Nat) (v : Int) :
    (w.setCell ⟨g, i, none⟩ (.int .u32 v)).ownsRow base e 1 (.slice (some ⟨g, 0, none⟩) n cap) n (A32 (xs.set i v)) := by
  rw [A32_set]
  exact (h.stored i (.int .u32 v)).1
end
end Go.Proofs.YtdljpokhcfhhfaaGreatDoor

