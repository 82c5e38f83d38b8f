/- Plain facts of a light network's tables: whose ports and members are where, how many there are in all, that each address is one port's. No program's function is walked. -/
import Derived.Test.YtdljpokhcfhhfaaGreatDoorTn
import Derived.Test.YtdljpokhcfhhfaaGreatDoorLt
namespace Go.Proofs.YtdljpokhcfhhfaaGreatDoor
open Go.RowKit Lx Sm Go.Maps
theorem picks_rises {α : Type} {p : α → Bool} {xs : List α} : ∀ n : Nat, (picks p xs n).Pairwise (· < ·) ∧ ∀ q ∈ picks p xs n, q < (n : Int)
  | 0 => ⟨List.Pairwise.nil, fun q h => by cases h⟩
  | n + 1 => by
    obtain ⟨h1, h2⟩ := picks_rises (p := p) (xs := xs) n
    have key : ∀ l : List Int, (l = [] ∨ l = [(n : Int)]) → (picks p xs n ++ l).Pairwise (· < ·) ∧ ∀ q ∈ picks p xs n ++ l, q < ((n + 1 : Nat) : Int) := fun l hl => by
      rcases hl with rfl | rfl
      · rw [List.append_nil]
        exact ⟨h1, fun q hq => by have := h2 q hq; omega⟩
      · refine ⟨List.pairwise_append.2 ⟨h1, List.pairwise_singleton _ _, fun a ha b hb => ?_⟩, fun q hq => ?_⟩
        · simp only [List.mem_singleton] at hb
          rw [hb]; exact h2 a ha
        · rcases List.mem_append.1 hq with hq | hq
          · have := h2 q hq; omega
          · simp only [List.mem_singleton] at hq; omega
    unfold picks
    refine key _ ?_
    cases xs[n]? with
    | none => exact .inl rfl
    | some y => dsimp only; split <;> simp
/-- the sum of the first so many -/
def sumN (f : Nat → Nat) : Nat → Nat
  | 0 => 0
  | n + 1 => sumN f n + f n
theorem sumN_zero : ∀ n, sumN (fun _ => 0) n = 0
  | 0 => rfl
  | n + 1 => by simp [sumN, sumN_zero n]
theorem sumN_ext {f g : Nat → Nat} : ∀ n, (∀ i, i < n → f i = g i) → sumN f n = sumN g n
  | 0, _ => rfl
  | n + 1, h => by
    show sumN f n + f n = sumN g n + g n
    rw [sumN_ext n (fun i hi => h i (by omega)), h n (by omega)]
theorem sumN_le (f : Nat → Nat) (m : Nat) (h : ∀ i, f i ≤ m) : ∀ n, sumN f n ≤ n * m
  | 0 => Nat.zero_le _
  | n + 1 => by
    have := sumN_le f m h n
    have := h n
    show sumN f n + f n ≤ _
    rw [Nat.succ_mul]; omega
theorem grpL_u {w : World} {M : Cm} {x : Cfg} (h : CW w M x) : ∀ a ∈ grpL x, U32 a := by
  intro a ha
  unfold grpL at ha
  rw [List.mem_append, List.mem_map, List.mem_map] at ha
  rcases ha with ⟨y, hy, rfl⟩ | ⟨y, hy, rfl⟩
  · exact (h.ok.2.2.2.2.1 y hy).2
  · exact h.ok.2.2.2.2.2 y hy
theorem pred_up {j : Nat} (h : 0 < j) : ∃ jp : Nat, (j : Int) - 1 = (jp : Int) ∧ jp + 1 = j := ⟨j - 1, by omega, by omega⟩
theorem sumN_more {f g : Nat → Nat} {a : Nat} : ∀ n, (∀ i, g i = f i + if i = a then 1 else 0) → sumN g n = sumN f n + if a < n then 1 else 0
  | 0, _ => rfl
  | n + 1, h => by
    show sumN g n + g n = sumN f n + f n + _
    rw [sumN_more n h, h n]
    rcases Nat.lt_trichotomy a n with h1 | h1 | h1
    · rw [if_pos h1, if_neg (by omega), if_pos (by omega)]; omega
    · subst h1
      rw [if_neg (by omega), if_pos rfl, if_pos (by omega)]; omega
    · rw [if_neg (by omega), if_neg (by omega), if_neg (by omega)]; omega
/-- each item is in just one row: so many in all -/
theorem picks_sum {α : Type} (key : α → Int) (xs : List α) (L : Nat) (h : ∀ y ∈ xs, 0 ≤ key y ∧ key y < (L : Int)) : ∀ n, n ≤ xs.length → sumN (fun i => (picks (fun y => key y == (i : Int)) xs n).length) L = n
  | 0, _ => (sumN_ext L fun i _ => rfl).trans (sumN_zero L)
  | n + 1, hn => by
    have hx : xs[n]? = some xs[n] := List.getElem?_eq_getElem (by omega)
    have hk := h _ (List.getElem_mem (show n < xs.length by omega))
    have hs := sumN_more (a := (key xs[n]).toNat) L (f := fun i => (picks (fun y => key y == (i : Int)) xs n).length) (g := fun i => (picks (fun y => key y == (i : Int)) xs (n + 1)).length) (fun i => by
      by_cases e : key xs[n] = (i : Int)
      · rw [picks_yes (p := fun y => key y == (i : Int)) hx (by simpa using e), if_pos (by omega)]; simp
      · rw [picks_no (p := fun y => key y == (i : Int)) hx (by simpa using e), if_neg (by omega)]; simp)
    rw [hs, picks_sum key xs L h n (by omega), if_pos (by omega)]
theorem oth_get {ps : List (Int × Int × Int)} {r l : Int} {j : Nat} : ((j : Int) ∈ oth ps r l) ↔ ∃ y, ps[j]? = some y ∧ y.2.1 = l ∧ y.1 ≠ r := by
  unfold oth isO
  rw [List.mem_filter, picks_get, Int.toNat_natCast]
  constructor
  · rintro ⟨⟨hj, y, hy, hp⟩, hq⟩
    rw [hy] at hq
    exact ⟨y, hy, by simpa using hp, by simpa using hq⟩
  · rintro ⟨y, hy, hp, hq⟩
    rw [hy]
    exact ⟨⟨(List.getElem?_eq_some_iff.1 hy).1, y, rfl, by simpa using hp⟩, by simpa using hq⟩
theorem any_take1 {α : Type} {p : α → Bool} {xs : List α} {k : Nat} {y : α} (h : xs[k]? = some y) : (xs.take (k + 1)).any p = ((xs.take k).any p || p y) := by
  rw [List.take_add_one, h, List.any_append]; simp
theorem any_full {α : Type} {p : α → Bool} {xs : List α} {n : Nat} (h : xs.length = n) : (xs.take n).any p = xs.any p := by rw [← h, List.take_length]
/-- a group is a network's just if a source sends to it, or a member listens to it -/
theorem grp_has (x : Cfg) (g : Int) : (groupsL (grpL x)).contains g = (x.ss.any (fun y => y.2.2 == g) || x.ms.any (fun y => y.g == g)) := by
  rw [Bool.eq_iff_iff, List.contains_iff_mem, grp_mem, Bool.or_eq_true, List.any_eq_true, List.any_eq_true]
  unfold grpL
  rw [List.mem_append, List.mem_map, List.mem_map]
  simp only [beq_iff_eq]
/-- a link's ports, a router's ports, a link's members -/
def rowO (x : Cfg) (p : Int) : List Int := rowIn (tabs x x.ps.length x.ps.length x.ms.length 0) x.ls.length p
def rowM (x : Cfg) (p : Int) : List Int := rowIn (tabs x x.ps.length x.ps.length x.ms.length 2) x.ls.length p
theorem rowO_at {x : Cfg} {p : Int} (h0 : 0 ≤ p) (h1 : p < x.ls.length) : rowO x p = picks (fun y => y.2.1 == p) x.ps x.ps.length := by
  unfold rowO rowIn
  rw [if_pos ⟨h0, h1⟩]
  show picks (fun y => y.2.1 == (p.toNat : Int)) x.ps x.ps.length = _
  rw [Int.toNat_of_nonneg h0]
theorem rowM_at {x : Cfg} {p : Int} (h0 : 0 ≤ p) (h1 : p < x.ls.length) : rowM x p = picks (fun y => y.l == p) x.ms x.ms.length := by
  unfold rowM rowIn
  rw [if_pos ⟨h0, h1⟩]
  show picks (fun y => y.l == (p.toNat : Int)) x.ms x.ms.length = _
  rw [Int.toNat_of_nonneg h0]
theorem rowO_le (x : Cfg) (p : Int) : (rowO x p).length ≤ x.ps.length := by
  by_cases h : 0 ≤ p ∧ p < (x.ls.length : Int)
  · rw [rowO_at h.1 h.2]; exact picks_le _
  · unfold rowO; rw [rowIn_out h]; exact Nat.zero_le _
theorem rowM_le (x : Cfg) (p : Int) : (rowM x p).length ≤ x.ms.length := by
  by_cases h : 0 ≤ p ∧ p < (x.ls.length : Int)
  · rw [rowM_at h.1 h.2]; exact picks_le _
  · unfold rowM; rw [rowIn_out h]; exact Nat.zero_le _
theorem rowO_alike {x x' : Cfg} (h : Alike x x') (p : Int) : rowO x' p = rowO x p := by
  unfold rowO; rw [alike_tabs h, h.p, h.l, alike_ms h]
theorem rowM_alike {x x' : Cfg} (h : Alike x x') (p : Int) : rowM x' p = rowM x p := by
  unfold rowM; rw [alike_tabs h, h.p, h.l, alike_ms h]
theorem rowM_sum {x : Cfg} (h : ∀ y ∈ x.ms, 0 ≤ y.l ∧ y.l < x.ls.length) : sumN (fun i => (rowM x (i : Int)).length) x.ls.length = x.ms.length :=
  (sumN_ext _ fun i hi => by rw [rowM_at (by omega) (by omega)]).trans (picks_sum (fun y : Mb => y.l) x.ms x.ls.length h _ (Nat.le_refl _))
theorem rowO_sum {x : Cfg} (h : ∀ y ∈ x.ps, 0 ≤ y.1 ∧ y.1 < x.rs.length ∧ 0 ≤ y.2.1 ∧ y.2.1 < x.ls.length) : sumN (fun i => (rowO x (i : Int)).length) x.ls.length = x.ps.length :=
  (sumN_ext _ fun i hi => by rw [rowO_at (by omega) (by omega)]).trans (picks_sum (fun y : Int × Int × Int => y.2.1) x.ps x.ls.length (fun y hy => (h y hy).2.2) _ (Nat.le_refl _))
theorem rowF_sum {x : Cfg} (h : ∀ y ∈ x.ps, 0 ≤ y.1 ∧ y.1 < x.rs.length ∧ 0 ≤ y.2.1 ∧ y.2.1 < x.ls.length) : sumN (fun i => (rowF x (i : Int)).length) x.rs.length = x.ps.length :=
  (sumN_ext _ fun i hi => by rw [rowF_at (by omega) (by omega)]).trans (picks_sum (fun y : Int × Int × Int => y.1) x.ps x.rs.length (fun y hy => ⟨(h y hy).1, (h y hy).2.1⟩) _ (Nat.le_refl _))
section
variable {b : Nat} {T : TP} {x x' : Cfg} {gs : List Int}
theorem on_al (p : Int) (w : World) (h : TW w b T x' gs) (k : Alike x x') :
    Calls Tryz.prog 76 #[.pointer (some ⟨T.N, 0, none⟩), .int .i64 p] w fun e w' => ∃ A c, e = .returned (.slice A (rowO x p).length c) ∧ JR w' A (rowO x p).length (rowO x p) ∧ Below w.heap.size w w' := by
  rw [← rowO_alike k p]; exact ton_any p w h
theorem at_al (a : Int) (ha : U32 a) (w : World) (h : TW w b T x' gs) (k : Alike x x') :
    Calls Tryz.prog 54 #[.pointer (some ⟨T.N, 0, none⟩), .int .u32 a] w fun e w' => e = .returned (.tuple #[.int .i64 (((lastAt a x.ps x.ps.length).getD 0 : Nat) : Int), .bool (lastAt a x.ps x.ps.length).isSome]) ∧ Below w.heap.size w w' := by
  have := tat_any a ha w h
  rw [k.p] at this
  exact this
end
end Go.Proofs.YtdljpokhcfhhfaaGreatDoor


