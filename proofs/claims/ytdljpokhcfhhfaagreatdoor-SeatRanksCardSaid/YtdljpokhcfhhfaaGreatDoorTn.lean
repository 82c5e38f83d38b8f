/- Plain facts of a light network's tables: whose ports and members are where, how many there are in all, that each address is one port's. No program's function is walked. -/
import Derived.Test.YtdljpokhcfhhfaaGreatDoorLt
namespace Go.Proofs.YtdljpokhcfhhfaaGreatDoor
open Go.RowKit Lx Sm Go.Maps
theorem picks_get {α : Type} {p : α → Bool} {xs : List α} {j : Nat} : ∀ {n : Nat}, ((j : Int) ∈ picks p xs n) ↔ j < n ∧ ∃ y, xs[j]? = some y ∧ p y = true
  | 0 => by simp [picks]
  | n + 1 => by
    unfold picks
    rw [List.mem_append, picks_get (n := n)]
    constructor
    · rintro (⟨h, hy⟩ | h)
      · exact ⟨by omega, hy⟩
      · cases hx : xs[n]? with
        | none => rw [hx] at h; cases h
        | some y =>
          rw [hx] at h
          dsimp only at h
          split at h
          · simp only [List.mem_singleton] at h
            have : j = n := by omega
            subst this
            exact ⟨by omega, y, hx, by assumption⟩
          · cases h
    · rintro ⟨h, y, hy, hp⟩
      rcases Nat.lt_or_ge j n with hlt | hge
      · exact .inl ⟨hlt, y, hy, hp⟩
      · obtain rfl : j = n := by omega
        rw [hy]
        simp [hp]
theorem AR.of_ir {w : World} {A : Option Addr} {n : Nat} {xs : List Int} (h : IR CAddr 1 w A n xs) (hu : ∀ a ∈ xs, U32 a) : AR w A n xs := by
  refine ⟨h.len, fun a ha => hu a ha, fun hp => ?_⟩
  obtain ⟨b, o, y, e, hl, _, _⟩ := h.at_ hp
  refine ⟨b, o, e, hl, fun i hi => ?_⟩
  obtain ⟨b', o', y', e', _, hx, hc⟩ := h.at_ hi
  rw [e] at e'
  cases e'
  have := hc 0 _ rfl
  rw [List.getD_eq_getElem?_getD, hx]
  simpa using this
theorem picks_le {α : Type} {p : α → Bool} {xs : List α} : ∀ n, (picks p xs n).length ≤ n
  | 0 => Nat.le_refl _
  | n + 1 => by
    have ih := picks_le (p := p) (xs := xs) n
    cases hx : xs[n]? with
    | none =>
      show (picks p xs n ++ _).length ≤ _
      rw [hx, List.length_append]
      simp; omega
    | some y =>
      cases hp : p y with
      | true => rw [picks_yes hx hp]; simp; omega
      | false => rw [picks_no hx hp]; omega
theorem oth_le {ps : List (Int × Int × Int)} {r l : Int} : (oth ps r l).length ≤ ps.length := by
  unfold oth
  refine Nat.le_trans (List.length_filter_le _ _) ?_
  exact picks_le _
/-- no two ports have one address -/
theorem ps_apart {x : Cfg} (h : vcode x = 0) {i j : Nat} {y z : Int × Int × Int} (hi : x.ps[i]? = some y) (hj : x.ps[j]? = some z) (he : y.2.2 = z.2.2) : i = j := by
  have key : ∀ (i j : Nat) (y z : Int × Int × Int), x.ps[i]? = some y → x.ps[j]? = some z → y.2.2 = z.2.2 → ¬ i < j := fun i j y z hi hj he hlt => by
    have hv := (v_parts h).2.2.1
    have := fec_all _ _ hv j (Nat.zero_le _) (by have := (List.getElem?_eq_some_iff.1 hj).1; omega)
    rw [atC_at hj] at this
    unfold pcode at this
    split at this
    · cases this
    · split at this
      · cases this
      · split at this
        · cases this
        · split at this
          · cases this
          · rename_i hn
            refine hn (List.any_eq_true.2 ⟨y, List.mem_of_getElem? (i := i) ?_, by simp [he]⟩)
            rw [List.getElem?_take_of_lt hlt]; exact hi
  rcases Nat.lt_trichotomy i j with h1 | h1 | h1
  · exact absurd h1 (key i j y z hi hj he)
  · exact h1
  · exact absurd h1 (key j i z y hj hi he.symm)
theorem lastAt_some {a : Int} {ps : List (Int × Int × Int)} : ∀ {k o : Nat}, lastAt a ps k = some o → o < k ∧ ∃ y, ps[o]? = some y ∧ y.2.2 = a
  | 0, o, h => by cases h
  | k + 1, o, h => by
    unfold lastAt at h
    cases hp : ps[k]? with
    | none => rw [hp] at h; have := lastAt_some h; exact ⟨by omega, this.2⟩
    | some p =>
      rw [hp] at h
      dsimp only at h
      split at h
      · cases h; exact ⟨by omega, p, hp, by assumption⟩
      · have := lastAt_some h; exact ⟨by omega, this.2⟩
theorem lastAt_none {a : Int} {ps : List (Int × Int × Int)} : ∀ {k : Nat}, lastAt a ps k = none → ∀ i, i < k → ∀ y, ps[i]? = some y → y.2.2 ≠ a
  | 0, _, i, hi, _, _ => absurd hi (by omega)
  | k + 1, h, i, hi, y, hy => by
    unfold lastAt at h
    cases hp : ps[k]? with
    | none =>
      rw [hp] at h
      rcases Nat.lt_or_ge i k with h1 | h1
      · exact lastAt_none h i h1 y hy
      · obtain rfl : i = k := by omega
        rw [hp] at hy; cases hy
    | some p =>
      rw [hp] at h
      dsimp only at h
      split at h
      · cases h
      · rename_i hne
        rcases Nat.lt_or_ge i k with h1 | h1
        · exact lastAt_none h i h1 y hy
        · obtain rfl : i = k := by omega
          rw [hp] at hy; cases hy; exact hne
theorem lastAt_is {x : Cfg} (h : vcode x = 0) {i : Nat} {y : Int × Int × Int} (hi : x.ps[i]? = some y) : lastAt y.2.2 x.ps x.ps.length = some i := by
  cases hl : lastAt y.2.2 x.ps x.ps.length with
  | none => exact absurd rfl (lastAt_none hl i (List.getElem?_eq_some_iff.1 hi).1 y hi)
  | some o =>
    obtain ⟨_, z, hz, he⟩ := lastAt_some hl
    rw [ps_apart h hz hi he]
def rowF (x : Cfg) (p : Int) : List Int := rowIn (tabs x x.ps.length x.ps.length x.ms.length 1) x.rs.length p
theorem rowF_at {x : Cfg} {p : Int} (h0 : 0 ≤ p) (h1 : p < x.rs.length) : rowF x p = picks (fun y => y.1 == p) x.ps x.ps.length := by
  unfold rowF rowIn
  rw [if_pos ⟨h0, h1⟩]
  show picks (fun y => y.1 == (p.toNat : Int)) x.ps x.ps.length = _
  rw [Int.toNat_of_nonneg h0]
theorem rowIn_out {xs : Nat → List Int} {n : Nat} {p : Int} (h : ¬ (0 ≤ p ∧ p < (n : Int))) : rowIn xs n p = [] := by unfold rowIn; rw [if_neg h]
theorem rowF_le (x : Cfg) (p : Int) : (rowF x p).length ≤ x.ps.length := by
  by_cases h : 0 ≤ p ∧ p < (x.rs.length : Int)
  · rw [rowF_at h.1 h.2]; exact picks_le _
  · unfold rowF; rw [rowIn_out h]; exact Nat.zero_le _
theorem rowF_alike {x x' : Cfg} (h : Alike x x') (p : Int) : rowF x' p = rowF x p := by
  unfold rowF; rw [alike_tabs h, h.p, h.r, alike_ms h]
section
variable {b : Nat} {T : TP} {x x' : Cfg} {gs : List Int}

theorem of_al (p : Int) (w : World) (h : TW w b T x' gs) (k : Alike x x') :
    Calls Tryz.prog 56 #[.pointer (some ⟨T.N, 0, none⟩), .int .i64 p] w fun e w' => ∃ A c, e = .returned (.slice A (rowF x p).length c) ∧ JR w' A (rowF x p).length (rowF x p) ∧ Below w.heap.size w w' := by
  rw [← rowF_alike k p]; exact tof_any p w h
theorem others_al (p lN : Nat) (r1 a1 : Int) (hp : x.ps[p]? = some (r1, (lN : Int), a1)) (hlN : lN < x.ls.length) (w : World) (h : TW w b T x' gs) (k : Alike x x') :
    Calls Tryz.prog 115 #[.pointer (some ⟨T.N, 0, none⟩), .int .i64 (p : Int)] w fun e w' => ∃ A c, e = .returned (.slice A (oth x.ps r1 lN).length c) ∧ JR w' A (oth x.ps r1 lN).length (oth x.ps r1 lN) ∧ Below w.heap.size w w' := by
  have := tothers_any p lN r1 a1 (by rw [k.p]; exact hp) (by rw [k.l]; exact hlN) w h
  rw [k.p] at this
  exact this
end
end Go.Proofs.YtdljpokhcfhhfaaGreatDoor

