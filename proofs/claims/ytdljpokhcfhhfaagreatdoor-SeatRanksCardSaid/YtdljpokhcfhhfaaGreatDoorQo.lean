/- quer.addrs: the addresses of ports; quer.Of: the port that asks on a link; over the seat's program. -/
import Derived.Test.YtdljpokhcfhhfaaGreatDoorTnb
import Derived.Test.YtdljpokhcfhhfaaGreatDoorQr
import Derived.Test.YtdljpokhcfhhfaaGreatDoorTn
import Derived.Test.YtdljpokhcfhhfaaGreatDoorCg
import Derived.Test.YtdljpokhcfhhfaaGreatDoorAppA
namespace Go.Proofs.YtdljpokhcfhhfaaGreatDoor
open Go.ChangeShapes Go.WideShapes Go.ChangeAt Go.RowKit Lx Sm Go.Maps
theorem picks_nat {α : Type} {p : α → Bool} {xs : List α} : ∀ {n : Nat} {q : Int}, q ∈ picks p xs n → ∃ j : Nat, q = (j : Int) ∧ j < n ∧ ∃ y, xs[j]? = some y ∧ p y = true
  | 0, q, h => by simp [picks] at h
  | n + 1, q, h => by
    unfold picks at h
    rw [List.mem_append] at h
    rcases h with h | h
    · obtain ⟨j, h1, h2, h3⟩ := picks_nat h
      exact ⟨j, h1, by omega, h3⟩
    · split at h
      · rename_i y hy
        split at h
        · rename_i hp
          simp at h
          exact ⟨n, h, by omega, y, hy, hp⟩
        · cases h
      · cases h
/-- a link's ports -/
theorem rowO_all {x : Cfg} (h : ∀ y ∈ x.ps, 0 ≤ y.1 ∧ y.1 < x.rs.length ∧ 0 ≤ y.2.1 ∧ y.2.1 < x.ls.length) (p : Int) : rowO x p = picks (fun y => y.2.1 == p) x.ps x.ps.length := by
  by_cases hp : 0 ≤ p ∧ p < (x.ls.length : Int)
  · exact rowO_at hp.1 hp.2
  · have h1 : rowO x p = [] := rowIn_out hp
    have h2 : picks (fun y : Int × Int × Int => y.2.1 == p) x.ps x.ps.length = [] := by
      rw [List.eq_nil_iff_forall_not_mem]
      intro q hq
      obtain ⟨j, _, _, y, hy, he⟩ := picks_nat hq
      have := h y (List.mem_of_getElem? hy)
      simp only [beq_iff_eq] at he
      omega
    rw [h1, h2]
/-- the addresses of ports -/
def adP (ps : List (Int × Int × Int)) (P : List Int) : List Int := P.map fun q => (ps.getD q.toNat (0, 0, 0)).2.2
theorem adP_take {ps : List (Int × Int × Int)} {P : List Int} {k j : Nat} {y : Int × Int × Int} (h : P[k]? = some (j : Int)) (hy : ps[j]? = some y) : adP ps (P.take (k + 1)) = adP ps (P.take k) ++ [y.2.2] := by
  unfold adP
  rw [List.take_add_one, h]
  simp [List.getD, hy]
theorem adP_len (ps : List (Int × Int × Int)) (P : List Int) : (adP ps P).length = P.length := by simp [adP]
theorem set_pad (l : List Int) (m k : Nat) (v : Int) (h : l.length = k) : (l ++ List.replicate (m + 1) 0).set k v = (l ++ [v]) ++ List.replicate m 0 := by
  subst h
  rw [List.set_append_right _ _ (Nat.le_refl _)]; simp [List.replicate_succ]
/-- which port asks on a link -/
def askP (x : Cfg) (p : Int) : Int := (rowO x p).getD (leastP (adP x.ps (rowO x p)) (rowO x p).length) 0
section
variable {b : Nat} {T : TP} {x x' : Cfg} {gs : List Int}
end
end Go.Proofs.YtdljpokhcfhhfaaGreatDoor

