/- A line of routers as plain data: it may be; who is where in it. No program's function is walked. -/
import Derived.Test.YtdljpokhcfhhfaaGreatDoorLi1
import Derived.Test.YtdljpokhcfhhfaaGreatDoorMe
namespace Go.Proofs.YtdljpokhcfhhfaaGreatDoor
open Go.RowKit Lx Sm
theorem line_valid : ∀ n : Fin 9, vcode (lineCfg n.val 0) = 0 := by decide +kernel
theorem line_of : ∀ n : Fin 9, ∀ i : Fin 9, i.val < n.val → tabs (lineCfg n.val 0) (2 * n.val) (2 * n.val) 0 1 i.val = [2 * (i.val : Int), 2 * (i.val : Int) + 1] := by decide +kernel
theorem line_on : ∀ n : Fin 9, ∀ i : Fin 10, 0 < n.val → i.val ≤ n.val → (tabs (lineCfg n.val 0) (2 * n.val) (2 * n.val) 0 0 i.val).length = if i.val = 0 ∨ i.val = n.val then 1 else 2 := by decide +kernel
theorem line_at : ∀ n : Fin 9, ∀ j : Fin 16, j.val < 2 * n.val → (psK n.val)[j.val]?.map (fun p => lastAt p.2.2 (psK n.val) (2 * n.val)) = some (some j.val) := by decide +kernel
theorem line_none : ∀ n : Fin 9, lastAt (adr 99 1) (psK n.val) (2 * n.val) = none := by decide +kernel
theorem line_oth : ∀ n : Fin 9, ∀ i : Fin 9, i.val < n.val → (oth (psK n.val) i.val i.val).length = min i.val 1 := by decide +kernel
theorem line_p2 : ∀ n : Fin 9, ∀ i : Fin 9, i.val < n.val → (psK n.val)[2 * i.val]? = some ((i.val : Int), (i.val : Int), adr i.val (i.val + 1)) := by decide +kernel
theorem line_ports (n r : Nat) : ∀ y ∈ (lineCfg n r).ps, 0 ≤ y.1 ∧ y.1 < (lineCfg n r).rs.length ∧ 0 ≤ y.2.1 ∧ y.2.1 < (lineCfg n r).ls.length := by
  intro y hy
  simp only [lineCfg, psK, List.mem_flatMap, List.mem_range] at hy
  obtain ⟨i, hi, hy⟩ := hy
  simp only [List.mem_cons, List.not_mem_nil, or_false] at hy
  have h1 : (lineCfg n r).rs.length = n := rsK_len n
  have h2 : (lineCfg n r).ls.length = n + 1 := lsK_len (n + 1)
  rw [h1, h2]
  rcases hy with rfl | rfl
  · dsimp only; omega
  · dsimp only; omega
theorem line_rn (n r : Nat) : ∀ y ∈ (lineCfg n r).rs, (str y.1).size ≤ 281474976710656 := by
  intro y hy
  simp only [lineCfg, rsK, List.mem_map] at hy
  obtain ⟨i, _, rfl⟩ := hy
  show (2 : Nat) ≤ _
  decide
theorem line_ln (n r : Nat) : ∀ y ∈ (lineCfg n r).ls, (str y.1).size ≤ 281474976710656 := by
  intro y hy
  simp only [lineCfg, lsK, List.mem_map] at hy
  obtain ⟨i, _, rfl⟩ := hy
  show (2 : Nat) ≤ _
  decide
end Go.Proofs.YtdljpokhcfhhfaaGreatDoor

