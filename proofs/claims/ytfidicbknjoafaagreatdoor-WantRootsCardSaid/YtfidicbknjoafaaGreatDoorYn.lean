/- A line of routers with sources behind it: its rows where one asks at the far side, plainly. -/
import Derived.Test.YtfidicbknjoafaaGreatDoorQR
namespace Go.Proofs.YtfidicbknjoafaaGreatDoor
open Go.RowKit Lx Sm Go.Maps
/-- so many sources on the last link, of one group -/
def srcS (n s : Nat) : List (Int × Int × Int) := (List.range s).map fun i : Nat => ((n : Int), adr n (200 + i), 3758161921)
def lineS (n s : Nat) : Cfg := { lineCfg n 0 with ss := srcS n s }
theorem srcS_s (n s : Nat) : srcS n (s + 1) = srcS n s ++ [((n : Int), adr n (200 + s), 3758161921)] := by simp [srcS, List.range_succ]
theorem srcS_len (n s : Nat) : (srcS n s).length = s := by simp [srcS]
theorem lineS_light : ∀ (n : Fin 5) (s : Fin 4), lightP (lineS (n.val + 2) s.val) 8 = true := by decide +kernel
theorem lineS_rowF : ∀ (n : Fin 5) (s : Fin 4) (a : Fin 6), a.val < n.val + 2 → rowF (lineS (n.val + 2) s.val) (a.val : Int) = [2 * (a.val : Int), 2 * (a.val : Int) + 1] := by decide +kernel
theorem lineS_rtr : ∀ (n : Fin 5) (s : Fin 4), rtrP (lineS (n.val + 2) s.val) 3758161921 = some 0 := by decide +kernel
theorem lineS_up0 : ∀ (n : Fin 5) (s : Fin 4), inUp (lineS (n.val + 2) s.val) 0 (0, 3758161921) = (-1, -1) := by decide +kernel
theorem lineS_up : ∀ (n : Fin 5) (s : Fin 4) (a : Fin 6), a.val < n.val + 2 → a.val ≠ 0 → inUp (lineS (n.val + 2) s.val) (a.val : Int) (0, 3758161921) = (2 * (a.val : Int), 2 * (a.val : Int) - 1) := by decide +kernel
theorem lineS_upS : ∀ (n : Fin 5) (s : Fin 4) (i : Fin 3), inUp (lineS (n.val + 2) s.val) 0 (adr (n.val + 2) (200 + i.val), 3758161921) = (1, 2) := by decide +kernel
/-- the keys of the rows at the root: the group's, and each source's -/
def keysR (n s : Nat) : List (Int × Int) := (0, 3758161921) :: (List.range s).map fun i : Nat => (adr n (200 + i), 3758161921)
theorem keysR_rise : ∀ (n : Fin 5) (s : Fin 4), (keysR (n.val + 2) s.val).Pairwise ltPK := by decide +kernel
theorem portsR : ∀ (a : Fin 6), portsK [2 * (a.val : Int), 2 * (a.val : Int) + 1] (0, 3758161921) [(2 * (a.val : Int) + 1, 0, 3758161921)] = [2 * (a.val : Int) + 1] := by decide +kernel
theorem askR (n : Fin 5) (s : Fin 4) (a : Fin 6) (k : Int × Int) : k ∈ askK (lineS (n.val + 2) s.val) (a.val : Int) [2 * (a.val : Int), 2 * (a.val : Int) + 1] [(2 * (a.val : Int) + 1, 0, 3758161921)] ↔ a.val = 0 ∧ ∃ i : Nat, i < s.val ∧ k = (adr (n.val + 2) (200 + i), 3758161921) := by
  unfold askK
  rw [List.mem_filter, keysS_mem]
  have hm : k ∈ sentP (lineS (n.val + 2) s.val) ↔ ∃ i : Nat, i < s.val ∧ k = (adr (n.val + 2) (200 + i), 3758161921) := by
    unfold sentP lineS srcS
    simp only [List.map_map, List.mem_map, List.mem_range, Function.comp]
    constructor
    · rintro ⟨i, h, rfl⟩; exact ⟨i, h, rfl⟩
    · rintro ⟨i, h, rfl⟩; exact ⟨i, h, rfl⟩
  rw [hm]
  constructor
  · rintro ⟨⟨i, hi, rfl⟩, h⟩
    refine ⟨?_, i, hi, rfl⟩
    rw [Bool.and_eq_true] at h
    have h2 := h.2
    dsimp only at h2
    rw [lineS_rtr n s] at h2
    have h3 : (0 : Int) = (a.val : Int) := by
      have h4 := beq_iff_eq.1 h2
      injection h4
    omega
  · rintro ⟨h0, i, hi, rfl⟩
    refine ⟨⟨i, hi, rfl⟩, ?_⟩
    dsimp only
    rw [lineS_rtr n s, portsR a, h0]
    rfl
theorem keysS_is {L : List (Int × Int)} {m : List (Int × Int)} (h : m.Pairwise ltPK) (e : ∀ k, k ∈ L ↔ k ∈ m) : keysS L = m :=
  rises_uniqueK (keysS_rises L) h fun a => by rw [keysS_mem, e]
theorem heardR : ∀ (a : Fin 6), heardK [2 * (a.val : Int), 2 * (a.val : Int) + 1] [(2 * (a.val : Int) + 1, 0, 3758161921)] = [(0, 3758161921)] := by decide +kernel
theorem rowKeysR (n : Fin 5) (s : Fin 4) (a : Fin 6) : rowKeys (lineS (n.val + 2) s.val) (a.val : Int) [2 * (a.val : Int), 2 * (a.val : Int) + 1] [(2 * (a.val : Int) + 1, 0, 3758161921)] = if a.val = 0 then keysR (n.val + 2) s.val else [(0, 3758161921)] := by
  unfold rowKeys
  rw [heardR a]
  split
  · rename_i h0
    refine keysS_is (keysR_rise n s) fun k => ?_
    rw [List.mem_append, askR n s a, List.mem_singleton]
    unfold keysR
    rw [List.mem_cons, List.mem_map]
    simp only [List.mem_range, h0, true_and]
    constructor
    · rintro (h | ⟨i, h, rfl⟩)
      · exact .inl h
      · exact .inr ⟨i, h, rfl⟩
    · rintro (h | ⟨i, h, rfl⟩)
      · exact .inl h
      · exact .inr ⟨i, h, rfl⟩
  · rename_i h0
    refine keysS_is (List.pairwise_singleton _ _) fun k => ?_
    rw [List.mem_append, askR n s a]
    simp [h0]
theorem outR : ∀ (n : Fin 5) (i : Fin 3), outP 1 (portsK [0, 1] (adr (n.val + 2) (200 + i.val), 3758161921) [(1, 0, 3758161921)]) (portsK [0, 1] (0, 3758161921) [(1, 0, 3758161921)]) = [] := by decide +kernel
/-- the rows at a router that is not the root -/
theorem rowsR (n : Fin 5) (s : Fin 4) (a : Fin 6) (ha : a.val < n.val + 2) (h0 : a.val ≠ 0) : rowsP (lineS (n.val + 2) s.val) (a.val : Int) (rowF (lineS (n.val + 2) s.val) (a.val : Int)) [(2 * (a.val : Int) + 1, 0, 3758161921)] = [⟨(a.val : Int), 2 * (a.val : Int), 2 * (a.val : Int) - 1, (0, 3758161921), outP (2 * (a.val : Int)) [2 * (a.val : Int) + 1] [2 * (a.val : Int) + 1]⟩] := by
  rw [lineS_rowF n s a ha]
  unfold rowsP
  rw [rowKeysR n s a, if_neg h0, List.map_cons, List.map_nil]
  unfold rowK
  rw [lineS_up n s a ha h0, portsR a]
/-- the rows at the root -/
theorem rowsR0 (n : Fin 5) (s : Fin 4) : rowsP (lineS (n.val + 2) s.val) 0 (rowF (lineS (n.val + 2) s.val) 0) [(1, 0, 3758161921)] = ⟨0, -1, -1, (0, 3758161921), [1]⟩ :: (List.range s.val).map fun i : Nat => ⟨0, 1, 2, (adr (n.val + 2) (200 + i), 3758161921), []⟩ := by
  have h1 := lineS_rowF n s 0 (by show 0 < n.val + 2; omega)
  have h2 := rowKeysR n s 0
  rw [show (((0 : Fin 6).val : Nat) : Int) = 0 from rfl] at h1 h2
  rw [show (2 * (0 : Int)) = 0 from rfl, show ((0 : Int) + 1) = 1 from rfl] at h1 h2
  rw [if_pos (show (0 : Fin 6).val = 0 from rfl)] at h2
  rw [h1]
  unfold rowsP
  rw [h2]
  unfold keysR
  rw [List.map_cons, List.map_map]
  congr 1
  · unfold rowK
    rw [lineS_up0 n s]
    rfl
  · refine List.map_congr_left fun i hi => ?_
    have hi3 : i < 3 := by have := List.mem_range.1 hi; have := s.isLt; omega
    have h3 := lineS_upS n s ⟨i, hi3⟩
    have h4 := outR n ⟨i, hi3⟩
    dsimp only at h3 h4
    dsimp only [Function.comp]
    unfold rowK
    rw [h3]
    dsimp only
    rw [h4]
theorem small1 {k i : Nat} (h : k < i) (h2 : i < 4) : 200 + k < 256 := by omega
theorem small2 {m : Nat} (h : m ≤ 6) : m < 256 := by omega
theorem small3 {j k : Nat} (h : j = k + 1) : ((200 + k : Nat) : Int) = 199 + (j : Int) := by omega
theorem numbR (a b : Int) (n : Nat) (hb : 0 < b) (hb1 : b ≤ 4294967296) (h : a % b = (n : Int)) (w : World) :
    Calls Tryz.prog 41 #[.int .i64 a, .int .i64 b] w fun e w' => e = .returned (.int .i64 (n : Int)) ∧ w = w' := by
  have := number_any a b w hb hb1
  rwa [h] at this
end Go.Proofs.YtfidicbknjoafaaGreatDoor
