/- Of routes of as many bits the least cost, of these the first; a longer prefix whatever it costs: as plain data. No program's function is walked. -/
import Derived.Test.YtahnnaagpeinkaaGreatDoorRg
namespace Go.Proofs.YtahnnaagpeinkaaGreatDoor
open Go.RowKit Lx Sm Go.Maps
/-- routes of as many bits, one for each cost -/
def leRow (ks : List Int) (i : Nat) : Int × Int × Int × Int × Int := (0, 335544320, 8, adr 1 (50 + i), ks.getD i 0)
def leOs (ks : List Int) : List (Int × Int × Int × Int × Int) := (List.range ks.length).map (leRow ks)
def leLong : Int × Int × Int × Int × Int := (0, 335544320, 9, adr 0 70, 900)
def leCfg (ks : List Int) : Cfg := { lineCfg 1 0 with os := leOs ks }
def leCfg1 (ks : List Int) : Cfg := { lineCfg 1 0 with os := leOs ks ++ [leLong] }
/-- the first of the least, of the first so many -/
def bestI (ks : List Int) : Nat → Nat
  | 0 => 0
  | q + 1 => if ks.getD q 0 < ks.getD (bestI ks q) 0 then q else bestI ks q
theorem leOs_len (ks : List Int) : (leOs ks).length = ks.length := by simp [leOs]
theorem leOs_at {ks : List Int} {q : Nat} (h : q < ks.length) : (leOs ks)[q]? = some (leRow ks q) := by
  unfold leOs; rw [List.getElem?_map, List.getElem?_range h]; rfl
theorem bestI_lt (ks : List Int) : ∀ q, bestI ks q ≤ q ∧ (0 < q → bestI ks q < q)
  | 0 => ⟨Nat.le_refl _, fun h => absurd h (by omega)⟩
  | q + 1 => by
    have ih := bestI_lt ks q
    unfold bestI
    split
    · omega
    · have := ih.1; omega
theorem strip_leOs (ks : List Int) : (leOs ks).map strip = (leOs (List.replicate ks.length 0)).map strip := by
  unfold leOs
  rw [List.map_map, List.map_map, List.length_replicate]
  rfl
theorem le_far0 : ∀ n : Fin 7, 0 < n.val → farP (leCfg (List.replicate n.val 0)) 0 335544325 = ((List.range n.val).map (fun i : Nat => (i : Int)), 8) ∧ nearP (leCfg []) 0 335544325 = ([], 0) := by decide +kernel
theorem le_far1 : ∀ n : Fin 7, 0 < n.val → farP (leCfg1 (List.replicate n.val 0)) 0 335544325 = ([(n.val : Int)], 9) := by decide +kernel
theorem le_near : ∀ i : Fin 7, nearP (leCfg []) 0 (adr 1 (50 + i.val)) = ([1], 24) := by decide +kernel
theorem le_near70 : nearP (leCfg []) 0 (adr 0 70) = ([0], 24) := by decide +kernel
theorem le_none0 : ∀ n : Fin 7, ∀ i : Fin 7, (farP (leCfg (List.replicate n.val 0)) 0 (adr 1 (50 + i.val))).2 = 0 := by decide +kernel
theorem le_none1 : ∀ n : Fin 7, (farP (leCfg1 (List.replicate n.val 0)) 0 (adr 0 70)).2 = 0 := by decide +kernel
theorem le_strip (ks : List Int) (r a : Int) : farP (leCfg ks) r a = farP (leCfg (List.replicate ks.length 0)) r a := farP_strip (strip_leOs ks) r a
theorem le_strip1 (ks : List Int) (r a : Int) : farP (leCfg1 ks) r a = farP (leCfg1 (List.replicate ks.length 0)) r a := farP_strip (by
  show (leOs ks ++ [leLong]).map strip = (leOs (List.replicate ks.length 0) ++ [leLong]).map strip
  rw [List.map_append, List.map_append, strip_leOs]) r a
theorem routeAt_le {ks : List Int} {q : Nat} (h : q < ks.length) : routeAt (leOs ks) (q : Int) = leRow ks q := by
  unfold routeAt; rw [Int.toNat_natCast, leOs_at h]; rfl
theorem cheap_le (ks : List Int) : ∀ q : Nat, 0 < q → q ≤ ks.length → cheap (leOs ks) ((List.range q).map (fun i : Nat => (i : Int))) = leRow ks (bestI ks q)
  | 0, h, _ => absurd h (by omega)
  | q + 1, _, hq => by
    by_cases h0 : q = 0
    · subst h0
      show routeAt (leOs ks) ((0 : Nat) : Int) = _
      rw [routeAt_le (by omega)]
      have : bestI ks 1 = 0 := by unfold bestI; simp [bestI]
      rw [this]
    · have ih := cheap_le ks q (by omega) (by omega)
      have hb := (bestI_lt ks q).2 (by omega)
      rw [List.range_succ, List.map_append]
      obtain ⟨i, L, hL⟩ : ∃ i L, (List.range q).map (fun i : Nat => (i : Int)) = i :: L := by
        cases hc : (List.range q).map (fun i : Nat => (i : Int)) with
        | nil => have := congrArg List.length hc; simp at this; omega
        | cons i L => exact ⟨i, L, rfl⟩
      rw [hL] at ih ⊢
      show cheapR (leOs ks) (routeAt (leOs ks) i) (L ++ [(q : Int)]) = _
      rw [cheap_snoc]
      have ih' : cheapR (leOs ks) (routeAt (leOs ks) i) L = leRow ks (bestI ks q) := ih
      rw [ih', routeAt_le (by omega)]
      show (if ks.getD q 0 < ks.getD (bestI ks q) 0 then leRow ks q else leRow ks (bestI ks q)) = leRow ks (bestI ks (q + 1))
      rw [show bestI ks (q + 1) = if ks.getD q 0 < ks.getD (bestI ks q) 0 then q else bestI ks q from rfl]
      split <;> rfl
theorem le_look (ks : List Int) (h0 : 0 < ks.length) (h6 : ks.length ≤ 6) (hk : ∀ i, 0 ≤ ks.getD i 0 ∧ ks.getD i 0 ≤ 4) : lookA (leCfg ks) 0 335544325 = ((1, adr 1 (50 + bestI ks ks.length), ks.getD (bestI ks ks.length) 0), true) := by
  obtain ⟨f1, f2⟩ := le_far0 ⟨ks.length, by omega⟩ h0
  dsimp only at f1
  have hb := (bestI_lt ks ks.length).2 h0
  have hb4 := hk (bestI ks ks.length)
  have hF : farP (leCfg ks) 0 335544325 = ((List.range ks.length).map (fun i : Nat => (i : Int)), 8) := by rw [le_strip]; exact f1
  have hN : nearP (leCfg ks) 0 335544325 = ([], 0) := f2
  have hR : cheap (leCfg ks).os ((List.range ks.length).map (fun i : Nat => (i : Int))) = leRow ks (bestI ks ks.length) := cheap_le ks ks.length h0 (Nat.le_refl _)
  have h := look_far (x := leCfg ks) (r := 0) (a := 335544325) (v := 0) (c := 0) (k := 6) (.inl (by rw [hN])) (by rw [hF]; intro e; have h7 : ((List.range ks.length).map (fun i : Nat => (i : Int))).length = ([] : List Int).length := congrArg List.length e; rw [List.length_map, List.length_range, List.length_nil] at h7; omega)
  rw [hF] at h
  dsimp only at h
  rw [hR] at h
  obtain ⟨b, hbe⟩ : ∃ b, bestI ks ks.length = b := ⟨_, rfl⟩
  rw [hbe] at h hb hb4 ⊢
  clear hbe hR
  have h2 : lookP (leCfg ks) 0 6 (adr 1 (50 + b)) (adr 1 (50 + b)) (ks.getD b 0) = some (1, adr 1 (50 + b), ks.getD b 0) := look_near (x := leCfg ks) (show nearP (leCfg ks) 0 (adr 1 (50 + b)) = ([1], 24) from le_near ⟨b, by omega⟩) (by rw [le_strip, le_none0 ⟨ks.length, by omega⟩ ⟨b, by omega⟩]; decide)
  have hm : min (0 + (leRow ks b).2.2.2.2) 65535 = ks.getD b 0 := by show min (0 + ks.getD b 0) 65535 = _; omega
  rw [hm] at h
  unfold lookA
  rw [h.trans h2]
  rfl
theorem le_look1 (ks : List Int) (h0 : 0 < ks.length) (h6 : ks.length ≤ 6) : lookA (leCfg1 ks) 0 335544325 = ((0, adr 0 70, 900), true) ∧ (farP (leCfg1 ks) 0 335544325).1 = [(ks.length : Int)] := by
  have f1 := le_far1 ⟨ks.length, by omega⟩ h0
  dsimp only at f1
  have hF : farP (leCfg1 ks) 0 335544325 = ([(ks.length : Int)], 9) := by rw [le_strip1]; exact f1
  have hN : nearP (leCfg1 ks) 0 335544325 = ([], 0) := (le_far0 ⟨1, by decide⟩ (show 0 < 1 by decide)).2
  have hR : cheap (leCfg1 ks).os [(ks.length : Int)] = leLong := by
    show routeAt (leOs ks ++ [leLong]) (ks.length : Int) = leLong
    unfold routeAt
    rw [Int.toNat_natCast, List.getElem?_append_right (by rw [leOs_len]; exact Nat.le_refl _), leOs_len, Nat.sub_self]
    rfl
  have h := look_far (x := leCfg1 ks) (r := 0) (a := 335544325) (v := 0) (c := 0) (k := 6) (.inl (by rw [hN])) (by rw [hF]; simp)
  rw [hF] at h
  dsimp only at h
  rw [hR] at h
  have h2 : lookP (leCfg1 ks) 0 6 (adr 0 70) (adr 0 70) 900 = some (0, adr 0 70, 900) := look_near (x := leCfg1 ks) (show nearP (leCfg1 ks) 0 (adr 0 70) = ([0], 24) from le_near70) (by rw [le_strip1, le_none1 ⟨ks.length, by omega⟩]; decide)
  refine ⟨?_, by rw [hF]⟩
  unfold lookA
  rw [h.trans h2]
  rfl
theorem le_mem {ks : List Int} {y : Int × Int × Int × Int × Int} (h : y ∈ leOs ks) : ∃ i, i < ks.length ∧ y = leRow ks i := by
  unfold leOs at h
  obtain ⟨i, hi, rfl⟩ := List.mem_map.1 h
  exact ⟨i, List.mem_range.1 hi, rfl⟩
theorem le_good : ∀ i : Fin 7, plOk 0 1 = true ∧ Ad.valid 335544320 8 = true ∧ oneA (adr 1 (50 + i.val)) = true ∧ (0 ≤ adr 1 (50 + i.val) ∧ adr 1 (50 + i.val) ≤ 4294967295) := by decide +kernel
theorem le_long : ocode 1 leLong = 0 := by decide +kernel
theorem le_code (ks : List Int) (h6 : ks.length ≤ 6) (hk : ∀ i, 0 ≤ ks.getD i 0 ∧ ks.getD i 0 ≤ 4) : ∀ y ∈ leOs ks, ocode 1 y = 0 := by
  intro y hy
  obtain ⟨i, hi, rfl⟩ := le_mem hy
  obtain ⟨g1, g2, g3, _⟩ := le_good ⟨i, by omega⟩
  have hco : costOk (ks.getD i 0) = true := by have := hk i; unfold costOk; simp only [decide_eq_true_eq]; omega
  show (if plOk 0 1 = false then (111 : Int) else if Ad.valid 335544320 8 = false then 103 else if costOk (ks.getD i 0) = false then 103 else if oneA (adr 1 (50 + i)) then 0 else 113) = 0
  rw [g1, g2, hco]
  simp [g3]
theorem le_valid (ks : List Int) (h6 : ks.length ≤ 6) (hk : ∀ i, 0 ≤ ks.getD i 0 ∧ ks.getD i 0 ≤ 4) : vcode (leCfg ks) = 0 :=
  vcode_os one_base (by show (leOs ks).length ≤ 96; rw [leOs_len]; omega) (le_code ks h6 hk)
theorem le_valid1 (ks : List Int) (h6 : ks.length ≤ 6) (hk : ∀ i, 0 ≤ ks.getD i 0 ∧ ks.getD i 0 ≤ 4) : vcode (leCfg1 ks) = 0 :=
  vcode_os one_base (by show (leOs ks ++ [leLong]).length ≤ 96; rw [List.length_append, leOs_len]; simp; omega) (fun y hy => by
    rcases List.mem_append.1 hy with h | h
    · exact le_code ks h6 hk y h
    · rw [List.mem_singleton.1 h]; exact le_long)
theorem le_u32 (ks : List Int) (h6 : ks.length ≤ 6) : ∀ y ∈ leOs ks, U32 y.2.1 ∧ U32 y.2.2.2.1 := by
  intro y hy
  obtain ⟨i, hi, rfl⟩ := le_mem hy
  exact ⟨⟨(by decide : (0 : Int) ≤ 335544320), (by decide : (335544320 : Int) ≤ 4294967295)⟩, (le_good ⟨i, by omega⟩).2.2.2⟩
theorem le_u321 (ks : List Int) (h6 : ks.length ≤ 6) : ∀ y ∈ leOs ks ++ [leLong], U32 y.2.1 ∧ U32 y.2.2.2.1 := by
  intro y hy
  rcases List.mem_append.1 hy with h | h
  · exact le_u32 ks h6 y h
  · rw [List.mem_singleton.1 h]; exact ⟨⟨by decide, by decide⟩, ⟨by decide, by decide⟩⟩
theorem le_ribok (ks : List Int) (hk : ∀ i, 0 ≤ ks.getD i 0 ∧ ks.getD i 0 ≤ 4) : RibOK (leCfg ks) := by
  have h1 := line_ribok (n := 1) (by decide)
  refine ⟨h1.l, h1.p, fun y hy => ?_, fun y hy => ?_⟩
  · obtain ⟨i, _, rfl⟩ := le_mem hy
    exact ⟨(by decide : (0 : Int) ≤ 8), (by decide : (8 : Int) ≤ 32)⟩
  · obtain ⟨i, _, rfl⟩ := le_mem hy
    have := hk i
    show 0 ≤ ks.getD i 0 ∧ ks.getD i 0 ≤ 65535
    omega
theorem le_ribok1 (ks : List Int) (hk : ∀ i, 0 ≤ ks.getD i 0 ∧ ks.getD i 0 ≤ 4) : RibOK (leCfg1 ks) := by
  have h1 := le_ribok ks hk
  refine ⟨h1.l, h1.p, fun y hy => ?_, fun y hy => ?_⟩
  · rcases List.mem_append.1 hy with h | h
    · exact h1.o y h
    · rw [List.mem_singleton.1 h]; exact ⟨by decide, by decide⟩
  · rcases List.mem_append.1 hy with h | h
    · exact h1.c y h
    · rw [List.mem_singleton.1 h]; exact ⟨by decide, by decide⟩
end Go.Proofs.YtahnnaagpeinkaaGreatDoor

