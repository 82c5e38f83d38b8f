/- Ways of small networks as plain data: lines, routes behind one another, rings. No program's function is walked. -/
import Derived.Test.YtahnnaagpeinkaaGreatDoorRl
namespace Go.Proofs.YtahnnaagpeinkaaGreatDoor
open Go.RowKit Lx Sm
theorem firstNZ_all {l : List Int} : firstNZ l = 0 ↔ ∀ a ∈ l, a = 0 := by
  induction l with
  | nil => simp [firstNZ]
  | cons a l ih =>
    unfold firstNZ
    split
    · rename_i h; rw [ih]; simp [h]
    · rename_i h; simp [h]
theorem feC_zero {C : Nat → Int} {most : Nat} : ∀ (m i : Nat), i + m ≤ most → (∀ j, i ≤ j → j < i + m → C j = 0) → feC C most i m = 0
  | 0, _, _, _ => rfl
  | m + 1, i, hm, h => by
    unfold feC
    rw [if_neg (by omega), if_pos (h i (Nat.le_refl _) (by omega))]
    exact feC_zero m (i + 1) (by omega) (fun j h1 h2 => h j (by omega) (by omega))
theorem vcode_os {x : Cfg} (h : vcode { x with os := [] } = 0) (hl : x.os.length ≤ 96) (ho : ∀ y ∈ x.os, ocode x.rs.length y = 0) : vcode x = 0 := by
  unfold vcode at h ⊢
  rw [firstNZ_all] at h ⊢
  simp only [vlist, List.mem_cons, List.not_mem_nil, or_false, forall_eq_or_imp, forall_eq] at h ⊢
  refine ⟨h.1, h.2.1, h.2.2.1, ?_, h.2.2.2.2⟩
  refine feC_zero _ _ (by omega) (fun j _ hj => ?_)
  unfold atC
  split
  · rename_i y hy; exact ho _ (List.mem_of_getElem? hy)
  · rfl
/-- what of a route says where it leads -/
def strip (y : Int × Int × Int × Int × Int) : Int × Int × Int := (y.1, y.2.1, y.2.2.1)
theorem picks_of {α β : Type} (f : α → β) (p : α → Bool) (q : β → Bool) (h : ∀ x, p x = q (f x)) (xs : List α) : ∀ n, picks p xs n = picks q (xs.map f) n := by
  intro n
  induction n with
  | zero => rfl
  | succ n ih => simp only [picks, ih, List.getElem?_map]; cases xs[n]? <;> simp [h]
theorem farP_strip {x y : Cfg} (h : x.os.map strip = y.os.map strip) (r a : Int) : farP x r a = farP y r a := by
  have hl : x.os.length = y.os.length := by have := congrArg List.length h; simpa using this
  have hp : preO x = preO y := by
    funext i
    have := congrArg (fun l => l[i.toNat]?) h
    simp only [List.getElem?_map] at this
    unfold preO
    cases hx : x.os[i.toNat]? <;> cases hy : y.os[i.toNat]? <;> simp_all [strip]
  unfold farP routesOf
  rw [hp, picks_of strip (fun y => y.1 == r) (fun z => z.1 == r) (fun _ => rfl), picks_of strip (fun y => y.1 == r) (fun z => z.1 == r) (fun _ => rfl), h, hl]
/-- routes behind one another -/
def deepOs (n : Nat) (c : Int) : List (Int × Int × Int × Int × Int) := (List.range n).map fun i : Nat => (0, 335544320 + (i : Int) * 65536, 16, if i + 1 = n then adr 1 99 else 335544320 + ((i : Int) + 1) * 65536 + 1, c)
def deepCfg (n : Nat) (c : Int) : Cfg := { lineCfg 1 0 with os := deepOs n c }
def deepA (n i : Nat) : Int := if i = n then adr 1 99 else 335544320 + (i : Int) * 65536 + (if i = 0 then 5 else 1)
theorem deep_facts : ∀ n : Fin 10, 0 < n.val → (∀ i : Fin 10, i.val < n.val → nearP (deepCfg n.val 0) 0 (deepA n.val i.val) = ([], 0) ∧ (farP (deepCfg n.val 0) 0 (deepA n.val i.val)).1 = [(i.val : Int)] ∧ (deepOs n.val 0)[i.val]?.map (fun y => y.2.2.2.1) = some (deepA n.val (i.val + 1))) ∧
    nearP (deepCfg n.val 0) 0 (adr 1 99) = ([1], 24) ∧ (farP (deepCfg n.val 0) 0 (adr 1 99)).2 = 0 := by decide +kernel
theorem deep_os (n : Nat) (c : Int) : (deepOs n c).map strip = (deepOs n 0).map strip := by unfold deepOs; simp [List.map_map, strip, Function.comp_def]
theorem deep_at (n i : Nat) (c : Int) (h : i < n) : routeAt (deepOs n c) (i : Int) = (0, 335544320 + (i : Int) * 65536, 16, deepA n (i + 1), c) := by
  unfold routeAt deepOs deepA
  rw [Int.toNat_natCast, List.getElem?_map, List.getElem?_range h]
  simp only [Option.map_some, Option.getD_some]
  by_cases e : i + 1 = n
  · simp [e]
  · simp [e]
theorem deep_walk (n : Nat) (c : Int) (hn : n ≤ 9) (hc : 0 ≤ c) (hc2 : c ≤ 65535) : ∀ (j : Nat), j ≤ n → 0 < n → ∀ (k : Nat) (v cst : Int), 0 ≤ cst → cst ≤ 65535 →
    lookP (deepCfg n c) 0 k (deepA n (n - j)) v cst = if j < k then some (1, if j = 0 then v else adr 1 99, min (cst + (j : Int) * c) 65535) else none := by
  intro j
  induction j with
  | zero =>
    intro _ h0 k v cst h1 h2
    cases k with
    | zero => rfl
    | succ k =>
      have f := (deep_facts ⟨n, by omega⟩ h0).2
      have e : deepA n (n - 0) = adr 1 99 := by unfold deepA; simp
      rw [e, look_near (x := deepCfg n c) (r := 0) (show nearP (deepCfg n c) 0 (adr 1 99) = ([1], 24) from f.1) (by rw [farP_strip (y := deepCfg n 0) (deep_os n c)]; rw [f.2]; decide)]
      simp
      omega
  | succ j ih =>
    intro hj h0 k v cst h1 h2
    cases k with
    | zero => simp [lookP]
    | succ k =>
      have f := (deep_facts ⟨n, by omega⟩ h0).1 ⟨n - (j + 1), by omega⟩ (by show n - (j + 1) < n; omega)
      dsimp only at f
      have hN : nearP (deepCfg n c) 0 (deepA n (n - (j + 1))) = ([], 0) := f.1
      have hF : (farP (deepCfg n c) 0 (deepA n (n - (j + 1)))).1 = [((n - (j + 1) : Nat) : Int)] := by rw [farP_strip (y := deepCfg n 0) (deep_os n c)]; exact f.2.1
      rw [look_far (.inl (by rw [hN])) (by rw [hF]; simp), hF]
      have hR : cheap (deepCfg n c).os [((n - (j + 1) : Nat) : Int)] = (0, 335544320 + ((n - (j + 1) : Nat) : Int) * 65536, 16, deepA n (n - (j + 1) + 1), c) := deep_at n _ c (by omega)
      rw [hR]
      dsimp only
      rw [show n - (j + 1) + 1 = n - j by omega, ih (by omega) h0 k _ _ (by omega) (by omega)]
      have hm : min (min (cst + c) 65535 + (j : Int) * c) 65535 = min (cst + ((j + 1 : Nat) : Int) * c) 65535 := by
        have h3 : ((j + 1 : Nat) : Int) * c = (j : Int) * c + c := by rw [show ((j + 1 : Nat) : Int) = (j : Int) + 1 by omega, Int.add_mul, Int.one_mul]
        have h4 : 0 ≤ (j : Int) * c := Int.mul_nonneg (by omega) hc
        rw [h3]
        omega
      rw [hm]
      by_cases hk : j < k
      · rw [if_pos hk, if_pos (show j + 1 < k + 1 by omega), if_neg (show ¬ (j + 1 = 0) by omega)]
        by_cases hj0 : j = 0
        · subst hj0
          rw [if_pos rfl]
          have : deepA n (n - 0) = adr 1 99 := by unfold deepA; simp
          rw [this]
        · rw [if_neg hj0]
      · rw [if_neg hk, if_neg (show ¬ (j + 1 < k + 1) by omega)]
theorem deep_look (n : Nat) (c : Int) (h0 : 0 < n) (hn : n ≤ 9) (hc : 0 ≤ c) (hc2 : c ≤ 65535) : lookA (deepCfg n c) 0 335544325 = if 6 < n then ((0, 0, 0), false) else ((1, adr 1 99, min ((n : Int) * c) 65535), true) := by
  have h := deep_walk n c hn hc hc2 n (Nat.le_refl _) h0 7 0 0 (by decide) (by decide)
  have e : deepA n (n - n) = 335544325 := by rw [Nat.sub_self]; unfold deepA; rw [if_neg (by omega)]; rfl
  rw [e] at h
  unfold lookA
  rw [h]
  by_cases h6 : 6 < n
  · rw [if_neg (show ¬ n < 7 by omega), if_pos h6]; rfl
  · rw [if_pos (show n < 7 by omega), if_neg h6, if_neg (show ¬ n = 0 by omega)]; simp
theorem deep_mem {n : Nat} {c : Int} {y : Int × Int × Int × Int × Int} (h : y ∈ deepOs n c) : ∃ z ∈ deepOs n 0, y = (z.1, z.2.1, z.2.2.1, z.2.2.2.1, c) := by
  unfold deepOs at h ⊢
  obtain ⟨i, hi, rfl⟩ := List.mem_map.1 h
  exact ⟨_, List.mem_map.2 ⟨i, hi, rfl⟩, rfl⟩
theorem deep_good : ∀ n : Fin 10, ∀ z ∈ deepOs n.val 0, plOk z.1 1 = true ∧ Ad.valid z.2.1 z.2.2.1 = true ∧ oneA z.2.2.2.1 = true ∧ (0 ≤ z.2.1 ∧ z.2.1 ≤ 4294967295) ∧ (0 ≤ z.2.2.2.1 ∧ z.2.2.2.1 ≤ 4294967295) ∧ 0 ≤ z.2.2.1 ∧ z.2.2.1 ≤ 32 := by decide +kernel
theorem one_base : vcode { lineCfg 1 0 with os := [] } = 0 := by decide +kernel
theorem deep_valid (n : Nat) (c : Int) (hn : n ≤ 9) (hc : 0 ≤ c) (hc2 : c ≤ 65535) : vcode (deepCfg n c) = 0 := by
  refine vcode_os one_base (by show (deepOs n c).length ≤ 96; simp [deepOs]; omega) (fun y hy => ?_)
  obtain ⟨z, hz, rfl⟩ := deep_mem hy
  obtain ⟨g1, g2, g3, _⟩ := deep_good ⟨n, by omega⟩ z hz
  have hr : (deepCfg n c).rs.length = 1 := rfl
  have hco : costOk c = true := by unfold costOk; simp; omega
  unfold ocode
  rw [hr]
  simp [g1, g2, g3, hco]
theorem deep_u32 (n : Nat) (c : Int) (hn : n ≤ 9) : ∀ y ∈ deepOs n c, U32 y.2.1 ∧ U32 y.2.2.2.1 := by
  intro y hy
  obtain ⟨z, hz, rfl⟩ := deep_mem hy
  obtain ⟨_, _, _, g4, g5, _⟩ := deep_good ⟨n, by omega⟩ z hz
  exact ⟨g4, g5⟩
theorem deep_ribok (n : Nat) (c : Int) (hn : n ≤ 9) (hc : 0 ≤ c) (hc2 : c ≤ 65535) : RibOK (deepCfg n c) := by
  have h1 := line_ribok (n := 1) (by decide)
  refine ⟨h1.l, h1.p, fun y hy => ?_, fun y hy => ?_⟩
  · obtain ⟨z, hz, rfl⟩ := deep_mem hy
    obtain ⟨_, _, _, _, _, g6⟩ := deep_good ⟨n, by omega⟩ z hz
    exact g6
  · obtain ⟨z, hz, rfl⟩ := deep_mem hy
    exact ⟨hc, hc2⟩
/-- the same network in memory with other routes -/
theorem CW.routes {w : World} {M : Cm} {x : Cfg} (h : CW w M x) {A : Option Addr} {n c : Nat} {os : List (Int × Int × Int × Int × Int)} (ho : IRoute w A n os) (hc : n ≤ c) (hn : n ≤ 1000000) (hu : ∀ y ∈ os, U32 y.2.1 ∧ U32 y.2.2.2.1) : CW w { M with o := ⟨A, n, c⟩ } { x with os := os } :=
  ⟨h.r, h.l, h.p, ho, h.g, h.s, h.m, h.rok, h.lok, h.pok, ⟨hc, hn⟩, h.gok, h.sok, h.mok, h.src, ⟨h.ok.1, h.ok.2.1, hu, h.ok.2.2.2⟩⟩
theorem take_snoc {α : Type} {xs : List α} {k : Nat} {e : α} (h : xs[k]? = some e) : xs.take (k + 1) = xs.take k ++ [e] := by rw [List.take_add_one, h]; rfl
end Go.Proofs.YtahnnaagpeinkaaGreatDoor

