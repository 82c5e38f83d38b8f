/- Plain facts: a text made of words apart by gaps, line by line, with notes behind: its lines are those words. No program is imported. -/
import Derived.Test.YthnchjmbjeooiaaDoorLx
import Derived.Test.YthnchjmbjeooiaaDoorDec
namespace Go.Proofs.YthnchjmbjeooiaaDoor
namespace Lx
def wd (i k : Nat) : List UInt8 := 119 :: (Lib.itoa (i : Int) ++ Lib.itoa (k : Int))
def wds (i n : Nat) : List (List UInt8) := (List.range n).map (wd i)
def body (g : List UInt8) : List (List UInt8) → List UInt8
  | [] => []
  | w :: ws => g ++ (w ++ body g ws)
def gapOf : Nat → List UInt8
  | 0 => [32]
  | 1 => [9]
  | 2 => [32, 32, 9, 32]
  | _ => [32, 13]
def tailOf (g : List UInt8) : Nat → List UInt8
  | 0 => []
  | 1 => [32, 35, 32, 110, 111, 116, 101, 32, 35, 32, 109, 111, 114, 101]
  | 2 => [35, 120]
  | _ => g
def rowT (g : List UInt8) (i : Nat) (p : Nat × Nat) : List UInt8 := body g (wds i p.1) ++ tailOf g p.2
def txt (g : List UInt8) : Nat → List (Nat × Nat) → List UInt8
  | _, [] => []
  | i, p :: ps => rowT g i p ++ 10 :: txt g (i + 1) ps
def wnt : Nat → List (Nat × Nat) → List (List UInt8)
  | _, [] => []
  | i, p :: ps => wds i p.1 ++ wnt (i + 1) ps
def expl : Nat → List (Nat × Nat) → List (Nat × List (List UInt8))
  | _, [] => []
  | i, p :: ps => (if p.1 = 0 then [] else [(i + 1, wds i p.1)]) ++ expl (i + 1) ps
theorem wds_succ (i k : Nat) : wds i (k + 1) = wds i k ++ [wd i k] := by simp [wds, List.range_succ]
theorem wds_len (i k : Nat) : (wds i k).length = k := by simp [wds]
theorem body_snoc (g w : List UInt8) : ∀ ws : List (List UInt8), body g (ws ++ [w]) = body g ws ++ (g ++ w)
  | [] => by simp [body]
  | v :: ws => by rw [List.cons_append, body, body_snoc g w ws, body]; simp
theorem txt_snoc (g : List UInt8) (p : Nat × Nat) : ∀ (ps : List (Nat × Nat)) (i : Nat), txt g i (ps ++ [p]) = txt g i ps ++ (rowT g (i + ps.length) p ++ [10])
  | [], i => by simp [txt]
  | q :: ps, i => by
    rw [List.cons_append, txt, txt_snoc g p ps, txt, List.length_cons, show i + 1 + ps.length = i + (ps.length + 1) by omega]
    simp
theorem wnt_snoc (p : Nat × Nat) : ∀ (ps : List (Nat × Nat)) (i : Nat), wnt i (ps ++ [p]) = wnt i ps ++ wds (i + ps.length) p.1
  | [], i => by simp [wnt]
  | q :: ps, i => by
    rw [List.cons_append, wnt, wnt_snoc p ps, wnt, List.length_cons, show i + 1 + ps.length = i + (ps.length + 1) by omega]
    simp
theorem itoa_dig (n : Nat) : ∀ x ∈ Lib.itoa (n : Int), 48 ≤ x.toNat ∧ x.toNat ≤ 57 := by
  intro x hx
  rw [itoa_nat (by omega)] at hx
  have := List.all_eq_true.1 (dec_all _) x hx
  simpa [Ad.isDig] using this
theorem wd_ch (i k : Nat) : ∀ x ∈ wd i k, x.toNat = 119 ∨ (48 ≤ x.toNat ∧ x.toNat ≤ 57) := by
  intro x hx
  rcases List.mem_cons.1 hx with rfl | hx
  · exact .inl rfl
  · rcases List.mem_append.1 hx with hx | hx
    · exact .inr (itoa_dig _ x hx)
    · exact .inr (itoa_dig _ x hx)
theorem wd_sep (i k : Nat) : ∀ x ∈ wd i k, sep x = false := by
  intro x hx
  have := wd_ch i k x hx
  unfold sep; simp; omega
theorem wds_sep (i n : Nat) : ∀ w ∈ wds i n, w ≠ [] ∧ ∀ x ∈ w, sep x = false := by
  intro w hw
  obtain ⟨k, _, rfl⟩ := List.mem_map.1 hw
  exact ⟨by simp [wd], wd_sep i k⟩
theorem ne_of_nat {x : UInt8} (n : Nat) (h : x.toNat ≠ n) (m : UInt8) (hm : m.toNat = n) : x ≠ m := fun e => h (by rw [e, hm])
theorem body_ch {g : List UInt8} {P : UInt8 → Prop} (hg : ∀ x ∈ g, P x) : ∀ ws : List (List UInt8), (∀ w ∈ ws, ∀ x ∈ w, P x) → ∀ x ∈ body g ws, P x
  | [], _, x, hx => by cases hx
  | w :: ws, h, x, hx => by
    rw [body] at hx
    rcases List.mem_append.1 hx with hx | hx
    · exact hg x hx
    · rcases List.mem_append.1 hx with hx | hx
      · exact h w (by simp) x hx
      · exact body_ch hg ws (fun v hv => h v (by simp [hv])) x hx
theorem gap_ok (q : Nat) : gapOf q ≠ [] ∧ ∀ x ∈ gapOf q, sep x = true ∧ x ≠ 10 ∧ x ≠ 35 := by
  match q with
  | 0 => exact ⟨by decide, by decide⟩
  | 1 => exact ⟨by decide, by decide⟩
  | 2 => exact ⟨by decide, by decide⟩
  | q + 3 => exact (by decide : ([32, 13] : List UInt8) ≠ [] ∧ ∀ x ∈ ([32, 13] : List UInt8), sep x = true ∧ x ≠ 10 ∧ x ≠ 35)
theorem tail_ok {g : List UInt8} (hg : ∀ x ∈ g, sep x = true ∧ x ≠ 10 ∧ x ≠ 35) (t : Nat) : (∀ x ∈ tailOf g t, x ≠ 10) ∧ ∀ x ∈ bare (tailOf g t), sep x = true := by
  match t with
  | 0 => exact ⟨fun x hx => (by cases hx), fun x hx => (by cases hx)⟩
  | 1 => exact (by decide : (∀ x ∈ ([32, 35, 32, 110, 111, 116, 101, 32, 35, 32, 109, 111, 114, 101] : List UInt8), x ≠ 10) ∧ ∀ x ∈ bare ([32, 35, 32, 110, 111, 116, 101, 32, 35, 32, 109, 111, 114, 101] : List UInt8), sep x = true)
  | 2 => exact (by decide : (∀ x ∈ ([35, 120] : List UInt8), x ≠ 10) ∧ ∀ x ∈ bare ([35, 120] : List UInt8), sep x = true)
  | t + 3 =>
    refine ⟨fun x hx => (hg x hx).2.1, ?_⟩
    show ∀ x ∈ bare g, _
    rw [bare_miss g (fun x hx => (hg x hx).2.2)]
    exact fun x hx => (hg x hx).1
theorem bare_app (t : List UInt8) : ∀ a : List UInt8, (∀ x ∈ a, x ≠ 35) → bare (a ++ t) = a ++ bare t
  | [], _ => rfl
  | b :: a, h => by rw [List.cons_append, bare, if_neg (h b (by simp)), bare_app t a (fun x hx => h x (by simp [hx])), List.cons_append]
theorem scan_seps (r : List UInt8) : ∀ g : List UInt8, (∀ x ∈ g, sep x = true) → scan [] (g ++ r) = scan [] r
  | [], _ => rfl
  | b :: g, h => by
    rw [List.cons_append, scan, h b (by simp)]
    simp only [if_true]
    exact scan_seps r g (fun x hx => h x (by simp [hx]))
theorem scan_gap (r : List UInt8) {g cur : List UInt8} (hg : ∀ x ∈ g, sep x = true) (hne : g ≠ []) : scan cur (g ++ r) = (if cur = [] then [] else [cur]) ++ scan [] r := by
  cases g with
  | nil => exact absurd rfl hne
  | cons b g =>
    rw [List.cons_append, scan, hg b (by simp)]
    simp only [if_true]
    rw [scan_seps r g (fun x hx => hg x (by simp [hx]))]
    split <;> rfl
theorem scan_all {t : List UInt8} (ht : ∀ x ∈ t, sep x = true) (cur : List UInt8) : scan cur t = if cur = [] then [] else [cur] := by
  cases t with
  | nil => rfl
  | cons b t =>
    have := scan_gap [] (g := b :: t) (cur := cur) ht (by simp)
    rw [List.append_nil] at this
    rw [this]
    show _ ++ scan [] [] = _
    simp [scan]
theorem scan_body {g t : List UInt8} (hg : ∀ x ∈ g, sep x = true) (hne : g ≠ []) (ht : ∀ x ∈ t, sep x = true) : ∀ (ws : List (List UInt8)) (cur : List UInt8), (∀ w ∈ ws, w ≠ [] ∧ ∀ x ∈ w, sep x = false) →
    scan cur (body g ws ++ t) = (if cur = [] then [] else [cur]) ++ ws
  | [], cur, _ => by
    show scan cur ([] ++ t) = _
    rw [List.nil_append, scan_all ht, List.append_nil]
  | w :: ws, cur, h => by
    obtain ⟨h1, h2⟩ := h w (by simp)
    rw [body, List.append_assoc, scan_gap _ hg hne, List.append_assoc, scan_run _ w [] h2, List.nil_append, scan_body hg hne ht ws w (fun v hv => h v (by simp [hv])), if_neg h1]
    rfl
theorem rowT_no10 (q i : Nat) (p : Nat × Nat) : ∀ x ∈ rowT (gapOf q) i p, x ≠ 10 := by
  intro x hx
  have hg := gap_ok q
  rcases List.mem_append.1 hx with hx | hx
  · refine body_ch (P := fun x => x ≠ 10) (fun x hx => (hg.2 x hx).2.1) _ ?_ x hx
    intro w hw x hx
    obtain ⟨k, _, rfl⟩ := List.mem_map.1 hw
    have := wd_ch i k x hx
    exact ne_of_nat 10 (by omega) 10 rfl
  · exact (tail_ok hg.2 p.2).1 x hx
theorem rowT_words (q i : Nat) (p : Nat × Nat) : words (bare (rowT (gapOf q) i p)) = wds i p.1 := by
  have hg := gap_ok q
  unfold rowT words
  rw [bare_app]
  · rw [scan_body (fun x hx => (hg.2 x hx).1) hg.1 (tail_ok hg.2 p.2).2 _ [] (wds_sep i p.1)]
    rfl
  · refine body_ch (P := fun x => x ≠ 35) (fun x hx => (hg.2 x hx).2.2) _ ?_
    intro w hw x hx
    obtain ⟨k, _, rfl⟩ := List.mem_map.1 hw
    have := wd_ch i k x hx
    exact ne_of_nat 35 (by omega) 35 rfl
theorem rows_txt (q : Nat) : ∀ (ps : List (Nat × Nat)) (i : Nat), rows (i + 1) (nl (txt (gapOf q) i ps)) = expl i ps
  | [], i => rfl
  | p :: ps, i => by
    rw [txt, nl_hit _ _ (rowT_no10 q i p), rows, rows_txt q ps (i + 1), expl]
    unfold row
    rw [rowT_words]
    congr 1
    by_cases h : p.1 = 0
    · rw [if_pos h, if_pos (by rw [h]; rfl)]
    · rw [if_neg h, if_neg]
      intro e
      have := congrArg List.length e
      rw [wds_len] at this
      exact h this
theorem lines_txt (q : Nat) (ps : List (Nat × Nat)) : lines (txt (gapOf q) 0 ps) = expl 0 ps := rows_txt q ps 0
theorem expl_wnt : ∀ (ps : List (Nat × Nat)) (i : Nat), (expl i ps).flatMap (·.2) = wnt i ps
  | [], _ => rfl
  | p :: ps, i => by
    rw [expl, List.flatMap_append, expl_wnt ps, wnt]
    congr 1
    by_cases h : p.1 = 0
    · rw [if_pos h, h]; rfl
    · rw [if_neg h]; simp
theorem expl_in : ∀ (ps : List (Nat × Nat)) (i : Nat), ∀ x ∈ expl i ps, i < x.1 ∧ x.1 ≤ i + ps.length ∧ x.2 ≠ []
  | [], _, x, hx => by cases hx
  | p :: ps, i, x, hx => by
    rw [expl] at hx
    rcases List.mem_append.1 hx with hx | hx
    · by_cases h : p.1 = 0
      · rw [if_pos h] at hx; cases hx
      · rw [if_neg h] at hx
        simp at hx
        subst hx
        refine ⟨by simp, by simp, ?_⟩
        intro e
        have := congrArg List.length e
        rw [wds_len] at this
        exact h this
    · have := expl_in ps (i + 1) x hx
      rw [List.length_cons]
      exact ⟨by omega, by omega, this.2.2⟩
theorem expl_rise : ∀ (ps : List (Nat × Nat)) (i : Nat), (expl i ps).Pairwise (fun a b => a.1 < b.1)
  | [], _ => List.Pairwise.nil
  | p :: ps, i => by
    rw [expl]
    by_cases h : p.1 = 0
    · rw [if_pos h, List.nil_append]; exact expl_rise ps (i + 1)
    · rw [if_neg h, List.singleton_append]
      refine List.Pairwise.cons ?_ (expl_rise ps (i + 1))
      intro b hb
      exact (expl_in ps (i + 1) b hb).1
theorem expl_len : ∀ (ps : List (Nat × Nat)) (i : Nat), (expl i ps).length ≤ ps.length
  | [], _ => by simp [expl]
  | p :: ps, i => by
    have := expl_len ps (i + 1)
    rw [expl, List.length_append, List.length_cons]
    split
    · simp; omega
    · simp; omega
theorem itoa_one {n : Nat} (h : n < 10) : (Lib.itoa (n : Int)).length = 1 := by
  rw [itoa_nat (by omega), Lib.decDigits_one (by omega)]; rfl
theorem wd_len {i k : Nat} (hi : i < 10) (hk : k < 10) : (wd i k).length = 3 := by simp [wd, itoa_one hi, itoa_one hk]
theorem gap_len (q : Nat) : (gapOf q).length ≤ 4 := by
  match q with
  | 0 => decide
  | 1 => decide
  | 2 => decide
  | q + 3 => exact (by decide : (2 : Nat) ≤ 4)
theorem tail_len {g : List UInt8} (hg : g.length ≤ 4) (t : Nat) : (tailOf g t).length ≤ 14 := by
  match t with
  | 0 => exact Nat.zero_le _
  | 1 => exact (by decide : ([32, 35, 32, 110, 111, 116, 101, 32, 35, 32, 109, 111, 114, 101] : List UInt8).length ≤ 14)
  | 2 => exact (by decide : ([35, 120] : List UInt8).length ≤ 14)
  | t + 3 => exact Nat.le_trans hg (by decide)
theorem body_len {g : List UInt8} (hg : g.length ≤ 4) {i : Nat} (hi : i < 10) : ∀ k : Nat, k < 10 → (body g (wds i k)).length ≤ 7 * k
  | 0, _ => by simp [wds, body]
  | k + 1, h => by
    have := body_len hg hi k (by omega)
    rw [wds_succ, body_snoc, List.length_append, List.length_append, wd_len hi (by omega)]
    omega
theorem txt_len {g : List UInt8} (hg : g.length ≤ 4) : ∀ (ps : List (Nat × Nat)) (i : Nat), i + ps.length ≤ 10 → (∀ p ∈ ps, p.1 < 6) → (txt g i ps).length ≤ 60 * ps.length
  | [], _, _, _ => by simp [txt]
  | p :: ps, i, h, hp => by
    rw [List.length_cons] at h ⊢
    have h1 := txt_len hg ps (i + 1) (by omega) (fun x hx => hp x (by simp [hx]))
    have h2 := body_len hg (i := i) (by omega) p.1 (by have := hp p (by simp); omega)
    have h3 := tail_len hg p.2
    have h4 := hp p (by simp)
    rw [txt, List.length_append, List.length_cons, rowT, List.length_append]
    omega
theorem wnt_len : ∀ (ps : List (Nat × Nat)) (i : Nat), (∀ p ∈ ps, p.1 < 6) → (wnt i ps).length ≤ 5 * ps.length
  | [], _, _ => by simp [wnt]
  | p :: ps, i, hp => by
    have h1 := wnt_len ps (i + 1) (fun x hx => hp x (by simp [hx]))
    have h2 := hp p (by simp)
    rw [wnt, List.length_append, wds_len, List.length_cons]
    omega
end Lx
end Go.Proofs.YthnchjmbjeooiaaDoor
