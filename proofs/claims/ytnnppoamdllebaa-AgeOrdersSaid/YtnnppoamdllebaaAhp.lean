/- What is heard again and again, plainly: who is there, how old; a table of the call's own. -/
import Derived.Test.YtnnppoamdllebaaAf
namespace Go.Proofs.Ytnnppoamdllebaa
open Go.RowKit Sm Ag
def things (n : Nat) : List Th := (List.range n).map fun i : Nat => ((2, (i : Int), 0, 0, 0) : Th)
theorem things_mem {n : Nat} {x : Th} : x ∈ things n ↔ ∃ i : Nat, i < n ∧ x = (2, (i : Int), 0, 0, 0) := by
  unfold things
  simp only [List.mem_map, List.mem_range]
  constructor
  · rintro ⟨i, h, rfl⟩; exact ⟨i, h, rfl⟩
  · rintro ⟨i, h, rfl⟩; exact ⟨i, h, rfl⟩
theorem things_succ (n : Nat) : things (n + 1) = things n ++ [(2, (n : Int), 0, 0, 0)] := by unfold things; rw [List.range_succ, List.map_append]; rfl
theorem things_len (n : Nat) : (things n).length = n := by simp [things]
theorem things_nodup (n : Nat) : (things n).Nodup := by
  induction n with
  | zero => exact List.nodup_nil
  | succ n ih =>
    rw [things_succ, List.nodup_append]
    refine ⟨ih, by simp, fun a ha b hb => ?_⟩
    simp only [List.mem_singleton] at hb
    subst hb
    obtain ⟨i, hi, rfl⟩ := things_mem.1 ha
    simp
    omega
theorem findP_iff (M : List En) (x : Th) : (findP M x).isSome = true ↔ x ∈ M.map (·.t) := by
  unfold findP
  rw [List.find?_isSome, List.mem_map]
  simp
theorem putP_t (M : List En) (y : En) : (putP M y).map (·.t) = if y.t ∈ M.map (·.t) then M.map (·.t) else M.map (·.t) ++ [y.t] := by
  unfold putP
  by_cases h : y.t ∈ M.map (·.t)
  · rw [if_pos h, if_pos ((findP_iff M y.t).2 h), List.map_map]
    refine List.map_congr_left fun e _ => ?_
    simp only [Function.comp]
    split
    · rename_i h; exact h.symm
    · rfl
  · rw [if_neg h, if_neg (fun h1 => h ((findP_iff M y.t).1 h1)), List.map_append]
    rfl
theorem putP_mem {M : List En} {y e : En} (h : e ∈ putP M y) : e = y ∨ (e ∈ M ∧ e.t ≠ y.t) := by
  unfold putP at h
  split at h
  · obtain ⟨z, hz, rfl⟩ := List.mem_map.1 h
    split
    · exact .inl rfl
    · rename_i hn; exact .inr ⟨hz, hn⟩
  · rename_i hf
    rcases List.mem_append.1 h with h | h
    · exact .inr ⟨h, fun e1 => hf ((findP_iff M y.t).2 (List.mem_map.2 ⟨e, h, e1⟩))⟩
    · simp only [List.mem_singleton] at h; exact .inl h
def HS (n a : Nat) (M : List En) : Prop := (a ≤ 3 ∧ M.map (·.t) = things n ∧ ∀ e ∈ M, e.a = a) ∨ (3 < a ∧ M = [])
def IN (n k : Nat) (M : List En) : Prop := (M.map (·.t) = things n ∨ M.map (·.t) = things k) ∧ ∀ e ∈ M, e.a = 0 ∨ (k : Int) ≤ e.t.2.1
theorem HS.tick {n a : Nat} {M : List En} (h : HS n a M) : HS n (a + 1) (M.filterMap old) := by
  rcases h with ⟨h1, h2, h3⟩ | ⟨h1, rfl⟩
  · by_cases h4 : a = 3
    · refine .inr ⟨by omega, List.filterMap_eq_nil_iff.2 fun e he => ?_⟩
      unfold old
      rw [if_pos (by have := h3 e he; omega)]
    · refine .inl ⟨by omega, ?_, fun e he => ?_⟩
      · rw [← h2, List.map_filterMap]
        have : ∀ l : List En, (∀ e ∈ l, e.a = a) → l.filterMap (fun x => Option.map (fun x => x.t) (old x)) = l.map (·.t) := by
          intro l
          induction l with
          | nil => intro _; rfl
          | cons e r ih =>
            intro hl
            have : old e = some { e with a := e.a + 1 } := by unfold old; rw [if_neg (by have := hl e (by simp); omega)]
            rw [List.filterMap_cons, this, List.map_cons, ih (fun z hz => hl z (by simp [hz]))]
            rfl
        exact this M h3
      · obtain ⟨z, hz, hzo⟩ := List.mem_filterMap.1 he
        unfold old at hzo
        split at hzo
        · cases hzo
        · cases hzo
          have := h3 z hz
          simp only
          omega
  · exact .inr ⟨by omega, rfl⟩
theorem HS.into {n a : Nat} {M : List En} (h : HS n a M) : IN n 0 M := by
  rcases h with ⟨_, h2, _⟩ | ⟨_, rfl⟩
  · refine ⟨.inl h2, fun e he => .inr ?_⟩
    have : e.t ∈ things n := by rw [← h2]; exact List.mem_map.2 ⟨e, he, rfl⟩
    obtain ⟨i, _, hi⟩ := things_mem.1 this
    rw [hi]
    simp
  · exact ⟨.inr rfl, fun e he => by cases he⟩
theorem IN.step {n k : Nat} {M : List En} (h : IN n k M) (hk : k < n) (m : Ms) : IN n (k + 1) (putP M ⟨(2, (k : Int), 0, 0, 0), 0, m⟩) := by
  have hkn : ((2, (k : Int), 0, 0, 0) : Th) ∈ things n := things_mem.2 ⟨k, hk, rfl⟩
  refine ⟨?_, fun e he => ?_⟩
  · rw [putP_t]
    rcases h.1 with h1 | h1
    · left; rw [h1, if_pos hkn]
    · right
      rw [h1, if_neg ?_, things_succ]
      intro hm
      obtain ⟨i, hi, e⟩ := things_mem.1 hm
      simp at e
      omega
  · rcases putP_mem he with rfl | ⟨h1, h2⟩
    · exact .inl rfl
    · rcases h.2 e h1 with h3 | h3
      · exact .inl h3
      · right
        have hen : ∃ i : Nat, e.t = (2, (i : Int), 0, 0, 0) := by
          have hm : e.t ∈ M.map (·.t) := List.mem_map.2 ⟨e, h1, rfl⟩
          rcases h.1 with h4 | h4
          · rw [h4] at hm
            obtain ⟨i, _, hi⟩ := things_mem.1 hm
            exact ⟨i, hi⟩
          · rw [h4] at hm
            obtain ⟨i, _, hi⟩ := things_mem.1 hm
            exact ⟨i, hi⟩
        obtain ⟨i, hi⟩ := hen
        rw [hi] at h2 h3 ⊢
        simp at h2 h3 ⊢
        omega
theorem IN.done {n : Nat} {M : List En} (h : IN n n M) : HS n 0 M := by
  have h1 : M.map (·.t) = things n := by rcases h.1 with h | h <;> exact h
  refine .inl ⟨by omega, h1, fun e he => ?_⟩
  rcases h.2 e he with h2 | h2
  · exact h2
  · have : e.t ∈ things n := by rw [← h1]; exact List.mem_map.2 ⟨e, he, rfl⟩
    obtain ⟨i, hi, e2⟩ := things_mem.1 this
    rw [e2] at h2
    simp at h2
    omega
theorem IN.small {n k : Nat} {M : List En} (h : IN n k M) (hn : n ≤ 100) (hk : k ≤ n) : M.length < 65536 := by
  have h0 : (M.map (·.t)).length = M.length := List.length_map _
  rcases h.1 with h | h <;> rw [h, things_len] at h0 <;> omega
theorem HS.len {n a : Nat} {M : List En} (h : HS n a M) : M.length = if a ≤ 3 then n else 0 := by
  rcases h with ⟨h1, h2, _⟩ | ⟨h1, rfl⟩
  · rw [if_pos h1, ← things_len n, ← h2, List.length_map]
  · rw [if_neg (by omega)]; rfl
theorem HS.got {n a : Nat} {M : List En} (h : HS n a M) (hn : 1 ≤ n) : (a ≤ 3 ∧ (findP M (2, 0, 0, 0, 0)).isSome = true ∧ ((findP M (2, 0, 0, 0, 0)).getD z0.e).a = a) ∨ (3 < a ∧ (findP M (2, 0, 0, 0, 0)).isSome = false) := by
  rcases h with ⟨h1, h2, h3⟩ | ⟨h1, rfl⟩
  · have hs : (findP M (2, 0, 0, 0, 0)).isSome = true := (findP_iff _ _).2 (by rw [h2]; exact things_mem.2 ⟨0, hn, rfl⟩)
    refine .inl ⟨h1, hs, ?_⟩
    cases hf : findP M (2, 0, 0, 0, 0) with
    | none => rw [hf] at hs; cases hs
    | some e =>
      unfold findP at hf
      exact h3 e (List.mem_of_find?_eq_some hf)
  · exact .inr ⟨h1, rfl⟩
theorem HS.kinds {n a : Nat} {M : List En} (h : HS n a M) : (∀ L : List Ex, AllP M 1 (L.map (·.e)) → L.length = 0) ∧ ∀ L : List Ex, AllP M 2 (L.map (·.e)) → L.length = M.length := by
  have hk : ∀ e ∈ M, e.t.1 = 2 := fun e he => by
    rcases h with ⟨_, h2, _⟩ | ⟨_, rfl⟩
    · have : e.t ∈ things n := by rw [← h2]; exact List.mem_map.2 ⟨e, he, rfl⟩
      obtain ⟨i, _, e2⟩ := things_mem.1 this
      rw [e2]
    · cases he
  have hnd : M.Nodup := by
    rcases h with ⟨_, h2, _⟩ | ⟨_, rfl⟩
    · have : (M.map (·.t)).Nodup := by rw [h2]; exact things_nodup n
      unfold List.Nodup at this ⊢
      rw [List.pairwise_map] at this
      exact this.imp fun h e => h (congrArg En.t e)
    · exact List.nodup_nil
  refine ⟨fun L ⟨_, h2⟩ => ?_, fun L ⟨h1, h2⟩ => ?_⟩
  · cases L with
    | nil => rfl
    | cons y r =>
      obtain ⟨h3, h4⟩ := (h2 y.e).1 (by simp)
      rw [hk _ h3] at h4
      cases h4
  · have hl : (L.map (·.e)).Nodup := h1.imp fun {a b} hab e => by rw [e] at hab; exact ltT_irrefl _ hab
    have hp : (L.map (·.e)).Perm M := (List.perm_ext_iff_of_nodup hl hnd).2 fun e => by
      rw [h2]
      exact ⟨fun h => h.1, fun h => ⟨h, hk e h⟩⟩
    have := hp.length_eq
    simpa using this
/-- a table of the call's own at N, of which P holds -/
def TS (w : World) (N : Nat) (P : List En → Prop) (wr : World) : Prop := ∃ mb M, TP wr N mb M ∧ P M ∧ Mine w.heap.size N mb ∧ Below w.heap.size w wr
section
variable {w wr : World} {N : Nat} {P Q : List En → Prop}
theorem TS.next {w2 : World} (h : TS w N P wr) (hb : Below wr.heap.size wr w2) : TS w N P w2 := by
  obtain ⟨mb, M, h1, h2, h3, h4⟩ := h
  exact ⟨mb, M, h1.next hb, h2, h3, h4.trans (hb.mono h4.size)⟩
theorem TS.imp (h : TS w N P wr) (hi : ∀ M, P M → Q M) : TS w N Q wr := by
  obtain ⟨mb, M, h1, h2, h3, h4⟩ := h
  exact ⟨mb, M, h1, hi M h2, h3, h4⟩
theorem TS.below (h : TS w N P wr) : Below w.heap.size w wr := by obtain ⟨_, _, _, _, _, h⟩ := h; exact h
theorem hear_ts (h : TS w N P wr) (x : Th) (m : Ms) (A : Option Addr) (n cp : Nat) (hx : wfT x) (hroom : ∀ M, P M → M.length < 65536) (ha : AR wr A n m.l) (hn : n ≤ 1000000) (hQ : ∀ M, P M → Q (putP M ⟨x, 0, m⟩)) :
    Calls Try.prog 10 #[.pointer (some ⟨N, 0, none⟩), tv x, mv m A n cp] wr fun e w' => e = .returned (.bool true) ∧ TS w N Q w' := by
  obtain ⟨mb, M, h1, h2, h3, h4⟩ := h
  refine (hear_p wr N mb M x m A n cp h1 hx (hroom M h2) ha hn).mono ?_
  rintro e w' ⟨rfl, mb', h5, h6, h7⟩
  exact ⟨rfl, mb', _, h5, hQ M h2, h3.heard h4.size h7, h4.trans (h3.below h6 h4.size)⟩
theorem tick_ts (h : TS w N P wr) (hs : ∀ M, P M → M.length ≤ 1000000) (hQ : ∀ M, P M → Q (M.filterMap old)) :
    Calls Try.prog 13 #[.pointer (some ⟨N, 0, none⟩)] wr fun e w' => ∃ v, e = .returned (.int .i64 v) ∧ TS w N Q w' := by
  obtain ⟨mb, M, h1, h2, h3, h4⟩ := h
  refine (tick_p wr N mb M h1 (hs M h2)).mono ?_
  rintro e w' ⟨rfl, h5, h6⟩
  exact ⟨_, rfl, mb, _, h5, hQ M h2, h3, h4.trans (h3.below h6 h4.size)⟩
theorem len_ts (h : TS w N P wr) (l : Nat) (hl : ∀ M, P M → M.length = l) :
    Calls Try.prog 9 #[.pointer (some ⟨N, 0, none⟩)] wr fun e w' => e = .returned (.int .i64 l) ∧ wr = w' := by
  obtain ⟨mb, M, h1, h2, h3, h4⟩ := h
  rw [← hl M h2]
  exact len_p wr N mb M h1
theorem get_hs {q a : Nat} (h : TS w N (HS q a) wr) (hq : 1 ≤ q) :
    Calls Try.prog 20 #[.pointer (some ⟨N, 0, none⟩), .agg #[.int .i64 2, .int .i64 0, .int .u32 0, .int .u32 0, .int .u32 0]] wr fun e w' => ∃ y : Ex, e = .returned (.tuple #[ev y, .bool (decide (a ≤ 3))]) ∧ (a ≤ 3 → y.e.a = a) ∧ TS w N (HS q a) w' := by
  have h' := h
  obtain ⟨mb, M, h1, h2, h3, h4⟩ := h'
  refine (get_p wr N mb M (2, 0, 0, 0, 0) h1 (by unfold wfT i64 isA; simp)).mono ?_
  rintro e w' ⟨v, rfl, ⟨A, n, c, rfl, _⟩, hb⟩
  rcases h2.got hq with ⟨g1, g2, g3⟩ | ⟨g1, g2⟩
  · have hd : decide (a ≤ 3) = true := by simpa using g1
    exact ⟨⟨(findP M (2, 0, 0, 0, 0)).getD z0.e, A, n, c⟩, by rw [g2, hd], fun _ => g3, h.next hb⟩
  · have hd : decide (a ≤ 3) = false := by simpa using g1
    exact ⟨⟨(findP M (2, 0, 0, 0, 0)).getD z0.e, A, n, c⟩, by rw [g2, hd], fun h => absurd h (by omega), h.next hb⟩
theorem all_ts (h : TS w N P wr) (kind : Int) (hs : ∀ M, P M → M.length ≤ 100000) (l : Nat) (hl : ∀ M, P M → ∀ L : List Ex, AllP M kind (L.map (·.e)) → L.length = l) :
    Calls Try.prog 17 #[.pointer (some ⟨N, 0, none⟩), .int .i64 kind] wr fun e w' => ∃ (A : Option Addr) (c : Nat), e = .returned (.slice A l c) ∧ TS w N P w' := by
  have h' := h
  obtain ⟨mb, M, h1, h2, h3, h4⟩ := h'
  refine (all_p wr N mb M kind h1 (hs M h2)).mono ?_
  rintro e w' ⟨A, c, L, rfl, _, _, h5, hb⟩
  rw [hl M h2 L h5]
  exact ⟨A, c, rfl, h.next hb⟩
end
end Go.Proofs.Ytnnppoamdllebaa

