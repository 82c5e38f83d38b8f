/- Three tables of rows of numbers beside one another, and a row that grows; over the seat's types. -/
import Derived.Test.YtboehoflaceohaaGreatDoorCl0
import Derived.Test.YtboehoflaceohaaGreatDoorOn
namespace Go.Proofs.YtboehoflaceohaaGreatDoor
open Go.RowKit Lx Sm
structure RT (b : Nat) (G n : Nat → Nat) (xs : Nat → Nat → List Int) (W : World) : Prop where
  tab : ∀ t, t < 3 → ∃ cs : Array Value, cs.size = n t ∧ Blk W (G t) 75 cs
  gb : ∀ t, t < 3 → b ≤ G t
  gap : ∀ t u, t < 3 → u < 3 → t ≠ u → G t ≠ G u
  row : ∀ t, t < 3 → ∀ i, i < n t → ∀ v, W.cell? ⟨G t, i, none⟩ = some v → W.ownsRow b 3 1 v (xs t i).length (I64 (xs t i))
  apart : ∀ t u, t < 3 → u < 3 → ∀ i j, i < n t → j < n u → (t, i) ≠ (u, j) → ∀ v v' h, W.cell? ⟨G t, i, none⟩ = some v → W.cell? ⟨G u, j, none⟩ = some v' → v.ownBlock = some h → v'.ownBlock ≠ some h
section
variable {b : Nat} {G n : Nat → Nat} {xs : Nat → Nat → List Int} {W W' : World}
theorem own_blk {t : TypeId} {k m : Nat} {v : Value} {ys : List Value} (h : W.ownsRow b t k v m ys) {g : Nat} (hg : v.ownBlock = some g) : ∃ cs, Blk W g t cs := by
  rcases h.2 with ⟨rfl, _⟩ | ⟨g', cap, cur, rfl, _, hh, _⟩
  · simp [Value.ownBlock] at hg
  · simp only [Value.ownBlock, Option.some.injEq] at hg
    subst hg
    exact ⟨cur, hh⟩
theorem RT.cell (h : RT b G n xs W) {t i : Nat} (ht : t < 3) (hi : i < n t) : ∃ v, W.cell? ⟨G t, i, none⟩ = some v ∧ W.ownsRow b 3 1 v (xs t i).length (I64 (xs t i)) := by
  obtain ⟨cs, hz, hb⟩ := h.tab t ht
  have hc : W.cell? ⟨G t, i, none⟩ = some (cs[i]'(by omega)) := by rw [hb.cell i]; simp
  exact ⟨_, hc, h.row t ht i hi _ hc⟩
theorem RT.same (h : RT b G n xs W) (hs : ∀ g t cs, Blk W g t cs → W'.heap[g]? = W.heap[g]?) : RT b G n xs W' := by
  have hc : ∀ t, t < 3 → ∀ i, W'.cell? ⟨G t, i, none⟩ = W.cell? ⟨G t, i, none⟩ := fun t ht i => by
    obtain ⟨cs, _, hb⟩ := h.tab t ht
    exact World.cell?_of_block (a := ⟨G t, i, none⟩) (hs _ _ _ hb)
  refine ⟨fun t ht => ?_, h.gb, h.gap, fun t ht i hi v hv => ?_, fun t u ht hu i j hi hj hne v v' g hv hv' hg => ?_⟩
  · obtain ⟨cs, hz, hb⟩ := h.tab t ht
    exact ⟨cs, hz, (hs _ _ _ hb).trans hb⟩
  · rw [hc t ht i] at hv
    have ho := h.row t ht i hi v hv
    exact own_at ho (fun g hg => by obtain ⟨cs, hb⟩ := own_blk ho hg; exact hs _ _ _ hb)
  · rw [hc t ht i] at hv
    rw [hc u hu j] at hv'
    exact h.apart t u ht hu i j hi hj hne v v' g hv hv' hg
theorem RT.next (h : RT b G n xs W) (hb : Below W.heap.size W W') : RT b G n xs W' := h.same fun g _ _ hg => hb.block g hg.lt
theorem types_ne {g : Nat} {cs cs' : Array Value} (h1 : Blk W g 3 cs) (h2 : Blk W g 75 cs') : False := by
  unfold Blk at h1 h2
  rw [h1] at h2
  cases h2
/-- a row grows by one number: append, and the row stored again -/
theorem RT.step {t l : Nat} {k : Int} (h : RT b G n xs W) (ht : t < 3) (hl : l < n t) {v v' : Value} (hv : W.cell? ⟨G t, l, none⟩ = some v) {W2 : World} (hown : W2.ownsRow b 3 1 v' ((xs t l).length + 1) (I64 (xs t l) ++ [.int .i64 k]))
    (hg : W.grownBy W2 v.ownBlock) (hat : v'.ownBlock = v.ownBlock ∨ ∃ h, v'.ownBlock = some h ∧ W.heap.size ≤ h) :
    RT b G n (fun t' i => if t' = t ∧ i = l then xs t l ++ [k] else xs t' i) (W2.setCell ⟨G t, l, none⟩ v') ∧ Fr2 W (W2.setCell ⟨G t, l, none⟩ v') ∧ (∀ w B, B ≤ b → Below B w W → Below B w (W2.setCell ⟨G t, l, none⟩ v')) ∧
    ∀ (g : Nat) (es : Array MapEntry) (clock : Nat), W.heap[g]? = some (Obj.map es clock) → (W2.setCell ⟨G t, l, none⟩ v').heap[g]? = some (Obj.map es clock) := by
  have hrow := h.row t ht l hl v hv
  have hvb : ∀ g, v.ownBlock = some g → ∃ cs, Blk W g 3 cs := fun g hg => own_blk hrow hg
  have hA : ∀ g, g < W.heap.size → v.ownBlock ≠ some g → W2.heap[g]? = W.heap[g]? := fun g hlt hne => hg.block g hlt (fun e => hne e.symm)
  have hGn : ∀ u, u < 3 → v.ownBlock ≠ some (G u) := fun u hu e => by
    obtain ⟨cs, h1⟩ := hvb _ e
    obtain ⟨cs', _, h2⟩ := h.tab u hu
    exact types_ne h1 h2
  have hGb : ∀ u, u < 3 → ∃ cs : Array Value, cs.size = n u ∧ Blk W (G u) 75 cs ∧ Blk W2 (G u) 75 cs := fun u hu => by
    obtain ⟨cs, hz, h2⟩ := h.tab u hu
    exact ⟨cs, hz, h2, (hA _ h2.lt (hGn u hu)).trans h2⟩
  have hc2 : ∀ u, u < 3 → ∀ i, W2.cell? ⟨G u, i, none⟩ = W.cell? ⟨G u, i, none⟩ := fun u hu i => by
    obtain ⟨cs, _, h1, h2⟩ := hGb u hu
    rw [h1.cell, h2.cell]
  obtain ⟨csT, hzT, hT, hT2⟩ := hGb t ht
  have hct : (W2.setCell ⟨G t, l, none⟩ v').cell? ⟨G t, l, none⟩ = some v' := World.cell?_setCell_same _ _ _ (by rw [hc2 t ht]; exact hv)
  have hco : ∀ u, u < 3 → ∀ i, (u, i) ≠ (t, l) → (W2.setCell ⟨G t, l, none⟩ v').cell? ⟨G u, i, none⟩ = W.cell? ⟨G u, i, none⟩ := fun u hu i hne => by
    rw [← hc2 u hu i]
    by_cases hut : u = t
    · subst hut
      refine World.cell?_setCell_other _ _ _ _ ?_
      intro e
      simp only [Addr.mk.injEq, true_and, and_true] at e
      exact hne (by rw [e])
    · refine World.cell?_setCell_other _ _ _ _ ?_
      intro e
      simp only [Addr.mk.injEq, and_true] at e
      exact h.gap u t hu ht hut e.1.symm
  have hS : ∀ g, g ≠ G t → (W2.setCell ⟨G t, l, none⟩ v').heap[g]? = W2.heap[g]? := fun g hne => Below.heap_setCell W2 ⟨G t, l, none⟩ v' g hne
  refine ⟨⟨fun u hu => ?_, h.gb, h.gap, fun u hu i hi y hy => ?_, fun u u' hu hu' i j hi hj hne y y' g hy hy' hgy => ?_⟩, ⟨?_, fun g t' cs hgb h1 h2 => ?_⟩, fun w B hB hw => ?_, fun g es clock hm => ?_⟩
  · obtain ⟨cs, hz, _, h2⟩ := hGb u hu
    by_cases hut : u = t
    · subst hut
      exact ⟨_, by simpa using hz, h2.set_ l v'⟩
    · exact ⟨cs, hz, (hS _ (h.gap u t hu ht hut)).trans h2⟩
  · by_cases hul : u = t ∧ i = l
    · obtain ⟨rfl, rfl⟩ := hul
      rw [hct] at hy
      cases hy
      rw [if_pos ⟨rfl, rfl⟩, I64_app, List.length_append]
      exact ownk_far hown hT2.slot (by decide)
    · rw [if_neg hul]
      have hne : (u, i) ≠ (t, l) := fun e => hul ⟨congrArg Prod.fst e, congrArg Prod.snd e⟩
      rw [hco u hu i hne] at hy
      have ho := h.row u hu i hi y hy
      refine own_at ho fun g hgy => ?_
      obtain ⟨cs, hgb⟩ := own_blk ho hgy
      rw [hS g (fun e => by subst e; exact types_ne hgb hT)]
      exact hA g hgb.lt (fun e => h.apart u t hu ht i l hi hl hne y v g hy hv hgy e)
  · by_cases hul : u = t ∧ i = l
    · obtain ⟨rfl, rfl⟩ := hul
      rw [hct] at hy
      cases hy
      rw [hco u' hu' j (fun e => hne e.symm)] at hy'
      rcases hat with e | ⟨h', e, hle⟩
      · rw [e] at hgy
        exact h.apart u u' hu hu' i j hi hj hne v y' g hv hy' hgy
      · intro e2
        rw [e] at hgy
        cases hgy
        obtain ⟨cs, hgb⟩ := own_blk (h.row u' hu' j hj y' hy') e2
        exact absurd hgb.lt (Nat.not_lt.2 hle)
    · have hn1 : (u, i) ≠ (t, l) := fun e => hul ⟨congrArg Prod.fst e, congrArg Prod.snd e⟩
      rw [hco u hu i hn1] at hy
      by_cases hul' : u' = t ∧ j = l
      · obtain ⟨rfl, rfl⟩ := hul'
        rw [hct] at hy'
        cases hy'
        rcases hat with e | ⟨h', e, hle⟩
        · rw [e]
          exact h.apart u u' hu hu' i j hi hj hne y v g hy hv hgy
        · rw [e]
          intro e2
          cases e2
          obtain ⟨cs, hgb⟩ := own_blk (h.row u hu i hi y hy) hgy
          exact absurd hgb.lt (Nat.not_lt.2 hle)
      · have hn2 : (u', j) ≠ (t, l) := fun e => hul' ⟨congrArg Prod.fst e, congrArg Prod.snd e⟩
        rw [hco u' hu' j hn2] at hy'
        exact h.apart u u' hu hu' i j hi hj hne y y' g hy hy' hgy
  · have := hg.size
    simp
    omega
  · rw [hS g (fun e => by
      subst e
      unfold Blk at hgb hT
      rw [hgb] at hT
      cases hT
      exact h2 rfl)]
    refine hA g hgb.lt (fun e => ?_)
    obtain ⟨cs', h3⟩ := hvb _ e
    unfold Blk at hgb h3
    rw [hgb] at h3
    cases h3
    exact h1 rfl
  · have hlt : B ≤ W.heap.size := Nat.le_trans hB (Nat.le_trans (h.gb t ht) (Nat.le_of_lt hT.lt))
    have h2 : Below B w W2 := hw.grown hg hlt (fun j e => Nat.le_trans hB (hrow.lt j e).1)
    exact h2.setCell (Nat.le_trans hB (h.gb t ht)) v'
  · rw [hS g (fun e => by
      subst e
      unfold Blk at hT
      rw [hm] at hT
      cases hT)]
    rw [hA g (Array.getElem?_eq_some_iff.1 hm).1 (fun e => by
      obtain ⟨cs', h3⟩ := hvb _ e
      unfold Blk at h3
      rw [hm] at h3
      cases h3)]
    exact hm
theorem RT.stepG {t l gt : Nat} {k : Int} (h : RT b G n xs W) (hG : G t = gt) (ht : t < 3) (hl : l < n t) {v v' : Value} (hv : W.cell? ⟨gt, l, none⟩ = some v) {W2 : World} (hown : W2.ownsRow b 3 1 v' ((xs t l).length + 1) (I64 (xs t l) ++ [.int .i64 k]))
    (hg : W.grownBy W2 v.ownBlock) (hat : v'.ownBlock = v.ownBlock ∨ ∃ h, v'.ownBlock = some h ∧ W.heap.size ≤ h) :
    RT b G n (fun t' i => if t' = t ∧ i = l then xs t l ++ [k] else xs t' i) (W2.setCell ⟨gt, l, none⟩ v') ∧ Fr2 W (W2.setCell ⟨gt, l, none⟩ v') ∧ (∀ w B, B ≤ b → Below B w W → Below B w (W2.setCell ⟨gt, l, none⟩ v')) ∧
    ∀ (g : Nat) (es : Array MapEntry) (clock : Nat), W.heap[g]? = some (Obj.map es clock) → (W2.setCell ⟨gt, l, none⟩ v').heap[g]? = some (Obj.map es clock) := by
  subst hG
  exact h.step ht hl hv hown hg hat
/-- the worlds of a region that appends once to a row, and stores it behind -/
def Tg (W5 : World) (row : Option Nat) (a : Nat) (l : List Nat) (W : World) : Prop := if a ∈ l then W5.grownBy W row else Below W5.heap.size W5 W
def Kg (row : Option Nat) (p a : Nat) (i : Nat) (w : World) (_ : Value) (w' : World) : Prop := if i = a then w.grownBy w' row else if i = p then Below w.heap.size w w' else w' = w
theorem grown_below {w w' : World} {row : Option Nat} (h : Below w.heap.size w w') : w.grownBy w' row := ⟨h.os, h.tape, h.output, h.size, fun k hk _ => h.block k hk⟩
theorem Tg.grown {W5 W : World} {row : Option Nat} {a : Nat} {l : List Nat} (h : Tg W5 row a l W) : W5.grownBy W row := by
  unfold Tg at h
  split at h
  · exact h
  · exact grown_below h
theorem Tg.step {W5 w w' : World} {row : Option Nat} {p a i : Nat} {l : List Nat} {v : Value} (h : Tg W5 row a l w) (k : Kg row p a i w v w') : Tg W5 row a (l ++ [i]) w' := by
  unfold Kg at k
  by_cases e : i = a
  · subst e
    rw [if_pos rfl] at k
    unfold Tg
    rw [if_pos (by simp)]
    exact h.grown.trans k
  · rw [if_neg e] at k
    unfold Tg at h ⊢
    have hm : a ∈ l ++ [i] ↔ a ∈ l := by simp [Ne.symm e]
    by_cases ha : a ∈ l
    · rw [if_pos ha] at h
      rw [if_pos (hm.2 ha)]
      split at k
      · exact h.trans (grown_below k)
      · rw [k]; exact h
    · rw [if_neg ha] at h
      rw [if_neg (fun q => ha (hm.1 q))]
      split at k
      · exact h.trans (k.mono h.size)
      · rw [k]; exact h
theorem Tg.cell {W5 W : World} {row : Option Nat} {a : Nat} {l : List Nat} (h : Tg W5 row a l W) {p : Addr} {v : Value} (hc : W5.cell? p = some v) (hn : row ≠ some p.block) : W.cell? p = some v :=
  (World.cell?_of_block (h.grown.block _ (World.block_lt_of_cell? W5 p hc) (fun e => hn e.symm))).trans hc
theorem Kg.grown {row : Option Nat} {p a i : Nat} {w w' : World} {v : Value} (k : Kg row p a i w v w') : w.grownBy w' row := by
  unfold Kg at k
  split at k
  · exact k
  · split at k
    · exact grown_below k
    · rw [k]; exact grown_below (Below.refl _ _)
theorem Kg.quiet {row : Option Nat} {p a i : Nat} {w : World} {v : Value} (h1 : i ≠ a) (h2 : i ≠ p) : Kg row p a i w v w := by unfold Kg; rw [if_neg h1, if_neg h2]
theorem Kg.is_ {row : Option Nat} {p a i : Nat} {w w' : World} {v : Value} (k : Kg row p a i w v w') (h1 : i ≠ a) (h2 : i ≠ p) : w' = w := by unfold Kg at k; rwa [if_neg h1, if_neg h2] at k
theorem Kg.new {row : Option Nat} {p a : Nat} {w w' : World} {v : Value} (h : Below w.heap.size w w') (hpa : p ≠ a) : Kg row p a p w v w' := by unfold Kg; rw [if_neg hpa, if_pos rfl]; exact h
theorem Kg.app {row : Option Nat} {p a : Nat} {w w' : World} {v : Value} (h : w.grownBy w' row) : Kg row p a a w v w' := by unfold Kg; rw [if_pos rfl]; exact h
theorem Tg.blk {W5 W : World} {row : Option Nat} {a : Nat} {l : List Nat} (h : Tg W5 row a l W) {g : Nat} {t : TypeId} {cs : Array Value} (hc : Blk W5 g t cs) (hn : row ≠ some g) : Blk W g t cs := (h.grown.block _ hc.lt (fun e => hn e.symm)).trans hc
theorem Tg.pre {W5 W : World} {row : Option Nat} {a : Nat} {l : List Nat} (h : Tg W5 row a l W) (ha : a ∉ l) : Below W5.heap.size W5 W := by unfold Tg at h; rwa [if_neg ha] at h
theorem Tg.nil {W5 W : World} {row : Option Nat} {a : Nat} (h : Below W5.heap.size W5 W) : Tg W5 row a [] W := by unfold Tg; rw [if_neg (by simp)]; exact h
theorem RT.row_ne {b : Nat} {G n : Nat → Nat} {xs : Nat → Nat → List Int} {W : World} (h : RT b G n xs W) {t i : Nat} (ht : t < 3) (hi : i < n t) {v : Value} (hv : W.cell? ⟨G t, i, none⟩ = some v) {g : Nat} {t' : TypeId} {cs : Array Value} (hb : Blk W g t' cs) (hne : t' ≠ 3) : v.ownBlock ≠ some g := fun e => by
  obtain ⟨cs', h2⟩ := own_blk (h.row t ht i hi v hv) e
  unfold Blk at hb h2
  rw [hb] at h2
  cases h2
  exact hne rfl
end
end Go.Proofs.YtboehoflaceohaaGreatDoor

