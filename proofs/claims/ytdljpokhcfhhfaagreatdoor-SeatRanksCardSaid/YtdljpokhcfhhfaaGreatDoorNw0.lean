/- Three tables of rows of numbers beside one another, and a row that grows; over the seat's types. topo.New of a valid network: who is where, in new memory; over the seat's program. -/
import Derived.Test.YtdljpokhcfhhfaaGreatDoorCl0
import Derived.Test.YtdljpokhcfhhfaaGreatDoorOn
import Derived.Test.YtdljpokhcfhhfaaGreatDoorVd
import Derived.Test.YtdljpokhcfhhfaaGreatDoorCl
import Derived.Test.YtdljpokhcfhhfaaGreatDoorKa
import Derived.Maps.OwnSet
import Derived.Maps.Keyed
import Derived.Maps.Views
import Derived.Carry
import Derived.Handy
namespace Go.Proofs.YtdljpokhcfhhfaaGreatDoor
open Go.RowKit Lx Sm
structure RT (b : Nat) (G n : Nat → Nat) (xs : Nat → Nat → List Int) (W : World) : Prop where
  tab : ∀ t, t < 3 → ∃ cs : Array Value, cs.size = n t ∧ Blk W (G t) 52 cs
  gb : ∀ t, t < 3 → b ≤ G t
  gap : ∀ t u, t < 3 → u < 3 → t ≠ u → G t ≠ G u
  row : ∀ t, t < 3 → ∀ i, i < n t → ∀ v, W.cell? ⟨G t, i, none⟩ = some v → W.ownsRow b 3 1 v (xs t i).length (I64 (xs t i))
  apart : ∀ t u, t < 3 → u < 3 → ∀ i j, i < n t → j < n u → (t, i) ≠ (u, j) → ∀ v v' h, W.cell? ⟨G t, i, none⟩ = some v → W.cell? ⟨G u, j, none⟩ = some v' → v.ownBlock = some h → v'.ownBlock ≠ some h
section
variable {b : Nat} {G n : Nat → Nat} {xs : Nat → Nat → List Int} {W W' : World}
theorem own_blk {t : TypeId} {k m : Nat} {v : Value} {ys : List Value} (h : W.ownsRow b t k v m ys) {g : Nat} (hg : v.ownBlock = some g) : ∃ cs, Blk W g t cs := by
  rcases h.2 with ⟨rfl, _⟩ | ⟨g', cap, cur, rfl, _, hh, _⟩
  · simp [Value.ownBlock] at hg
  · simp only [Value.ownBlock, Option.some.injEq] at hg
    subst hg
    exact ⟨cur, hh⟩
theorem RT.cell (h : RT b G n xs W) {t i : Nat} (ht : t < 3) (hi : i < n t) : ∃ v, W.cell? ⟨G t, i, none⟩ = some v ∧ W.ownsRow b 3 1 v (xs t i).length (I64 (xs t i)) := by
  obtain ⟨cs, hz, hb⟩ := h.tab t ht
  have hc : W.cell? ⟨G t, i, none⟩ = some (cs[i]'(by omega)) := by rw [hb.cell i]; simp
  exact ⟨_, hc, h.row t ht i hi _ hc⟩
theorem RT.same (h : RT b G n xs W) (hs : ∀ g t cs, Blk W g t cs → W'.heap[g]? = W.heap[g]?) : RT b G n xs W' := by
  have hc : ∀ t, t < 3 → ∀ i, W'.cell? ⟨G t, i, none⟩ = W.cell? ⟨G t, i, none⟩ := fun t ht i => by
    obtain ⟨cs, _, hb⟩ := h.tab t ht
    exact World.cell?_of_block (a := ⟨G t, i, none⟩) (hs _ _ _ hb)
  refine ⟨fun t ht => ?_, h.gb, h.gap, fun t ht i hi v hv => ?_, fun t u ht hu i j hi hj hne v v' g hv hv' hg => ?_⟩
  · obtain ⟨cs, hz, hb⟩ := h.tab t ht
    exact ⟨cs, hz, (hs _ _ _ hb).trans hb⟩
  · rw [hc t ht i] at hv
    have ho := h.row t ht i hi v hv
    exact own_at ho (fun g hg => by obtain ⟨cs, hb⟩ := own_blk ho hg; exact hs _ _ _ hb)
  · rw [hc t ht i] at hv
    rw [hc u hu j] at hv'
    exact h.apart t u ht hu i j hi hj hne v v' g hv hv' hg
theorem RT.next (h : RT b G n xs W) (hb : Below W.heap.size W W') : RT b G n xs W' := h.same fun g _ _ hg => hb.block g hg.lt
theorem types_ne {g : Nat} {cs cs' : Array Value} (h1 : Blk W g 3 cs) (h2 : Blk W g 52 cs') : False := by
  unfold Blk at h1 h2
  rw [h1] at h2
  cases h2
/-- a row grows by one number: append, and the row stored again -/
theorem RT.step {t l : Nat} {k : Int} (h : RT b G n xs W) (ht : t < 3) (hl : l < n t) {v v' : Value} (hv : W.cell? ⟨G t, l, none⟩ = some v) {W2 : World} (hown : W2.ownsRow b 3 1 v' ((xs t l).length + 1) (I64 (xs t l) ++ [.int .i64 k]))
    (hg : W.grownBy W2 v.ownBlock) (hat : v'.ownBlock = v.ownBlock ∨ ∃ h, v'.ownBlock = some h ∧ W.heap.size ≤ h) :
    RT b G n (fun t' i => if t' = t ∧ i = l then xs t l ++ [k] else xs t' i) (W2.setCell ⟨G t, l, none⟩ v') ∧ Fr2 W (W2.setCell ⟨G t, l, none⟩ v') ∧ (∀ w B, B ≤ b → Below B w W → Below B w (W2.setCell ⟨G t, l, none⟩ v')) ∧
    ∀ (g : Nat) (es : Array MapEntry) (clock : Nat), W.heap[g]? = some (Obj.map es clock) → (W2.setCell ⟨G t, l, none⟩ v').heap[g]? = some (Obj.map es clock) := by
  have hrow := h.row t ht l hl v hv
  have hvb : ∀ g, v.ownBlock = some g → ∃ cs, Blk W g 3 cs := fun g hg => own_blk hrow hg
  have hA : ∀ g, g < W.heap.size → v.ownBlock ≠ some g → W2.heap[g]? = W.heap[g]? := fun g hlt hne => hg.block g hlt (fun e => hne e.symm)
  have hGn : ∀ u, u < 3 → v.ownBlock ≠ some (G u) := fun u hu e => by
    obtain ⟨cs, h1⟩ := hvb _ e
    obtain ⟨cs', _, h2⟩ := h.tab u hu
    exact types_ne h1 h2
  have hGb : ∀ u, u < 3 → ∃ cs : Array Value, cs.size = n u ∧ Blk W (G u) 52 cs ∧ Blk W2 (G u) 52 cs := fun u hu => by
    obtain ⟨cs, hz, h2⟩ := h.tab u hu
    exact ⟨cs, hz, h2, (hA _ h2.lt (hGn u hu)).trans h2⟩
  have hc2 : ∀ u, u < 3 → ∀ i, W2.cell? ⟨G u, i, none⟩ = W.cell? ⟨G u, i, none⟩ := fun u hu i => by
    obtain ⟨cs, _, h1, h2⟩ := hGb u hu
    rw [h1.cell, h2.cell]
  obtain ⟨csT, hzT, hT, hT2⟩ := hGb t ht
  have hct : (W2.setCell ⟨G t, l, none⟩ v').cell? ⟨G t, l, none⟩ = some v' := World.cell?_setCell_same _ _ _ (by rw [hc2 t ht]; exact hv)
  have hco : ∀ u, u < 3 → ∀ i, (u, i) ≠ (t, l) → (W2.setCell ⟨G t, l, none⟩ v').cell? ⟨G u, i, none⟩ = W.cell? ⟨G u, i, none⟩ := fun u hu i hne => by
    rw [← hc2 u hu i]
    by_cases hut : u = t
    · subst hut
      refine World.cell?_setCell_other _ _ _ _ ?_
      intro e
      simp only [Addr.mk.injEq, true_and, and_true] at e
      exact hne (by rw [e])
    · refine World.cell?_setCell_other _ _ _ _ ?_
      intro e
      simp only [Addr.mk.injEq, and_true] at e
      exact h.gap u t hu ht hut e.1.symm
  have hS : ∀ g, g ≠ G t → (W2.setCell ⟨G t, l, none⟩ v').heap[g]? = W2.heap[g]? := fun g hne => Below.heap_setCell W2 ⟨G t, l, none⟩ v' g hne
  refine ⟨⟨fun u hu => ?_, h.gb, h.gap, fun u hu i hi y hy => ?_, fun u u' hu hu' i j hi hj hne y y' g hy hy' hgy => ?_⟩, ⟨?_, fun g t' cs hgb h1 h2 => ?_⟩, fun w B hB hw => ?_, fun g es clock hm => ?_⟩
  · obtain ⟨cs, hz, _, h2⟩ := hGb u hu
    by_cases hut : u = t
    · subst hut
      exact ⟨_, by simpa using hz, h2.set_ l v'⟩
    · exact ⟨cs, hz, (hS _ (h.gap u t hu ht hut)).trans h2⟩
  · by_cases hul : u = t ∧ i = l
    · obtain ⟨rfl, rfl⟩ := hul
      rw [hct] at hy
      cases hy
      rw [if_pos ⟨rfl, rfl⟩, I64_app, List.length_append]
      exact ownk_far hown hT2.slot (by decide)
    · rw [if_neg hul]
      have hne : (u, i) ≠ (t, l) := fun e => hul ⟨congrArg Prod.fst e, congrArg Prod.snd e⟩
      rw [hco u hu i hne] at hy
      have ho := h.row u hu i hi y hy
      refine own_at ho fun g hgy => ?_
      obtain ⟨cs, hgb⟩ := own_blk ho hgy
      rw [hS g (fun e => by subst e; exact types_ne hgb hT)]
      exact hA g hgb.lt (fun e => h.apart u t hu ht i l hi hl hne y v g hy hv hgy e)
  · by_cases hul : u = t ∧ i = l
    · obtain ⟨rfl, rfl⟩ := hul
      rw [hct] at hy
      cases hy
      rw [hco u' hu' j (fun e => hne e.symm)] at hy'
      rcases hat with e | ⟨h', e, hle⟩
      · rw [e] at hgy
        exact h.apart u u' hu hu' i j hi hj hne v y' g hv hy' hgy
      · intro e2
        rw [e] at hgy
        cases hgy
        obtain ⟨cs, hgb⟩ := own_blk (h.row u' hu' j hj y' hy') e2
        exact absurd hgb.lt (Nat.not_lt.2 hle)
    · have hn1 : (u, i) ≠ (t, l) := fun e => hul ⟨congrArg Prod.fst e, congrArg Prod.snd e⟩
      rw [hco u hu i hn1] at hy
      by_cases hul' : u' = t ∧ j = l
      · obtain ⟨rfl, rfl⟩ := hul'
        rw [hct] at hy'
        cases hy'
        rcases hat with e | ⟨h', e, hle⟩
        · rw [e]
          exact h.apart u u' hu hu' i j hi hj hne y v g hy hv hgy
        · rw [e]
          intro e2
          cases e2
          obtain ⟨cs, hgb⟩ := own_blk (h.row u hu i hi y hy) hgy
          exact absurd hgb.lt (Nat.not_lt.2 hle)
      · have hn2 : (u', j) ≠ (t, l) := fun e => hul' ⟨congrArg Prod.fst e, congrArg Prod.snd e⟩
        rw [hco u' hu' j hn2] at hy'
        exact h.apart u u' hu hu' i j hi hj hne y y' g hy hy' hgy
  · have := hg.size
    simp
    omega
  · rw [hS g (fun e => by
      subst e
      unfold Blk at hgb hT
      rw [hgb] at hT
      cases hT
      exact h2 rfl)]
    refine hA g hgb.lt (fun e => ?_)
    obtain ⟨cs', h3⟩ := hvb _ e
    unfold Blk at hgb h3
    rw [hgb] at h3
    cases h3
    exact h1 rfl
  · have hlt : B ≤ W.heap.size := Nat.le_trans hB (Nat.le_trans (h.gb t ht) (Nat.le_of_lt hT.lt))
    have h2 : Below B w W2 := hw.grown hg hlt (fun j e => Nat.le_trans hB (hrow.lt j e).1)
    exact h2.setCell (Nat.le_trans hB (h.gb t ht)) v'
  · rw [hS g (fun e => by
      subst e
      unfold Blk at hT
      rw [hm] at hT
      cases hT)]
    rw [hA g (Array.getElem?_eq_some_iff.1 hm).1 (fun e => by
      obtain ⟨cs', h3⟩ := hvb _ e
      unfold Blk at h3
      rw [hm] at h3
      cases h3)]
    exact hm
theorem RT.stepG {t l gt : Nat} {k : Int} (h : RT b G n xs W) (hG : G t = gt) (ht : t < 3) (hl : l < n t) {v v' : Value} (hv : W.cell? ⟨gt, l, none⟩ = some v) {W2 : World} (hown : W2.ownsRow b 3 1 v' ((xs t l).length + 1) (I64 (xs t l) ++ [.int .i64 k]))
    (hg : W.grownBy W2 v.ownBlock) (hat : v'.ownBlock = v.ownBlock ∨ ∃ h, v'.ownBlock = some h ∧ W.heap.size ≤ h) :
    RT b G n (fun t' i => if t' = t ∧ i = l then xs t l ++ [k] else xs t' i) (W2.setCell ⟨gt, l, none⟩ v') ∧ Fr2 W (W2.setCell ⟨gt, l, none⟩ v') ∧ (∀ w B, B ≤ b → Below B w W → Below B w (W2.setCell ⟨gt, l, none⟩ v')) ∧
    ∀ (g : Nat) (es : Array MapEntry) (clock : Nat), W.heap[g]? = some (Obj.map es clock) → (W2.setCell ⟨gt, l, none⟩ v').heap[g]? = some (Obj.map es clock) := by
  subst hG
  exact h.step ht hl hv hown hg hat
/-- the worlds of a region that appends once to a row, and stores it behind -/
def Tg (W5 : World) (row : Option Nat) (a : Nat) (l : List Nat) (W : World) : Prop := if a ∈ l then W5.grownBy W row else Below W5.heap.size W5 W
def Kg (row : Option Nat) (p a : Nat) (i : Nat) (w : World) (_ : Value) (w' : World) : Prop := if i = a then w.grownBy w' row else if i = p then Below w.heap.size w w' else w' = w
theorem grown_below {w w' : World} {row : Option Nat} (h : Below w.heap.size w w') : w.grownBy w' row := ⟨h.os, h.tape, h.output, h.size, fun k hk _ => h.block k hk⟩
theorem Tg.grown {W5 W : World} {row : Option Nat} {a : Nat} {l : List Nat} (h : Tg W5 row a l W) : W5.grownBy W row := by
  unfold Tg at h
  split at h
  · exact h
  · exact grown_below h
theorem Tg.step {W5 w w' : World} {row : Option Nat} {p a i : Nat} {l : List Nat} {v : Value} (h : Tg W5 row a l w) (k : Kg row p a i w v w') : Tg W5 row a (l ++ [i]) w' := by
  unfold Kg at k
  by_cases e : i = a
  · subst e
    rw [if_pos rfl] at k
    unfold Tg
    rw [if_pos (by simp)]
    exact h.grown.trans k
  · rw [if_neg e] at k
    unfold Tg at h ⊢
    have hm : a ∈ l ++ [i] ↔ a ∈ l := by simp [Ne.symm e]
    by_cases ha : a ∈ l
    · rw [if_pos ha] at h
      rw [if_pos (hm.2 ha)]
      split at k
      · exact h.trans (grown_below k)
      · rw [k]; exact h
    · rw [if_neg ha] at h
      rw [if_neg (fun q => ha (hm.1 q))]
      split at k
      · exact h.trans (k.mono h.size)
      · rw [k]; exact h
theorem Tg.cell {W5 W : World} {row : Option Nat} {a : Nat} {l : List Nat} (h : Tg W5 row a l W) {p : Addr} {v : Value} (hc : W5.cell? p = some v) (hn : row ≠ some p.block) : W.cell? p = some v :=
  (World.cell?_of_block (h.grown.block _ (World.block_lt_of_cell? W5 p hc) (fun e => hn e.symm))).trans hc
theorem Kg.grown {row : Option Nat} {p a i : Nat} {w w' : World} {v : Value} (k : Kg row p a i w v w') : w.grownBy w' row := by
  unfold Kg at k
  split at k
  · exact k
  · split at k
    · exact grown_below k
    · rw [k]; exact grown_below (Below.refl _ _)
theorem Kg.quiet {row : Option Nat} {p a i : Nat} {w : World} {v : Value} (h1 : i ≠ a) (h2 : i ≠ p) : Kg row p a i w v w := by unfold Kg; rw [if_neg h1, if_neg h2]
theorem Kg.is_ {row : Option Nat} {p a i : Nat} {w w' : World} {v : Value} (k : Kg row p a i w v w') (h1 : i ≠ a) (h2 : i ≠ p) : w' = w := by unfold Kg at k; rwa [if_neg h1, if_neg h2] at k
theorem Kg.new {row : Option Nat} {p a : Nat} {w w' : World} {v : Value} (h : Below w.heap.size w w') (hpa : p ≠ a) : Kg row p a p w v w' := by unfold Kg; rw [if_neg hpa, if_pos rfl]; exact h
theorem Kg.app {row : Option Nat} {p a : Nat} {w w' : World} {v : Value} (h : w.grownBy w' row) : Kg row p a a w v w' := by unfold Kg; rw [if_pos rfl]; exact h
theorem Tg.blk {W5 W : World} {row : Option Nat} {a : Nat} {l : List Nat} (h : Tg W5 row a l W) {g : Nat} {t : TypeId} {cs : Array Value} (hc : Blk W5 g t cs) (hn : row ≠ some g) : Blk W g t cs := (h.grown.block _ hc.lt (fun e => hn e.symm)).trans hc
theorem Tg.pre {W5 W : World} {row : Option Nat} {a : Nat} {l : List Nat} (h : Tg W5 row a l W) (ha : a ∉ l) : Below W5.heap.size W5 W := by unfold Tg at h; rwa [if_neg ha] at h
theorem Tg.nil {W5 W : World} {row : Option Nat} {a : Nat} (h : Below W5.heap.size W5 W) : Tg W5 row a [] W := by unfold Tg; rw [if_neg (by simp)]; exact h
theorem RT.row_ne {b : Nat} {G n : Nat → Nat} {xs : Nat → Nat → List Int} {W : World} (h : RT b G n xs W) {t i : Nat} (ht : t < 3) (hi : i < n t) {v : Value} (hv : W.cell? ⟨G t, i, none⟩ = some v) {g : Nat} {t' : TypeId} {cs : Array Value} (hb : Blk W g t' cs) (hne : t' ≠ 3) : v.ownBlock ≠ some g := fun e => by
  obtain ⟨cs', h2⟩ := own_blk (h.row t ht i hi v hv) e
  unfold Blk at hb h2
  rw [hb] at h2
  cases h2
  exact hne rfl
end
end Go.Proofs.YtdljpokhcfhhfaaGreatDoor
namespace Go.Proofs.YtdljpokhcfhhfaaGreatDoor
open Go.RowKit Lx Sm Go.Maps
/-- the three tables of a network: each link's ports, each router's, each link's members, of the first so many -/
def tabs (x : Cfg) (k0 k1 k2 : Nat) (t i : Nat) : List Int := if t = 0 then picks (fun p => p.2.1 == (i : Int)) x.ps k0 else if t = 1 then picks (fun p => p.1 == (i : Int)) x.ps k1 else if t = 2 then picks (fun m => m.l == (i : Int)) x.ms k2 else []
def sizes (x : Cfg) (t : Nat) : Nat := if t = 1 then x.rs.length else x.ls.length
/-- the last port of an address, of the first so many -/
def lastAt (a : Int) (ps : List (Int × Int × Int)) : Nat → Option Nat
  | 0 => none
  | k + 1 => match ps[k]? with | some p => if p.2.2 = a then some k else lastAt a ps k | none => lastAt a ps k
def AtOK (D : DataW Unit) (ps : List (Int × Int × Int)) (k : Nat) : Prop := ∀ a, U32 a → Maps.has D (.int .u32 a) = (lastAt a ps k).isSome ∧ D.atKey (.int .u32 a) (.lit (.int .i64 0)) = .lit (.int .i64 (((lastAt a ps k).getD 0 : Nat) : Int))
/-- where a Topo lies -/
structure TP where
  M : Cm
  N : Nat
  G : Nat → Nat
  mb : Nat
  gA : Option Addr
  gc : Nat
/-- a Topo in memory -/
structure TW (W : World) (b : Nat) (T : TP) (x : Cfg) (gs : List Int) : Prop where
  net : CWo W b T.M x
  blk : Blk W T.N 113 #[.slice T.M.r.A T.M.r.n T.M.r.c, .slice T.M.l.A T.M.l.n T.M.l.c, .slice T.M.p.A T.M.p.n T.M.p.c, .slice T.M.o.A T.M.o.n T.M.o.c, .slice T.M.g.A T.M.g.n T.M.g.c, .slice T.M.s.A T.M.s.n T.M.s.c, .slice T.M.m.A T.M.m.n T.M.m.c,
    .slice (some ⟨T.G 0, 0, none⟩) x.ls.length x.ls.length, .slice (some ⟨T.G 1, 0, none⟩) x.rs.length x.rs.length, .slice (some ⟨T.G 2, 0, none⟩) x.ls.length x.ls.length, .map (some T.mb), .slice T.gA gs.length T.gc]
  tab : RT b T.G (sizes x) (tabs x x.ps.length x.ps.length x.ms.length) W
  at_ : ∃ nn D, W.ownsMap Tryz.prog 42 (plainElem (H := Unit) Tryz.prog 3) T.mb nn D ∧ AtOK D x.ps x.ps.length
  gr : W.ownsRow b 42 1 (.slice T.gA gs.length T.gc) gs.length (A32 gs)
/-- a new table of so many empty rows -/
def NewT (b n : Nat) (v : Value) (W : World) : Prop := ∃ (g : Nat) (cs : Array Value), v = .slice (some ⟨g, 0, none⟩) n n ∧ b ≤ g ∧ Blk W g 52 cs ∧ cs.size = n ∧ ∀ i, i < n → cs[i]? = some (.slice none 0 0)
theorem NewT.next {b n : Nat} {v : Value} {W W' : World} (h : NewT b n v W) (hb : Below W.heap.size W W') : NewT b n v W' := by
  obtain ⟨g, cs, e, hg, hk, hz, hc⟩ := h
  exact ⟨g, cs, e, hg, hk.next hb, hz, hc⟩
theorem newT_of {b n : Nat} {W : World} {g : Nat} (h : W.ownsRow b 52 1 (.slice (some ⟨g, 0, none⟩) n n) n (madeCells (Value.slice none 0 0).cells (n * 1)).toList) : NewT b n (.slice (some ⟨g, 0, none⟩) n n) W := by
  rcases h.2 with ⟨e, _⟩ | ⟨g', cap, cur, e, hb, hh, _, _, hz, ht⟩
  · cases e
  · cases e
    refine ⟨_, cur, rfl, hb, hh, by omega, fun i hi => ?_⟩
    have e1 : (Value.slice none 0 0).cells = #[Value.slice none 0 0] := rfl
    rw [e1, toList_madeCells_one, Nat.mul_one, List.take_of_length_le (by simp; omega)] at ht
    rw [← Array.getElem?_toList, ht]
    simp [hi]
theorem info_row : (Tryz.prog.info? 52).map (fun i => (i.zero, i.size, i.bytes)) = some (some (.slice none 0 0), 1, 24) := by kernel_rfl
/-- the tables at their beginning -/
theorem rt_new {W : World} {b nl nr g0 g1 g2 : Nat} {x : Cfg} (hl : x.ls.length = nl) (hr : x.rs.length = nr) (h0 : NewT b nl (.slice (some ⟨g0, 0, none⟩) nl nl) W) (h1 : NewT b nr (.slice (some ⟨g1, 0, none⟩) nr nr) W) (h2 : NewT b nl (.slice (some ⟨g2, 0, none⟩) nl nl) W)
    (h01 : g0 ≠ g1) (h02 : g0 ≠ g2) (h12 : g1 ≠ g2) : RT b (fun t => if t = 0 then g0 else if t = 1 then g1 else g2) (sizes x) (tabs x 0 0 0) W := by
  have key : ∀ t, t < 3 → ∃ cs : Array Value, cs.size = sizes x t ∧ b ≤ (if t = 0 then g0 else if t = 1 then g1 else g2) ∧ Blk W (if t = 0 then g0 else if t = 1 then g1 else g2) 52 cs ∧ ∀ i, i < sizes x t → cs[i]? = some (.slice none 0 0) := by
    intro t ht
    obtain ⟨g, cs, e, hg, hk, hz, hc⟩ := h0
    obtain ⟨g', cs', e', hg', hk', hz', hc'⟩ := h1
    obtain ⟨g'', cs'', e'', hg'', hk'', hz'', hc''⟩ := h2
    cases e; cases e'; cases e''
    match t, ht with
    | 0, _ => exact ⟨cs, by simp [sizes, hz, hl], by simpa using hg, by simpa using hk, fun i hi => hc i (by simpa [sizes, hl] using hi)⟩
    | 1, _ => exact ⟨cs', by simp [sizes, hz', hr], by simpa using hg', by simpa using hk', fun i hi => hc' i (by simpa [sizes, hr] using hi)⟩
    | 2, _ => exact ⟨cs'', by simp [sizes, hz'', hl], by simpa using hg'', by simpa using hk'', fun i hi => hc'' i (by simpa [sizes, hl] using hi)⟩
  have hnil : ∀ t, t < 3 → ∀ i, i < sizes x t → ∀ v, W.cell? ⟨(if t = 0 then g0 else if t = 1 then g1 else g2), i, none⟩ = some v → v = .slice none 0 0 := by
    intro t ht i hi v hv
    obtain ⟨cs, _, _, hk, hc⟩ := key t ht
    rw [hk.cell, hc i hi] at hv
    cases hv
    rfl
  refine ⟨fun t ht => ?_, fun t ht => ?_, fun t u ht hu hne => ?_, fun t ht i hi v hv => ?_, fun t u ht hu i j hi hj _ v v' h hv hv' hg => ?_⟩
  · obtain ⟨cs, hz, _, hk, _⟩ := key t ht
    exact ⟨cs, hz, hk⟩
  · obtain ⟨cs, _, hg, _⟩ := key t ht
    exact hg
  · match t, u, ht, hu, hne with
    | 0, 1, _, _, _ => simpa using h01
    | 0, 2, _, _, _ => simpa using h02
    | 1, 0, _, _, _ => simpa using h01.symm
    | 1, 2, _, _, _ => simpa using h12
    | 2, 0, _, _, _ => simpa using h02.symm
    | 2, 1, _, _, _ => simpa using h12.symm
    | 0, 0, _, _, h => exact absurd rfl h
    | 1, 1, _, _, h => exact absurd rfl h
    | 2, 2, _, _, h => exact absurd rfl h
  · rw [hnil t ht i hi v hv]
    have e : tabs x 0 0 0 t i = [] := by unfold tabs; split <;> (try split) <;> (try split) <;> rfl
    rw [e]
    exact World.ownsRow_nil _ _ _ _
  · rw [hnil t ht i hi v hv] at hg
    simp [Value.ownBlock] at hg
theorem CWo.up {W : World} {b b' : Nat} {M : Cm} {x : Cfg} (h : CWo W b' M x) (hb : b ≤ b') : CWo W b M x :=
  ⟨ownk_up h.r hb, ownk_up h.l hb, ownk_up h.p hb, ownk_up h.o hb, ownk_up h.g hb, ownk_up h.s hb, ownk_up h.m hb, h.len, h.oks, fun y hy => ⟨(h.src y hy).1, (h.src y hy).2.1, (h.src y hy).2.2.1, ownk_up (h.src y hy).2.2.2 hb⟩, h.ok⟩
theorem RT.up {b b' : Nat} {G n : Nat → Nat} {xs : Nat → Nat → List Int} {W : World} (h : RT b' G n xs W) (hb : b ≤ b') : RT b G n xs W :=
  ⟨h.tab, fun t ht => Nat.le_trans hb (h.gb t ht), h.gap, fun t ht i hi v hv => ownk_up (h.row t ht i hi v hv) hb, h.apart⟩
/-- what the two loops hold on to -/
structure NI (W1 W4 : World) (G : Nat → Nat) (mb : Nat) (x : Cfg) (k0 k1 k2 ka : Nat) (W : World) : Prop where
  fr : Fr2 W4 W
  lo : Below W1.heap.size W1 W
  tab : RT W1.heap.size G (sizes x) (tabs x k0 k1 k2) W
  at_ : ∃ D, W.ownsMap Tryz.prog 42 (plainElem (H := Unit) Tryz.prog 3) mb ka D ∧ IsMap D ∧ AtOK D x.ps ka
section
variable {W1 W4 W W' : World} {G : Nat → Nat} {mb : Nat} {x : Cfg} {k0 k1 k2 ka : Nat}
theorem map_same {k : TypeId} {R : Value → Option (DataW Unit × List MemPlace)} {b n : Nat} {D : DataW Unit} (h : W.ownsMap Tryz.prog k R b n D) (hs : ∀ es clock, W.heap[b]? = some (Obj.map es clock) → W'.heap[b]? = some (Obj.map es clock)) : W'.ownsMap Tryz.prog k R b n D := by
  obtain ⟨es, clock, h1, h2⟩ := h
  exact ⟨es, clock, hs _ _ h1, h2⟩
theorem NI.next (h : NI W1 W4 G mb x k0 k1 k2 ka W) (hb : Below W.heap.size W W') : NI W1 W4 G mb x k0 k1 k2 ka W' := by
  obtain ⟨D, hm, hi, ha⟩ := h.at_
  exact ⟨h.fr.trans (Fr2.below hb), h.lo.trans (hb.mono h.lo.size), h.tab.next hb, D, map_same hm (fun es clock e => (hb.block mb (Array.getElem?_eq_some_iff.1 e).1).trans e), hi, ha⟩
theorem tabs_0 {k l : Nat} {p : Int × Int × Int} (hp : x.ps[k]? = some p) (hl : p.2.1 = (l : Int)) : (fun t i => if t = 0 ∧ i = l then tabs x k k1 k2 0 l ++ [(k : Int)] else tabs x k k1 k2 t i) = tabs x (k + 1) k1 k2 := by
  funext t i
  by_cases ht : t = 0
  · subst ht
    by_cases hi : i = l
    · subst hi
      rw [if_pos ⟨rfl, rfl⟩]
      exact (picks_yes hp (by simp [hl])).symm
    · rw [if_neg (fun h => hi h.2)]
      exact (picks_no (p := fun p => p.2.1 == (i : Int)) hp (by simp [hl]; omega)).symm
  · rw [if_neg (fun h => ht h.1)]
    simp [tabs, ht]
theorem tabs_1 {k l : Nat} {p : Int × Int × Int} (hp : x.ps[k]? = some p) (hl : p.1 = (l : Int)) : (fun t i => if t = 1 ∧ i = l then tabs x k0 k k2 1 l ++ [(k : Int)] else tabs x k0 k k2 t i) = tabs x k0 (k + 1) k2 := by
  funext t i
  by_cases ht : t = 1
  · subst ht
    by_cases hi : i = l
    · subst hi
      rw [if_pos ⟨rfl, rfl⟩]
      exact (picks_yes hp (by simp [hl])).symm
    · rw [if_neg (fun h => hi h.2)]
      exact (picks_no (p := fun p => p.1 == (i : Int)) hp (by simp [hl]; omega)).symm
  · rw [if_neg (fun h => ht h.1)]
    by_cases h0 : t = 0
    · simp [tabs, h0]
    · simp [tabs, h0, ht]
theorem tabs_2 {k l : Nat} {m : Mb} (hp : x.ms[k]? = some m) (hl : m.l = (l : Int)) : (fun t i => if t = 2 ∧ i = l then tabs x k0 k1 k 2 l ++ [(k : Int)] else tabs x k0 k1 k t i) = tabs x k0 k1 (k + 1) := by
  funext t i
  by_cases ht : t = 2
  · subst ht
    by_cases hi : i = l
    · subst hi
      rw [if_pos ⟨rfl, rfl⟩]
      exact (picks_yes hp (by simp [hl])).symm
    · rw [if_neg (fun h => hi h.2)]
      exact (picks_no (p := fun m => m.l == (i : Int)) hp (by simp [hl]; omega)).symm
  · rw [if_neg (fun h => ht h.1)]
    simp [tabs, ht]
theorem NI.row (h : NI W1 W4 G mb x k0 k1 k2 ka W) (hs : Fr2 W W') (hlo : Below W1.heap.size W1 W → Below W1.heap.size W1 W') {j0 j1 j2 : Nat} (ht : RT W1.heap.size G (sizes x) (tabs x j0 j1 j2) W') (hm : ∀ (g : Nat) (es : Array MapEntry) (clock : Nat), W.heap[g]? = some (Obj.map es clock) → W'.heap[g]? = some (Obj.map es clock)) : NI W1 W4 G mb x j0 j1 j2 ka W' := by
  obtain ⟨D, h1, h2, h3⟩ := h.at_
  exact ⟨h.fr.trans hs, hlo h.lo, ht, D, map_same h1 (hm mb), h2, h3⟩
theorem at_put {D : DataW Unit} {ps : List (Int × Int × Int)} {k : Nat} {p : Int × Int × Int} (hi : IsMap D) (h : AtOK D ps k) (hp : ps[k]? = some p) : AtOK (D.put (.int .u32 p.2.2) (.lit (.int .i64 (k : Int)))) ps (k + 1) := by
  intro a ha
  obtain ⟨h1, h2⟩ := h a ha
  unfold lastAt
  rw [hp]
  by_cases e : p.2.2 = a
  · subst e
    rw [has_put_same hi (lit_key _), atKey_put_same hi (lit_key _)]
    simp
  · have hne : (Lit.int .u32 a) ≠ .int .u32 p.2.2 := fun q => e (by cases q; rfl)
    rw [has_put_other hne, atKey_put_other hne, h1, h2]
    simp [e]
end
theorem map_ne {W : World} {k : TypeId} {R : Value → Option (DataW Unit × List MemPlace)} {b n : Nat} {D : DataW Unit} (h : W.ownsMap Tryz.prog k R b n D) {g : Nat} {t : TypeId} {cs : Array Value} (hb : Blk W g t cs) : g ≠ b := by
  rintro rfl
  obtain ⟨es, clock, h1, _⟩ := h
  unfold Blk at hb
  rw [hb] at h1
  cases h1
theorem wf_k {k : Nat} (h : k ≤ 1000000) : (Lit.int .i64 (k : Int)).wf = true := by
  simp [Lit.wf, IntKind.min, IntKind.max, IntKind.signed, IntKind.bits]; omega
theorem tabs_len (x : Cfg) (k0 k1 k2 t i n : Nat) (h0 : k0 ≤ n) (h1 : k1 ≤ n) (h2 : k2 ≤ n) : (tabs x k0 k1 k2 t i).length ≤ n := by
  unfold tabs
  split
  · exact Nat.le_trans (picks_len _ _ _) h0
  · split
    · exact Nat.le_trans (picks_len _ _ _) h1
    · split
      · exact Nat.le_trans (picks_len _ _ _) h2
      · exact Nat.zero_le _
theorem NI.put {W1 W4 W W' : World} {G : Nat → Nat} {mb : Nat} {x : Cfg} {k0 k1 k2 k : Nat} (h : NI W1 W4 G mb x k0 k1 k2 k W) (hmb : W1.heap.size ≤ mb) {D : DataW Unit} {p : Int × Int × Int} (hp : x.ps[k]? = some p) (hi : IsMap D) (ha : AtOK D x.ps k)
    (ho : W.ownsMap Tryz.prog 42 (plainElem (H := Unit) Tryz.prog 3) mb k D) (hm : W'.ownsMap Tryz.prog 42 (plainElem (H := Unit) Tryz.prog 3) mb (k + 1) (D.put (.int .u32 p.2.2) (.lit (.int .i64 (k : Int))))) (hg : W.grownBy W' (some mb)) : NI W1 W4 G mb x k0 k1 k2 (k + 1) W' := by
  have hs : ∀ g t cs, Blk W g t cs → W'.heap[g]? = W.heap[g]? := fun g t cs hb => hg.block g hb.lt (fun e => map_ne ho hb (by cases e; rfl))
  exact ⟨h.fr.trans ⟨hg.size, fun g t cs hb _ _ => hs g t cs hb⟩, h.lo.grown hg h.lo.size (fun j e => by cases e; exact hmb), h.tab.same hs, _, hm, hi.put _ _, at_put hi ha hp⟩
theorem grown_cell {W W' : World} {b : Nat} (h : W.grownBy W' (some b)) {p : Addr} {v : Value} (hc : W.cell? p = some v) (hn : p.block ≠ b) : W'.cell? p = some v :=
  (World.cell?_of_block (h.block _ (World.block_lt_of_cell? W p hc) (fun e => hn (by cases e; rfl)))).trans hc
theorem picks_map {α β : Type} {p : α → Bool} {q : β → Bool} {xs : List α} {ys : List β} (h : ∀ j : Nat, (xs[j]?).map p = (ys[j]?).map q) : ∀ n, picks p xs n = picks q ys n
  | 0 => rfl
  | n + 1 => by
    have h1 := h n
    unfold picks
    rw [picks_map h n]
    cases hx : xs[n]? with
    | none =>
      cases hy : ys[n]? with
      | none => rfl
      | some y => rw [hx, hy] at h1; simp at h1
    | some x =>
      cases hy : ys[n]? with
      | none => rw [hx, hy] at h1; simp at h1
      | some y =>
        rw [hx, hy] at h1
        simp only [Option.map_some, Option.some.injEq] at h1
        simp only [h1]
theorem alike_tabs {x x' : Cfg} (h : Alike x x') (k0 k1 k2 : Nat) : tabs x' k0 k1 k2 = tabs x k0 k1 k2 := by
  funext t i
  have hm : ∀ n, picks (fun m : Mb => m.l == (i : Int)) x'.ms n = picks (fun m : Mb => m.l == (i : Int)) x.ms n := picks_map fun j => by
    have h1 := congrArg (fun l : List (Int × Int × Bool × List Int) => (l[j]?).map (fun q => q.1 == (i : Int))) h.m
    simpa [List.getElem?_map, Function.comp_def, Mb.plain] using h1
  unfold tabs
  rw [h.p, hm]
theorem alike_sizes {x x' : Cfg} (h : Alike x x') : sizes x' = sizes x := by
  funext t
  unfold sizes
  rw [h.r, h.l]
theorem alike_ms {x x' : Cfg} (h : Alike x x') : x'.ms.length = x.ms.length := by
  have := congrArg List.length h.m
  simpa using this
end Go.Proofs.YtdljpokhcfhhfaaGreatDoor

