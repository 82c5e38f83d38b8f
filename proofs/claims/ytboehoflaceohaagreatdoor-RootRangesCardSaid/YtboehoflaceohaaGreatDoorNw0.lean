/- topo.New of a valid network: who is where, in new memory; over the seat's program. -/
import Derived.Test.YtboehoflaceohaaGreatDoorVd
import Derived.Test.YtboehoflaceohaaGreatDoorCl
import Derived.Test.YtboehoflaceohaaGreatDoorRt
import Derived.Test.YtboehoflaceohaaGreatDoorKa
import Derived.Maps.OwnSet
import Derived.Maps.Keyed
import Derived.Maps.Views
import Derived.Carry
import Derived.Handy
namespace Go.Proofs.YtboehoflaceohaaGreatDoor
open Go.RowKit Lx Sm Go.Maps
/-- the three tables of a network: each link's ports, each router's, each link's members, of the first so many -/
def tabs (x : Cfg) (k0 k1 k2 : Nat) (t i : Nat) : List Int := if t = 0 then picks (fun p => p.2.1 == (i : Int)) x.ps k0 else if t = 1 then picks (fun p => p.1 == (i : Int)) x.ps k1 else if t = 2 then picks (fun m => m.l == (i : Int)) x.ms k2 else []
def sizes (x : Cfg) (t : Nat) : Nat := if t = 1 then x.rs.length else x.ls.length
/-- the last port of an address, of the first so many -/
def lastAt (a : Int) (ps : List (Int × Int × Int)) : Nat → Option Nat
  | 0 => none
  | k + 1 => match ps[k]? with | some p => if p.2.2 = a then some k else lastAt a ps k | none => lastAt a ps k
def AtOK (D : DataW Unit) (ps : List (Int × Int × Int)) (k : Nat) : Prop := ∀ a, U32 a → Maps.has D (.int .u32 a) = (lastAt a ps k).isSome ∧ D.atKey (.int .u32 a) (.lit (.int .i64 0)) = .lit (.int .i64 (((lastAt a ps k).getD 0 : Nat) : Int))
/-- where a Topo lies -/
structure TP where
  M : Cm
  N : Nat
  G : Nat → Nat
  mb : Nat
  gA : Option Addr
  gc : Nat
/-- a Topo in memory -/
structure TW (W : World) (b : Nat) (T : TP) (x : Cfg) (gs : List Int) : Prop where
  net : CWo W b T.M x
  blk : Blk W T.N 74 #[.slice T.M.r.A T.M.r.n T.M.r.c, .slice T.M.l.A T.M.l.n T.M.l.c, .slice T.M.p.A T.M.p.n T.M.p.c, .slice T.M.o.A T.M.o.n T.M.o.c, .slice T.M.g.A T.M.g.n T.M.g.c, .slice T.M.s.A T.M.s.n T.M.s.c, .slice T.M.m.A T.M.m.n T.M.m.c,
    .slice (some ⟨T.G 0, 0, none⟩) x.ls.length x.ls.length, .slice (some ⟨T.G 1, 0, none⟩) x.rs.length x.rs.length, .slice (some ⟨T.G 2, 0, none⟩) x.ls.length x.ls.length, .map (some T.mb), .slice T.gA gs.length T.gc]
  tab : RT b T.G (sizes x) (tabs x x.ps.length x.ps.length x.ms.length) W
  at_ : ∃ nn D, W.ownsMap Tryz.prog 35 (plainElem (H := Unit) Tryz.prog 3) T.mb nn D ∧ AtOK D x.ps x.ps.length
  gr : W.ownsRow b 35 1 (.slice T.gA gs.length T.gc) gs.length (A32 gs)
/-- a new table of so many empty rows -/
def NewT (b n : Nat) (v : Value) (W : World) : Prop := ∃ (g : Nat) (cs : Array Value), v = .slice (some ⟨g, 0, none⟩) n n ∧ b ≤ g ∧ Blk W g 75 cs ∧ cs.size = n ∧ ∀ i, i < n → cs[i]? = some (.slice none 0 0)
theorem NewT.next {b n : Nat} {v : Value} {W W' : World} (h : NewT b n v W) (hb : Below W.heap.size W W') : NewT b n v W' := by
  obtain ⟨g, cs, e, hg, hk, hz, hc⟩ := h
  exact ⟨g, cs, e, hg, hk.next hb, hz, hc⟩
theorem newT_of {b n : Nat} {W : World} {g : Nat} (h : W.ownsRow b 75 1 (.slice (some ⟨g, 0, none⟩) n n) n (madeCells (Value.slice none 0 0).cells (n * 1)).toList) : NewT b n (.slice (some ⟨g, 0, none⟩) n n) W := by
  rcases h.2 with ⟨e, _⟩ | ⟨g', cap, cur, e, hb, hh, _, _, hz, ht⟩
  · cases e
  · cases e
    refine ⟨_, cur, rfl, hb, hh, by omega, fun i hi => ?_⟩
    have e1 : (Value.slice none 0 0).cells = #[Value.slice none 0 0] := rfl
    rw [e1, toList_madeCells_one, Nat.mul_one, List.take_of_length_le (by simp; omega)] at ht
    rw [← Array.getElem?_toList, ht]
    simp [hi]
theorem info_row : (Tryz.prog.info? 75).map (fun i => (i.zero, i.size, i.bytes)) = some (some (.slice none 0 0), 1, 24) := by kernel_rfl
/-- the tables at their beginning -/
theorem rt_new {W : World} {b nl nr g0 g1 g2 : Nat} {x : Cfg} (hl : x.ls.length = nl) (hr : x.rs.length = nr) (h0 : NewT b nl (.slice (some ⟨g0, 0, none⟩) nl nl) W) (h1 : NewT b nr (.slice (some ⟨g1, 0, none⟩) nr nr) W) (h2 : NewT b nl (.slice (some ⟨g2, 0, none⟩) nl nl) W)
    (h01 : g0 ≠ g1) (h02 : g0 ≠ g2) (h12 : g1 ≠ g2) : RT b (fun t => if t = 0 then g0 else if t = 1 then g1 else g2) (sizes x) (tabs x 0 0 0) W := by
  have key : ∀ t, t < 3 → ∃ cs : Array Value, cs.size = sizes x t ∧ b ≤ (if t = 0 then g0 else if t = 1 then g1 else g2) ∧ Blk W (if t = 0 then g0 else if t = 1 then g1 else g2) 75 cs ∧ ∀ i, i < sizes x t → cs[i]? = some (.slice none 0 0) := by
    intro t ht
    obtain ⟨g, cs, e, hg, hk, hz, hc⟩ := h0
    obtain ⟨g', cs', e', hg', hk', hz', hc'⟩ := h1
    obtain ⟨g'', cs'', e'', hg'', hk'', hz'', hc''⟩ := h2
    cases e; cases e'; cases e''
    match t, ht with
    | 0, _ => exact ⟨cs, by simp [sizes, hz, hl], by simpa using hg, by simpa using hk, fun i hi => hc i (by simpa [sizes, hl] using hi)⟩
    | 1, _ => exact ⟨cs', by simp [sizes, hz', hr], by simpa using hg', by simpa using hk', fun i hi => hc' i (by simpa [sizes, hr] using hi)⟩
    | 2, _ => exact ⟨cs'', by simp [sizes, hz'', hl], by simpa using hg'', by simpa using hk'', fun i hi => hc'' i (by simpa [sizes, hl] using hi)⟩
  have hnil : ∀ t, t < 3 → ∀ i, i < sizes x t → ∀ v, W.cell? ⟨(if t = 0 then g0 else if t = 1 then g1 else g2), i, none⟩ = some v → v = .slice none 0 0 := by
    intro t ht i hi v hv
    obtain ⟨cs, _, _, hk, hc⟩ := key t ht
    rw [hk.cell, hc i hi] at hv
    cases hv
    rfl
  refine ⟨fun t ht => ?_, fun t ht => ?_, fun t u ht hu hne => ?_, fun t ht i hi v hv => ?_, fun t u ht hu i j hi hj _ v v' h hv hv' hg => ?_⟩
  · obtain ⟨cs, hz, _, hk, _⟩ := key t ht
    exact ⟨cs, hz, hk⟩
  · obtain ⟨cs, _, hg, _⟩ := key t ht
    exact hg
  · match t, u, ht, hu, hne with
    | 0, 1, _, _, _ => simpa using h01
    | 0, 2, _, _, _ => simpa using h02
    | 1, 0, _, _, _ => simpa using h01.symm
    | 1, 2, _, _, _ => simpa using h12
    | 2, 0, _, _, _ => simpa using h02.symm
    | 2, 1, _, _, _ => simpa using h12.symm
    | 0, 0, _, _, h => exact absurd rfl h
    | 1, 1, _, _, h => exact absurd rfl h
    | 2, 2, _, _, h => exact absurd rfl h
  · rw [hnil t ht i hi v hv]
    have e : tabs x 0 0 0 t i = [] := by unfold tabs; split <;> (try split) <;> (try split) <;> rfl
    rw [e]
    exact World.ownsRow_nil _ _ _ _
  · rw [hnil t ht i hi v hv] at hg
    simp [Value.ownBlock] at hg
theorem CWo.up {W : World} {b b' : Nat} {M : Cm} {x : Cfg} (h : CWo W b' M x) (hb : b ≤ b') : CWo W b M x :=
  ⟨ownk_up h.r hb, ownk_up h.l hb, ownk_up h.p hb, ownk_up h.o hb, ownk_up h.g hb, ownk_up h.s hb, ownk_up h.m hb, h.len, h.oks, fun y hy => ⟨(h.src y hy).1, (h.src y hy).2.1, (h.src y hy).2.2.1, ownk_up (h.src y hy).2.2.2 hb⟩, h.ok⟩
theorem RT.up {b b' : Nat} {G n : Nat → Nat} {xs : Nat → Nat → List Int} {W : World} (h : RT b' G n xs W) (hb : b ≤ b') : RT b G n xs W :=
  ⟨h.tab, fun t ht => Nat.le_trans hb (h.gb t ht), h.gap, fun t ht i hi v hv => ownk_up (h.row t ht i hi v hv) hb, h.apart⟩
/-- what the two loops hold on to -/
structure NI (W1 W4 : World) (G : Nat → Nat) (mb : Nat) (x : Cfg) (k0 k1 k2 ka : Nat) (W : World) : Prop where
  fr : Fr2 W4 W
  lo : Below W1.heap.size W1 W
  tab : RT W1.heap.size G (sizes x) (tabs x k0 k1 k2) W
  at_ : ∃ D, W.ownsMap Tryz.prog 35 (plainElem (H := Unit) Tryz.prog 3) mb ka D ∧ IsMap D ∧ AtOK D x.ps ka
section
variable {W1 W4 W W' : World} {G : Nat → Nat} {mb : Nat} {x : Cfg} {k0 k1 k2 ka : Nat}
theorem map_same {k : TypeId} {R : Value → Option (DataW Unit × List MemPlace)} {b n : Nat} {D : DataW Unit} (h : W.ownsMap Tryz.prog k R b n D) (hs : ∀ es clock, W.heap[b]? = some (Obj.map es clock) → W'.heap[b]? = some (Obj.map es clock)) : W'.ownsMap Tryz.prog k R b n D := by
  obtain ⟨es, clock, h1, h2⟩ := h
  exact ⟨es, clock, hs _ _ h1, h2⟩
theorem NI.next (h : NI W1 W4 G mb x k0 k1 k2 ka W) (hb : Below W.heap.size W W') : NI W1 W4 G mb x k0 k1 k2 ka W' := by
  obtain ⟨D, hm, hi, ha⟩ := h.at_
  exact ⟨h.fr.trans (Fr2.below hb), h.lo.trans (hb.mono h.lo.size), h.tab.next hb, D, map_same hm (fun es clock e => (hb.block mb (Array.getElem?_eq_some_iff.1 e).1).trans e), hi, ha⟩
theorem tabs_0 {k l : Nat} {p : Int × Int × Int} (hp : x.ps[k]? = some p) (hl : p.2.1 = (l : Int)) : (fun t i => if t = 0 ∧ i = l then tabs x k k1 k2 0 l ++ [(k : Int)] else tabs x k k1 k2 t i) = tabs x (k + 1) k1 k2 := by
  funext t i
  by_cases ht : t = 0
  · subst ht
    by_cases hi : i = l
    · subst hi
      rw [if_pos ⟨rfl, rfl⟩]
      exact (picks_yes hp (by simp [hl])).symm
    · rw [if_neg (fun h => hi h.2)]
      exact (picks_no (p := fun p => p.2.1 == (i : Int)) hp (by simp [hl]; omega)).symm
  · rw [if_neg (fun h => ht h.1)]
    simp [tabs, ht]
theorem tabs_1 {k l : Nat} {p : Int × Int × Int} (hp : x.ps[k]? = some p) (hl : p.1 = (l : Int)) : (fun t i => if t = 1 ∧ i = l then tabs x k0 k k2 1 l ++ [(k : Int)] else tabs x k0 k k2 t i) = tabs x k0 (k + 1) k2 := by
  funext t i
  by_cases ht : t = 1
  · subst ht
    by_cases hi : i = l
    · subst hi
      rw [if_pos ⟨rfl, rfl⟩]
      exact (picks_yes hp (by simp [hl])).symm
    · rw [if_neg (fun h => hi h.2)]
      exact (picks_no (p := fun p => p.1 == (i : Int)) hp (by simp [hl]; omega)).symm
  · rw [if_neg (fun h => ht h.1)]
    by_cases h0 : t = 0
    · simp [tabs, h0]
    · simp [tabs, h0, ht]
theorem tabs_2 {k l : Nat} {m : Mb} (hp : x.ms[k]? = some m) (hl : m.l = (l : Int)) : (fun t i => if t = 2 ∧ i = l then tabs x k0 k1 k 2 l ++ [(k : Int)] else tabs x k0 k1 k t i) = tabs x k0 k1 (k + 1) := by
  funext t i
  by_cases ht : t = 2
  · subst ht
    by_cases hi : i = l
    · subst hi
      rw [if_pos ⟨rfl, rfl⟩]
      exact (picks_yes hp (by simp [hl])).symm
    · rw [if_neg (fun h => hi h.2)]
      exact (picks_no (p := fun m => m.l == (i : Int)) hp (by simp [hl]; omega)).symm
  · rw [if_neg (fun h => ht h.1)]
    simp [tabs, ht]
theorem NI.row (h : NI W1 W4 G mb x k0 k1 k2 ka W) (hs : Fr2 W W') (hlo : Below W1.heap.size W1 W → Below W1.heap.size W1 W') {j0 j1 j2 : Nat} (ht : RT W1.heap.size G (sizes x) (tabs x j0 j1 j2) W') (hm : ∀ (g : Nat) (es : Array MapEntry) (clock : Nat), W.heap[g]? = some (Obj.map es clock) → W'.heap[g]? = some (Obj.map es clock)) : NI W1 W4 G mb x j0 j1 j2 ka W' := by
  obtain ⟨D, h1, h2, h3⟩ := h.at_
  exact ⟨h.fr.trans hs, hlo h.lo, ht, D, map_same h1 (hm mb), h2, h3⟩
theorem lit_key (a : Int) : WideAt.IsKeyLit (.int .u32 a) := trivial
theorem at_put {D : DataW Unit} {ps : List (Int × Int × Int)} {k : Nat} {p : Int × Int × Int} (hi : IsMap D) (h : AtOK D ps k) (hp : ps[k]? = some p) : AtOK (D.put (.int .u32 p.2.2) (.lit (.int .i64 (k : Int)))) ps (k + 1) := by
  intro a ha
  obtain ⟨h1, h2⟩ := h a ha
  unfold lastAt
  rw [hp]
  by_cases e : p.2.2 = a
  · subst e
    rw [has_put_same hi (lit_key _), atKey_put_same hi (lit_key _)]
    simp
  · have hne : (Lit.int .u32 a) ≠ .int .u32 p.2.2 := fun q => e (by cases q; rfl)
    rw [has_put_other hne, atKey_put_other hne, h1, h2]
    simp [e]
end
theorem map_ne {W : World} {k : TypeId} {R : Value → Option (DataW Unit × List MemPlace)} {b n : Nat} {D : DataW Unit} (h : W.ownsMap Tryz.prog k R b n D) {g : Nat} {t : TypeId} {cs : Array Value} (hb : Blk W g t cs) : g ≠ b := by
  rintro rfl
  obtain ⟨es, clock, h1, _⟩ := h
  unfold Blk at hb
  rw [hb] at h1
  cases h1
theorem wf_k {k : Nat} (h : k ≤ 1000000) : (Lit.int .i64 (k : Int)).wf = true := by
  simp [Lit.wf, IntKind.min, IntKind.max, IntKind.signed, IntKind.bits]; omega
theorem wf_a {a : Int} (h : U32 a) : (Lit.int .u32 a).wf = true := by
  obtain ⟨h0, h1⟩ := h
  simp [Lit.wf, IntKind.min, IntKind.max, IntKind.signed, IntKind.bits]; omega
theorem tabs_len (x : Cfg) (k0 k1 k2 t i n : Nat) (h0 : k0 ≤ n) (h1 : k1 ≤ n) (h2 : k2 ≤ n) : (tabs x k0 k1 k2 t i).length ≤ n := by
  unfold tabs
  split
  · exact Nat.le_trans (picks_len _ _ _) h0
  · split
    · exact Nat.le_trans (picks_len _ _ _) h1
    · split
      · exact Nat.le_trans (picks_len _ _ _) h2
      · exact Nat.zero_le _
theorem NI.put {W1 W4 W W' : World} {G : Nat → Nat} {mb : Nat} {x : Cfg} {k0 k1 k2 k : Nat} (h : NI W1 W4 G mb x k0 k1 k2 k W) (hmb : W1.heap.size ≤ mb) {D : DataW Unit} {p : Int × Int × Int} (hp : x.ps[k]? = some p) (hi : IsMap D) (ha : AtOK D x.ps k)
    (ho : W.ownsMap Tryz.prog 35 (plainElem (H := Unit) Tryz.prog 3) mb k D) (hm : W'.ownsMap Tryz.prog 35 (plainElem (H := Unit) Tryz.prog 3) mb (k + 1) (D.put (.int .u32 p.2.2) (.lit (.int .i64 (k : Int))))) (hg : W.grownBy W' (some mb)) : NI W1 W4 G mb x k0 k1 k2 (k + 1) W' := by
  have hs : ∀ g t cs, Blk W g t cs → W'.heap[g]? = W.heap[g]? := fun g t cs hb => hg.block g hb.lt (fun e => map_ne ho hb (by cases e; rfl))
  exact ⟨h.fr.trans ⟨hg.size, fun g t cs hb _ _ => hs g t cs hb⟩, h.lo.grown hg h.lo.size (fun j e => by cases e; exact hmb), h.tab.same hs, _, hm, hi.put _ _, at_put hi ha hp⟩
theorem grown_cell {W W' : World} {b : Nat} (h : W.grownBy W' (some b)) {p : Addr} {v : Value} (hc : W.cell? p = some v) (hn : p.block ≠ b) : W'.cell? p = some v :=
  (World.cell?_of_block (h.block _ (World.block_lt_of_cell? W p hc) (fun e => hn (by cases e; rfl)))).trans hc
theorem picks_map {α β : Type} {p : α → Bool} {q : β → Bool} {xs : List α} {ys : List β} (h : ∀ j : Nat, (xs[j]?).map p = (ys[j]?).map q) : ∀ n, picks p xs n = picks q ys n
  | 0 => rfl
  | n + 1 => by
    have h1 := h n
    unfold picks
    rw [picks_map h n]
    cases hx : xs[n]? with
    | none =>
      cases hy : ys[n]? with
      | none => rfl
      | some y => rw [hx, hy] at h1; simp at h1
    | some x =>
      cases hy : ys[n]? with
      | none => rw [hx, hy] at h1; simp at h1
      | some y =>
        rw [hx, hy] at h1
        simp only [Option.map_some, Option.some.injEq] at h1
        simp only [h1]
theorem alike_tabs {x x' : Cfg} (h : Alike x x') (k0 k1 k2 : Nat) : tabs x' k0 k1 k2 = tabs x k0 k1 k2 := by
  funext t i
  have hm : ∀ n, picks (fun m : Mb => m.l == (i : Int)) x'.ms n = picks (fun m : Mb => m.l == (i : Int)) x.ms n := picks_map fun j => by
    have h1 := congrArg (fun l : List (Int × Int × Bool × List Int) => (l[j]?).map (fun q => q.1 == (i : Int))) h.m
    simpa [List.getElem?_map, Function.comp_def, Mb.plain] using h1
  unfold tabs
  rw [h.p, hm]
theorem alike_sizes {x x' : Cfg} (h : Alike x x') : sizes x' = sizes x := by
  funext t
  unfold sizes
  rw [h.r, h.l]
theorem alike_ms {x x' : Cfg} (h : Alike x x') : x'.ms.length = x.ms.length := by
  have := congrArg List.length h.m
  simpa using this
end Go.Proofs.YtboehoflaceohaaGreatDoor

