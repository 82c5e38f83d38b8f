/- conf.Clone over a network in memory: the same network in new memory; over the seat's program. -/
import Derived.Test.YtdljpokhcfhhfaaGreatDoorCw
import Derived.Test.YtdljpokhcfhhfaaGreatDoorCp
import Derived.Test.YtdljpokhcfhhfaaGreatDoorKit
import Derived.Test.YtdljpokhcfhhfaaGreatDoorEa
import Derived.Test.YtdljpokhcfhhfaaGreatDoorShelf
import Derived.OwnWalk
import Derived.Deep.RegionHeld3
namespace Go.Proofs.YtdljpokhcfhhfaaGreatDoor
open Go.RowKit Lx Sm
/-- a member, wherever its sources lie -/
def Mb.plain (m : Mb) : Int × Int × Bool × List Int := (m.l, m.g, m.o, m.xs)
/-- the same network, wherever the members' sources lie -/
structure Alike (x y : Cfg) : Prop where
  r : y.rs = x.rs
  l : y.ls = x.ls
  p : y.ps = x.ps
  o : y.os = x.os
  g : y.gs = x.gs
  s : y.ss = x.ss
  m : y.ms.map Mb.plain = x.ms.map Mb.plain
/-- a row of items of the call's own: a slice, and what lies in it -/
def OwnS {α : Type} (b : Nat) (t : TypeId) (k : Nat) (enc : α → List Value) (n : Nat) (xs : List α) (v : Value) (W : World) : Prop :=
  ∃ A c, v = .slice A n c ∧ n ≤ c ∧ W.ownsRow b t k (.slice A n c) n (xs.flatMap enc)
/-- a new variable -/
def NewV (b : Nat) (t : TypeId) (k : Nat) (v : Value) (W : World) : Prop := ∃ N, v = .pointer (some ⟨N, 0, none⟩) ∧ b ≤ N ∧ Slot W N t k
section
variable {α : Type} {b k n : Nat} {t : TypeId} {enc : α → List Value} {xs : List α} {v : Value} {W W' : World}
/-- .. a store into a variable of another type -/
theorem ownk_far {t' : TypeId} {N k' i : Nat} {u : Value} {ys : List Value} (h : W.ownsRow b t k v n ys) (hs : Slot W N t' k') (ht : t ≠ t') : (W.setCell ⟨N, i, none⟩ u).ownsRow b t k v n ys := by
  refine ⟨h.1, ?_⟩
  rcases h.2 with hn | ⟨g, cap, cur, rfl, hbg, hh, rest⟩
  · exact .inl hn
  · refine .inr ⟨g, cap, cur, rfl, hbg, ?_, rest⟩
    have hg : g ≠ N := by
      rintro rfl
      obtain ⟨cs, _, hc⟩ := hs
      unfold Blk at hc
      rw [hh] at hc
      cases hc
      exact ht rfl
    exact (Below.heap_setCell W ⟨N, i, none⟩ u g hg).trans hh
theorem OwnS.next (h : OwnS b t k enc n xs v W) (hb : Below W.heap.size W W') : OwnS b t k enc n xs v W' := by
  obtain ⟨A, c, e, hc, ho⟩ := h
  exact ⟨A, c, e, hc, ownk_next ho hb⟩
theorem NewV.next (h : NewV b t k v W) (hb : Below W.heap.size W W') : NewV b t k v W' := by
  obtain ⟨N, e, hN, hs⟩ := h
  exact ⟨N, e, hN, hs.next hb⟩
end
theorem slot7 {W : World} {N : Nat} {t : TypeId} (h : Slot W N t 7) : (W.cell? ⟨N, 0, none⟩ = some (rd W ⟨N, 0, none⟩) ∧ W.cell? ⟨N, 1, none⟩ = some (rd W ⟨N, 1, none⟩) ∧ W.cell? ⟨N, 2, none⟩ = some (rd W ⟨N, 2, none⟩) ∧ W.cell? ⟨N, 3, none⟩ = some (rd W ⟨N, 3, none⟩) ∧ W.cell? ⟨N, 4, none⟩ = some (rd W ⟨N, 4, none⟩) ∧ W.cell? ⟨N, 5, none⟩ = some (rd W ⟨N, 5, none⟩) ∧ W.cell? ⟨N, 6, none⟩ = some (rd W ⟨N, 6, none⟩)) ∧
    W.frozen? ⟨N, 0, none⟩ = false ∧ W.frozen? ⟨N, 1, none⟩ = false ∧ W.frozen? ⟨N, 2, none⟩ = false ∧ W.frozen? ⟨N, 3, none⟩ = false ∧ W.frozen? ⟨N, 4, none⟩ = false ∧ W.frozen? ⟨N, 5, none⟩ = false ∧ W.frozen? ⟨N, 6, none⟩ = false :=
  ⟨⟨h.cell (by omega), h.cell (by omega), h.cell (by omega), h.cell (by omega), h.cell (by omega), h.cell (by omega), h.cell (by omega)⟩, h.frozen 0, h.frozen 1, h.frozen 2, h.frozen 3, h.frozen 4, h.frozen 5, h.frozen 6⟩
theorem setCell_idem {w : World} {p : Addr} {v : Value} (h : w.cell? p = some v) : w.setCell p v = w := by
  have hh : (w.setCell p v).heap = w.heap := by
    unfold World.setCell
    dsimp only
    apply Array.ext_getElem?
    intro i
    rw [Array.getElem?_modify]
    split
    · rename_i e
      subst e
      unfold World.cell? at h
      cases ho : w.heap[p.block]? with
      | none => rfl
      | some o =>
        rw [ho] at h
        cases o <;> simp only [Option.map_some]
        rename_i c t f
        simp only at h
        split at h
        · cases h
        · rename_i hs
          rw [if_neg hs]
          obtain ⟨hl, hv⟩ := Array.getElem?_eq_some_iff.1 h
          have : c.setIfInBounds p.off v = c := by
            apply Array.ext_getElem?
            intro j
            rw [Array.getElem?_setIfInBounds]
            split
            · rename_i e2; subst e2; simp [hl, hv]
            · rfl
          rw [this]
    · rfl
  calc w.setCell p v = { w with heap := (w.setCell p v).heap } := rfl
    _ = w := by rw [hh]
theorem below_idem {B : Nat} {w W : World} {p : Addr} {v : Value} (hb : Below B w W) (h : W.cell? p = some v) : Below B w (W.setCell p v) := by rw [setCell_idem h]; exact hb
/-- seven stores into a new variable -/
theorem store7 {W : World} {N b : Nat} {t : TypeId} (hs : Slot W N t 7) (hN : b ≤ N) (v0 v1 v2 v3 v4 v5 v6 : Value) : ∃ W', W' = ((((((W.setCell ⟨N, 0, none⟩ v0).setCell ⟨N, 1, none⟩ v1).setCell ⟨N, 2, none⟩ v2).setCell ⟨N, 3, none⟩ v3).setCell ⟨N, 4, none⟩ v4).setCell ⟨N, 5, none⟩ v5).setCell ⟨N, 6, none⟩ v6 ∧
    Blk W' N t #[v0, v1, v2, v3, v4, v5, v6] ∧ (∀ w, Below b w W → Below b w W') ∧ ∀ {t' : TypeId} {k n : Nat} {v : Value} {ys : List Value}, t' ≠ t → W.ownsRow b t' k v n ys → W'.ownsRow b t' k v n ys := by
  refine ⟨_, rfl, ?_, ?_, ?_⟩
  · obtain ⟨cs, hz, hb⟩ := hs
    have h := ((((((hb.set_ 0 v0).set_ 1 v1).set_ 2 v2).set_ 3 v3).set_ 4 v4).set_ 5 v5).set_ 6 v6
    have e : ((((((cs.setIfInBounds 0 v0).setIfInBounds 1 v1).setIfInBounds 2 v2).setIfInBounds 3 v3).setIfInBounds 4 v4).setIfInBounds 5 v5).setIfInBounds 6 v6 = #[v0, v1, v2, v3, v4, v5, v6] := by
      apply Array.ext_getElem?
      intro i
      rcases i with _ | _ | _ | _ | _ | _ | _ | i <;> simp [hz]
    rw [e] at h
    exact h
  · intro w hb
    exact ((((((hb.setCell (by simpa using hN) _).setCell (by simpa using hN) _).setCell (by simpa using hN) _).setCell (by simpa using hN) _).setCell (by simpa using hN) _).setCell (by simpa using hN) _).setCell (by simpa using hN) _
  · intro t' k n v ys ht h
    have s0 := hs.store 0 v0
    have s1 := s0.store 1 v1
    have s2 := s1.store 2 v2
    have s3 := s2.store 3 v3
    have s4 := s3.store 4 v4
    have s5 := s4.store 5 v5
    exact ownk_far (ownk_far (ownk_far (ownk_far (ownk_far (ownk_far (ownk_far h hs ht) s0 ht) s1 ht) s2 ht) s3 ht) s4 ht) s5 ht
theorem own_item {α : Type} {enc : α → List Value} {b t k n c : Nat} {A : Option Addr} {xs : List α} {W : World} (hk : ∀ x, (enc x).length = k) (h : W.ownsRow b t k (.slice A n c) n (xs.flatMap enc)) (hl : xs.length = n) {i : Nat} (hi : i < n) :
    ∃ g o x, A = some ⟨g, o, none⟩ ∧ o = 0 ∧ b ≤ g ∧ g < W.heap.size ∧ (∃ cs, Blk W g t cs) ∧ xs[i]? = some x ∧ ∀ j v, (enc x)[j]? = some v → W.cell? ⟨g, o + i * k + j, none⟩ = some v := by
  subst hl
  obtain ⟨A', c', e', _, hir⟩ := IR.of_own hk h
  cases e'
  obtain ⟨b', o', x, eA, _, hx, hc⟩ := IR.at_ hir hi
  rcases h.2 with ⟨e, hn⟩ | ⟨g, cap, cur, e, hbg, hh, _⟩
  · omega
  · cases e
    cases eA
    exact ⟨_, _, x, rfl, rfl, hbg, (Array.getElem?_eq_some_iff.1 hh).1, ⟨cur, hh⟩, hx, hc⟩
theorem own_ir {α : Type} {enc : α → List Value} {b t k n c : Nat} {A : Option Addr} {xs : List α} {W : World} (hk : ∀ x, (enc x).length = k) (hl : xs.length = n) (h : W.ownsRow b t k (.slice A n c) n (xs.flatMap enc)) : IR enc k W A n xs := by
  subst hl
  obtain ⟨A', c', e', _, hir⟩ := IR.of_own hk h
  cases e'
  exact hir
theorem clone_str (s : ByteArray) (w : World) (hs : s.size ≤ 281474976710656) :
    Calls Tryz.prog 104 #[.string s] w fun e w' => e = .returned (.string s) ∧ Below w.heap.size w w' := by
  have H := Lib.hid (Tryz.stringslite_Clone s w hs)
  go_enter Tryz.func104, Tryz.ntmps104
  go_wp2_with (go_at_call 183; refine H.out.mono ?_; rintro e w1 ⟨rfl, hb⟩)
  go_ret
  exact ⟨rfl, hb⟩
/-- a member's sources stored anew -/
theorem flat_set : ∀ (ys : List Mb) (i : Nat) (m : Mb) (A : Option Addr) (n c : Nat), ys[i]? = some m → (ys.flatMap CMember).set (i * 4 + 3) (.slice A n c) = (ys.set i { m with A := A, n := n, c := c }).flatMap CMember
  | [], _, _, _, _, _, h => by simp at h
  | y :: ys, 0, m, A, n, c, h => by
    simp at h; subst h
    obtain ⟨l, g, o, _, _, _, xs⟩ := y
    simp [CMember]
  | y :: ys, i + 1, m, A, n, c, h => by
    have h1 := flat_set ys i m A n c (by simpa using h)
    rw [List.flatMap_cons, List.set_cons_succ, List.flatMap_cons, ← h1, show (i + 1) * 4 + 3 = 4 + (i * 4 + 3) by omega]
    obtain ⟨l, g, o, _, _, _, xs⟩ := y
    simp [CMember]
    rw [show 4 + (i * 4 + 3) = i * 4 + 3 + 4 by omega]
    rfl
/-- all that lay in a world as it was, but one block, and that of its type -/
structure OffB (b g : Nat) (W W' : World) : Prop where
  b : Below b W W'
  size : W.heap.size ≤ W'.heap.size
  old : ∀ c, c < W.heap.size → c ≠ g → W'.heap[c]? = W.heap[c]?
  slot : ∀ t k, Slot W g t k → Slot W' g t k
section
variable {b g : Nat} {W W' W'' : World}
theorem OffB.refl (b g : Nat) (W : World) : OffB b g W W := ⟨Below.refl _ _, Nat.le_refl _, fun _ _ _ => rfl, fun _ _ h => h⟩
theorem OffB.next (h : OffB b g W W') (hb : Below W'.heap.size W' W'') (hl : b ≤ W'.heap.size) : OffB b g W W'' :=
  ⟨h.b.trans (hb.mono hl), Nat.le_trans h.size hb.size, fun c hc hn => (hb.block c (Nat.lt_of_lt_of_le hc h.size)).trans (h.old c hc hn), fun t k hs => (h.slot t k hs).next hb⟩
theorem OffB.drew (h : OffB b g W W') : OffB b g W W'.drew := ⟨h.b.drew, h.size, h.old, fun t k hs => (h.slot t k hs).next (Below.refl _ _).drew⟩
theorem OffB.store (h : OffB b g W W') (hg : b ≤ g) (i : Nat) (u : Value) : OffB b g W (W'.setCell ⟨g, i, none⟩ u) :=
  ⟨h.b.setCell (by simpa using hg) u, by simpa using h.size, fun c hc hn => (Below.heap_setCell W' ⟨g, i, none⟩ u c hn).trans (h.old c hc hn), fun t k hs => (h.slot t k hs).store i u⟩
theorem OffB.cell (h : OffB b g W W') {p : Addr} {v : Value} (hn : p.block ≠ g) (hc : W.cell? p = some v) : W'.cell? p = some v :=
  (World.cell?_of_block (h.old _ (World.block_lt_of_cell? W p hc) hn)).trans hc
end
/-- what stays through the loop over the members -/
structure Fr (W1 : World) (b N : Nat) (t : TypeId) (cells : Array Value) (os : List (TypeId × Nat × Value × Nat × List Value)) (W : World) : Prop where
  hb : Below b W1 W
  blk : Blk W N t cells
  own : ∀ q ∈ os, W.ownsRow b q.1 q.2.1 q.2.2.1 q.2.2.2.1 q.2.2.2.2
theorem Fr.next {W1 W W' : World} {b N : Nat} {t : TypeId} {cells : Array Value} {os : List (TypeId × Nat × Value × Nat × List Value)} (h : Fr W1 b N t cells os W) (hb : Below W.heap.size W W') (hl : b ≤ W.heap.size) : Fr W1 b N t cells os W' :=
  ⟨h.hb.trans (hb.mono hl), h.blk.next hb, fun q hq => ownk_next (h.own q hq) hb⟩
theorem Fr.store {W1 W : World} {b N g : Nat} {t tm : TypeId} {cells cs : Array Value} {os : List (TypeId × Nat × Value × Nat × List Value)} (h : Fr W1 b N t cells os W) (hg : Blk W g tm cs) (hl : b ≤ g) (ht : t ≠ tm) (hos : ∀ q ∈ os, q.1 ≠ tm) (i : Nat) (u : Value) : Fr W1 b N t cells os (W.setCell ⟨g, i, none⟩ u) :=
  ⟨h.hb.setCell (by simpa using hl) u, h.blk.far (fun e => by
    have h1 := h.blk
    simp only at e
    subst e
    unfold Blk at h1 hg
    rw [h1] at hg
    cases hg
    exact ht rfl) u, fun q hq => ownk_far (h.own q hq) hg.slot (hos q hq)⟩
theorem AR.ir {w : World} {A : Option Addr} {n : Nat} {xs : List Int} (h : AR w A n xs) : IR CAddr 1 w A n xs :=
  ⟨h.1, fun hn => by
    obtain ⟨b, o, e, hlt, hc⟩ := h.2.2 hn
    refine ⟨b, o, e, hlt, fun i x hx j v hv => ?_⟩
    have hi : i < n := by have := (List.getElem?_eq_some_iff.1 hx).1; have := h.1; omega
    obtain rfl : j = 0 := by
      rcases j with _ | j
      · rfl
      · simp [CAddr] at hv
    have := hc i hi
    simp only [CAddr, List.getElem?_cons_zero, Option.some.injEq] at hv
    rw [Nat.mul_one, Nat.add_zero, this, ← hv]
    simp [List.getD, hx]⟩
theorem flat_caddr (xs : List Int) : xs.flatMap CAddr = A32 xs := by
  induction xs with
  | nil => rfl
  | cons x xs ih => rw [List.flatMap_cons, ih]; rfl
theorem plain_set {ys : List Mb} {k : Nat} {m m' : Mb} (h : ys[k]? = some m) (hp : m'.plain = m.plain) : (ys.set k m').map Mb.plain = ys.map Mb.plain := by
  rw [List.map_set, hp]
  have h1 : (ys.map Mb.plain)[k]? = some m.plain := by rw [List.getElem?_map, h]; rfl
  generalize ys.map Mb.plain = l at *
  apply List.ext_getElem?
  intro j
  rw [List.getElem?_set]
  split
  · rename_i e; subst e; rw [h1, if_pos (List.getElem?_eq_some_iff.1 h1).1]
  · rfl
theorem drop_get {α : Type} {xs ys : List α} {k : Nat} (h : ys.drop k = xs.drop k) : ys[k]? = xs[k]? := by
  have := congrArg (fun l => l[0]?) h
  simpa using this
theorem drop_succ {α : Type} {xs ys : List α} {k : Nat} (h : ys.drop k = xs.drop k) : ys.drop (k + 1) = xs.drop (k + 1) := by
  have := congrArg (List.drop 1) h
  simpa [List.drop_drop] using this
theorem ret_clone (tm : Array Value) (N : Nat) (W : World) (v0 v1 v2 v3 v4 v5 v6 : Value) (h2 : tm.getD 2 undef = .pointer (some ⟨N, 0, none⟩)) (c0 : W.cell? ⟨N, 0, none⟩ = some v0) (c1 : W.cell? ⟨N, 1, none⟩ = some v1) (c2 : W.cell? ⟨N, 2, none⟩ = some v2) (c3 : W.cell? ⟨N, 3, none⟩ = some v3) (c4 : W.cell? ⟨N, 4, none⟩ = some v4) (c5 : W.cell? ⟨N, 5, none⟩ = some v5) (c6 : W.cell? ⟨N, 6, none⟩ = some v6) :
    (results Tryz.f46 tm).run Tryz.prog W = .ok (.agg #[v0, v1, v2, v3, v4, v5, v6]) W := by
  have h2' : tm[2]?.getD undef = .pointer (some ⟨N, 0, none⟩) := by simpa using h2
  simp [results, Tryz.results46, go_sem, h2', c0, c1, c2, c3, c4, c5, c6]
/-- a network that lies in memory of its own: seven rows and the members' sources, each in a block of its type -/
structure CWo (W : World) (b : Nat) (M : Cm) (x : Cfg) : Prop where
  r : W.ownsRow b 77 2 (.slice M.r.A M.r.n M.r.c) M.r.n (x.rs.flatMap CRouter)
  l : W.ownsRow b 125 3 (.slice M.l.A M.l.n M.l.c) M.l.n (x.ls.flatMap CLink)
  p : W.ownsRow b 80 3 (.slice M.p.A M.p.n M.p.c) M.p.n (x.ps.flatMap CPort)
  o : W.ownsRow b 128 5 (.slice M.o.A M.o.n M.o.c) M.o.n (x.os.flatMap CRoute)
  g : W.ownsRow b 149 3 (.slice M.g.A M.g.n M.g.c) M.g.n (x.gs.flatMap CRange)
  s : W.ownsRow b 147 3 (.slice M.s.A M.s.n M.s.c) M.s.n (x.ss.flatMap CSource)
  m : W.ownsRow b 115 4 (.slice M.m.A M.m.n M.m.c) M.m.n (x.ms.flatMap CMember)
  len : x.rs.length = M.r.n ∧ x.ls.length = M.l.n ∧ x.ps.length = M.p.n ∧ x.os.length = M.o.n ∧ x.gs.length = M.g.n ∧ x.ss.length = M.s.n ∧ x.ms.length = M.m.n
  oks : M.r.ok ∧ M.l.ok ∧ M.p.ok ∧ M.o.ok ∧ M.g.ok ∧ M.s.ok ∧ M.m.ok
  src : ∀ y ∈ x.ms, y.n ≤ y.c ∧ y.n ≤ 1000000 ∧ IsAs y.xs ∧ W.ownsRow b 42 1 (.slice y.A y.n y.c) y.n (A32 y.xs)
  ok : x.ok
theorem CWo.cw {W : World} {b : Nat} {M : Cm} {x : Cfg} (h : CWo W b M x) : CW W M x := by
  obtain ⟨h1, h2, h3, h4, h5, h6, h7⟩ := h.len
  obtain ⟨k1, k2, k3, k4, k5, k6, k7⟩ := h.oks
  refine ⟨own_ir router_len h1 h.r, own_ir link_len h2 h.l, own_ir port_len h3 h.p, own_ir route_len h4 h.o, own_ir range_len h5 h.g, own_ir source_len h6 h.s, own_ir member_len h7 h.m, k1, k2, k3, k4, k5, k6, k7, fun y hy => ?_, h.ok⟩
  obtain ⟨a1, a2, a3, a4⟩ := h.src y hy
  obtain ⟨A, c, e, _, har, _⟩ := own_forma a4 a3
  cases e
  exact ⟨har, a1, a2⟩
/-- what turns neither a network nor what stands beside it: new blocks, rows of numbers, rows of such rows, maps -/
structure Fr2 (W W' : World) : Prop where
  size : W.heap.size ≤ W'.heap.size
  old : ∀ g t cs, Blk W g t cs → t ≠ 3 → t ≠ 52 → W'.heap[g]? = W.heap[g]?
section
variable {W W' W'' : World} {b : Nat} {M : Cm} {x : Cfg}
theorem Fr2.refl (W : World) : Fr2 W W := ⟨Nat.le_refl _, fun _ _ _ _ _ _ => rfl⟩
theorem Fr2.trans (h : Fr2 W W') (k : Fr2 W' W'') : Fr2 W W'' := ⟨Nat.le_trans h.size k.size, fun g t cs hb h1 h2 => (k.old g t cs ((h.old g t cs hb h1 h2).trans hb) h1 h2).trans (h.old g t cs hb h1 h2)⟩
theorem Fr2.below (h : Below W.heap.size W W') : Fr2 W W' := ⟨h.size, fun g _ _ hb _ _ => h.block g hb.lt⟩
theorem Fr2.blk {g : Nat} {t : TypeId} {cs : Array Value} (h : Fr2 W W') (hb : Blk W g t cs) (h1 : t ≠ 3) (h2 : t ≠ 52) : Blk W' g t cs := (h.old g t cs hb h1 h2).trans hb
theorem Fr2.own {t : TypeId} {k n : Nat} {v : Value} {ys : List Value} (h : Fr2 W W') (ho : W.ownsRow b t k v n ys) (h1 : t ≠ 3) (h2 : t ≠ 52) : W'.ownsRow b t k v n ys := by
  refine ⟨ho.1, ?_⟩
  rcases ho.2 with hn | ⟨g, cap, cur, rfl, hbg, hh, rest⟩
  · exact .inl hn
  · exact .inr ⟨g, cap, cur, rfl, hbg, (h.old g t cur hh h1 h2).trans hh, rest⟩
theorem CWo.fr (h : CWo W b M x) (k : Fr2 W W') : CWo W' b M x :=
  ⟨k.own h.r (by decide) (by decide), k.own h.l (by decide) (by decide), k.own h.p (by decide) (by decide), k.own h.o (by decide) (by decide), k.own h.g (by decide) (by decide), k.own h.s (by decide) (by decide), k.own h.m (by decide) (by decide), h.len, h.oks,
    fun y hy => ⟨(h.src y hy).1, (h.src y hy).2.1, (h.src y hy).2.2.1, k.own (h.src y hy).2.2.2 (by decide) (by decide)⟩, h.ok⟩
theorem Fr2.grown {row : Option Nat} (h : W.grownBy W' row) (hr : ∀ g, row = some g → ∀ t cs, Blk W g t cs → t = 3 ∨ t = 52) : Fr2 W W' :=
  ⟨h.size, fun g t cs hb h1 h2 => h.block g hb.lt (fun e => by
    rcases hr g e.symm t cs hb with rfl | rfl
    · exact h1 rfl
    · exact h2 rfl)⟩
theorem Fr2.store {g : Nat} {t : TypeId} {cs : Array Value} (hb : Blk W g t cs) (ht : t = 3 ∨ t = 52) (i : Nat) (u : Value) : Fr2 W (W.setCell ⟨g, i, none⟩ u) :=
  ⟨by simp, fun c t' cs' hc h1 h2 => Below.heap_setCell W ⟨g, i, none⟩ u c (fun e => by
    simp only at e
    subst e
    unfold Blk at hb hc
    rw [hb] at hc
    cases hc
    rcases ht with rfl | rfl
    · exact h1 rfl
    · exact h2 rfl)⟩
end
end Go.Proofs.YtdljpokhcfhhfaaGreatDoor

