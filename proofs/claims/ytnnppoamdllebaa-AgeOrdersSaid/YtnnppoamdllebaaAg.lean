/- What was heard, plainly: things, entries, a table of them heard and ticked; a map of entries by things as it lies in memory: looked up, stored, struck, ranged over. -/
import Derived.Test.YtnnppoamdllebaaSlip
import Derived.Test.YtnnppoamdllebaaProg
import Derived.Maps.Range
import Derived.WideKeyEntry
import Derived.DeepKeys4
import Derived.WalkKit
namespace Go.Proofs.Ytnnppoamdllebaa
open Go.RowKit Go.MapKept Go.ChangeMaps Sm
/-- kind, port, from, source, group -/
abbrev Th := Int × Int × Int × Int × Int
/-- a thing that was heard: how many ticks ago, by which message -/
structure En where
  t : Th
  a : Int
  m : Ms
/-- an entry, and where its message's Sources lie -/
structure Ex where
  e : En
  A : Option Addr
  n : Nat
  c : Nat
/-- an entry in its map, by its stamp -/
abbrev Row := List (Nat × Ex)
namespace Ag
theorem fm_congr {α β : Type} {f g : α → Option β} : ∀ {l : List α}, (∀ x ∈ l, f x = g x) → l.filterMap f = l.filterMap g
  | [], _ => rfl
  | a :: r, h => by
    rw [List.filterMap_cons, List.filterMap_cons, h a (List.mem_cons_self ..), fm_congr (fun x hx => h x (List.mem_cons_of_mem _ hx))]
def z0 : Ex := ⟨⟨(0, 0, 0, 0, 0), 0, ⟨0, 0, 0, 0, 0, 0, 0, false, []⟩⟩, none, 0, 0⟩
def find (T : Row) (x : Th) : Option Ex := (T.find? fun p => decide (p.2.e.t = x)).map (·.2)
def upd (T : Row) (y : Ex) : Row := T.map fun p => if p.2.e.t = y.e.t then (p.1, y) else p
def del (T : Row) (x : Th) : Row := T.filter fun p => !decide (p.2.e.t = x)
/-- one tick older, or gone -/
def old (e : En) : Option En := if e.a + 1 > 3 then none else some { e with a := e.a + 1 }
def old1 (p : Nat × Ex) : Option (Nat × Ex) := (old p.2.e).map fun e => (p.1, { p.2 with e := e })
def oldS (seen : Array Nat) (p : Nat × Ex) : Option (Nat × Ex) := if seen.contains p.1 then old1 p else some p
def Apart (T : Row) : Prop := T.Pairwise fun p q => p.2.e.t ≠ q.2.e.t
theorem find_none {T : Row} {x : Th} (h : ∀ p ∈ T, p.2.e.t ≠ x) : find T x = none := by
  unfold find
  rw [List.find?_eq_none.2 (fun p hp => by simpa using h p hp)]
  rfl
theorem apart_eq {T : Row} (h : Apart T) {p q : Nat × Ex} (hp : p ∈ T) (hq : q ∈ T) (he : p.2.e.t = q.2.e.t) : p = q := by
  induction T with
  | nil => cases hp
  | cons a r ih =>
    obtain ⟨h1, h2⟩ := List.pairwise_cons.1 h
    rcases List.mem_cons.1 hp with rfl | hp'
    · rcases List.mem_cons.1 hq with rfl | hq'
      · rfl
      · exact absurd he (h1 q hq')
    · rcases List.mem_cons.1 hq with rfl | hq'
      · exact absurd he.symm (h1 p hp')
      · exact ih h2 hp' hq'
theorem find_some {T : Row} (h : Apart T) {p : Nat × Ex} (hp : p ∈ T) : find T p.2.e.t = some p.2 := by
  unfold find
  cases hf : T.find? fun q => decide (q.2.e.t = p.2.e.t) with
  | none => have := List.find?_eq_none.1 hf p hp; simp at this
  | some q =>
    have h1 := List.mem_of_find?_eq_some hf
    have h2 : q.2.e.t = p.2.e.t := by simpa using List.find?_some hf
    rw [apart_eq h h1 hp h2]
    rfl
theorem find_of {T : Row} {x : Th} {y : Ex} (h : find T x = some y) : (∃ n, (n, y) ∈ T) ∧ y.e.t = x := by
  unfold find at h
  cases hf : T.find? fun q => decide (q.2.e.t = x) with
  | none => rw [hf] at h; cases h
  | some q =>
    rw [hf] at h
    cases h
    exact ⟨⟨q.1, List.mem_of_find?_eq_some hf⟩, by simpa using List.find?_some hf⟩
theorem find_no {T : Row} {x : Th} (h : find T x = none) : ∀ p ∈ T, p.2.e.t ≠ x := by
  intro p hp e
  unfold find at h
  cases hf : T.find? fun q => decide (q.2.e.t = x) with
  | none => have := List.find?_eq_none.1 hf p hp; simp [e] at this
  | some q => rw [hf] at h; cases h
theorem upd_new {T : Row} {y : Ex} (h : find T y.e.t = none) : upd T y = T := by
  unfold upd
  have := find_no h
  exact (List.map_congr_left fun p hp => by rw [if_neg (this p hp)]).trans (List.map_id' T)
theorem set_upd {T : Row} (h : Apart T) {j : Nat} {p : Nat × Ex} (hj : T[j]? = some p) {y : Ex} (he : p.2.e.t = y.e.t) : T.set j (p.1, y) = upd T y := by
  unfold upd
  induction T generalizing j with
  | nil => simp at hj
  | cons a r ih =>
    obtain ⟨h1, h2⟩ := List.pairwise_cons.1 h
    cases j with
    | zero =>
      simp only [List.getElem?_cons_zero, Option.some.injEq] at hj
      subst hj
      rw [List.set_cons_zero, List.map_cons, if_pos he]
      congr 1
      exact ((List.map_congr_left fun q hq => by rw [if_neg (fun e => h1 q hq (he.trans e.symm))]).trans (List.map_id' r)).symm
    | succ j =>
      simp only [List.getElem?_cons_succ] at hj
      rw [List.set_cons_succ, List.map_cons, ih h2 hj, if_neg (fun e => h1 p (List.mem_of_getElem? hj) (e.trans he.symm))]
theorem erase_del {T : Row} (h : Apart T) {j : Nat} {p : Nat × Ex} (hj : T[j]? = some p) {x : Th} (he : p.2.e.t = x) : T.eraseIdx j = del T x := by
  unfold del
  induction T generalizing j with
  | nil => simp at hj
  | cons a r ih =>
    obtain ⟨h1, h2⟩ := List.pairwise_cons.1 h
    cases j with
    | zero =>
      simp only [List.getElem?_cons_zero, Option.some.injEq] at hj
      subst hj
      rw [List.eraseIdx_cons_zero, List.filter_cons_of_neg (by simp [he])]
      exact (List.filter_eq_self.2 fun q hq => by simpa using fun e => h1 q hq (he.trans e.symm)).symm
    | succ j =>
      simp only [List.getElem?_cons_succ] at hj
      rw [List.eraseIdx_cons_succ, List.filter_cons_of_pos (by simpa using fun e => h1 p (List.mem_of_getElem? hj) (e.trans he.symm)), ih h2 hj]
theorem old1_t {p q : Nat × Ex} (h : old1 p = some q) : q.1 = p.1 ∧ q.2.e.t = p.2.e.t := by
  unfold old1 old at h
  split at h
  · cases h
  · cases h; exact ⟨rfl, rfl⟩
theorem oldS_t {s : Array Nat} {p q : Nat × Ex} (h : oldS s p = some q) : q.1 = p.1 ∧ q.2.e.t = p.2.e.t := by
  unfold oldS at h
  split at h
  · exact old1_t h
  · cases h; exact ⟨rfl, rfl⟩
theorem oldS_start (T : Row) : T.filterMap (oldS #[]) = T := by
  rw [show oldS #[] = some by funext p; simp [oldS]]
  exact List.filterMap_some
/-- those that have come are older, or gone: one more has come -/
theorem oldS_upd {T : Row} (h : Apart T) (hb : (T.map (·.1)).Nodup) {s : Array Nat} {p : Nat × Ex} (hp : p ∈ T) (hs : s.contains p.1 = false) {q : Nat × Ex} (ho : old1 p = some q) : upd (T.filterMap (oldS s)) q.2 = T.filterMap (oldS (s.push p.1)) := by
  unfold upd
  rw [List.map_filterMap]
  refine fm_congr fun r hr => ?_
  have hq := old1_t ho
  by_cases e : r = p
  · subst e
    have e1 : oldS s r = some r := by unfold oldS; rw [hs]; rfl
    have e2 : oldS (s.push r.1) r = some q := by unfold oldS; rw [if_pos (by simp), ho]
    rw [e1, e2, Option.map_some, if_pos hq.2.symm, ← hq.1]
  · have hne : r.1 ≠ p.1 := fun e1 => e (by
      obtain ⟨i, hi⟩ := List.getElem?_of_mem hr
      obtain ⟨j, hj⟩ := List.getElem?_of_mem hp
      have a1 : (T.map (·.1))[i]? = some r.1 := by rw [List.getElem?_map, hi]; rfl
      have a2 : (T.map (·.1))[j]? = some r.1 := by rw [List.getElem?_map, hj, e1]; rfl
      obtain rfl : i = j := (List.getElem?_inj (List.getElem?_eq_some_iff.1 a1).1 hb).1 (a1.trans a2.symm)
      rw [hi] at hj
      exact Option.some.inj hj)
    have e2 : oldS (s.push p.1) r = oldS s r := by
      unfold oldS
      have : (s.push p.1).contains r.1 = s.contains r.1 := by simp [hne]
      rw [this]
    rw [e2]
    cases ho' : oldS s r with
    | none => rfl
    | some z =>
      have hz := oldS_t ho'
      rw [Option.map_some, if_neg (fun e1 => e (apart_eq h hr hp (by rw [← hz.2, e1, hq.2])))]
theorem oldS_del {T : Row} (h : Apart T) (hb : (T.map (·.1)).Nodup) {s : Array Nat} {p : Nat × Ex} (hp : p ∈ T) (hs : s.contains p.1 = false) (ho : old1 p = none) : del (T.filterMap (oldS s)) p.2.e.t = T.filterMap (oldS (s.push p.1)) := by
  unfold del
  rw [List.filter_filterMap]
  refine fm_congr fun r hr => ?_
  by_cases e : r = p
  · subst e
    have e1 : oldS s r = some r := by unfold oldS; rw [hs]; rfl
    have e2 : oldS (s.push r.1) r = none := by unfold oldS; rw [if_pos (by simp), ho]
    rw [e1, e2]
    simp [Option.filter]
  · have hne : r.1 ≠ p.1 := fun e1 => e (by
      obtain ⟨i, hi⟩ := List.getElem?_of_mem hr
      obtain ⟨j, hj⟩ := List.getElem?_of_mem hp
      have a1 : (T.map (·.1))[i]? = some r.1 := by rw [List.getElem?_map, hi]; rfl
      have a2 : (T.map (·.1))[j]? = some r.1 := by rw [List.getElem?_map, hj, e1]; rfl
      obtain rfl : i = j := (List.getElem?_inj (List.getElem?_eq_some_iff.1 a1).1 hb).1 (a1.trans a2.symm)
      rw [hi] at hj
      exact Option.some.inj hj)
    have e2 : oldS (s.push p.1) r = oldS s r := by
      unfold oldS
      have : (s.push p.1).contains r.1 = s.contains r.1 := by simp [hne]
      rw [this]
    rw [e2]
    cases ho' : oldS s r with
    | none => rfl
    | some z =>
      have hz := oldS_t ho'
      have hzt : z.2.e.t ≠ p.2.e.t := fun e1 => e (apart_eq h hr hp (by rw [← hz.2, e1]))
      simp [Option.filter, hzt]
theorem oldS_end {T : Row} {s : Array Nat} (h : ∀ p ∈ T.filterMap (oldS s), s.contains p.1 = true) : T.filterMap (oldS s) = T.filterMap old1 := by
  refine fm_congr fun p hp => ?_
  cases hs : s.contains p.1 with
  | true => unfold oldS; rw [hs]; rfl
  | false =>
    have e1 : oldS s p = some p := by unfold oldS; rw [hs]; rfl
    have := h p (List.mem_filterMap.2 ⟨p, hp, e1⟩)
    rw [hs] at this
    cases this
end Ag
open Ag
/-- a thing as a value -/
def tv (x : Th) : Value := .agg #[.int .i64 x.1, .int .i64 x.2.1, .int .u32 x.2.2.1, .int .u32 x.2.2.2.1, .int .u32 x.2.2.2.2]
/-- an entry's cells -/
def encE (y : Ex) : List Value := [.int .i64 y.e.t.1, .int .i64 y.e.t.2.1, .int .u32 y.e.t.2.2.1, .int .u32 y.e.t.2.2.2.1, .int .u32 y.e.t.2.2.2.2, .int .i64 y.e.a,
  .int .i64 y.e.m.k, .int .u32 y.e.m.f, .int .u32 y.e.m.t, .int .u32 y.e.m.s, .int .u32 y.e.m.g, .int .i64 y.e.m.r, .int .i64 y.e.m.c, .bool y.e.m.o, .slice y.A y.n y.c]
def ev (y : Ex) : Value := .agg (encE y).toArray
def i64 (n : Int) : Prop := -9223372036854775808 ≤ n ∧ n ≤ 9223372036854775807
def wfT (x : Th) : Prop := i64 x.1 ∧ i64 x.2.1 ∧ isA x.2.2.1 ∧ isA x.2.2.2.1 ∧ isA x.2.2.2.2
theorem tv_inj {x y : Th} (h : tv x = tv y) : x = y := by
  unfold tv at h
  simp at h
  obtain ⟨h1, h2, h3, h4, h5⟩ := h
  exact Prod.ext h1 (Prod.ext h2 (Prod.ext h3 (Prod.ext h4 h5)))
theorem laidA : laidOutB Try.prog = true := by kernel_rfl
theorem lawT : WideMaps.KeyLaw Try.prog 28 := deep_law_laid laidA (m := 3) (by omega) (of_decide_eq_true (by kernel_rfl)) (by kernel_rfl) (by kernel_rfl)
theorem keyTT : Try.prog.keyType 28 = true := by kernel_rfl
theorem cellsT : Try.prog.cellsOf 28 = 5 := by kernel_rfl
theorem cellsK : Try.prog.cellsOf 26 = 2 := by kernel_rfl
theorem cellsA : Try.prog.cellsOf 24 = 1 := by kernel_rfl
theorem cellsI : Try.prog.cellsOf 3 = 1 := by kernel_rfl
theorem zeroE (w : World) : (zeroValue 56).run Try.prog w = .ok (ev z0) w := by kernel_rfl
theorem tv_key {x : Th} (h : wfT x) : ∃ kl, keyOf Try.prog 28 (tv x) = some kl := by
  obtain ⟨⟨a0, a1⟩, ⟨b0, b1⟩, ⟨c0, c1⟩, ⟨d0, d1⟩, ⟨e0, e1⟩⟩ := h
  have wa : (Lit.int .i64 x.1).wf = true := by simp [Lit.wf, IntKind.min, IntKind.max, IntKind.signed, IntKind.bits]; omega
  have wb : (Lit.int .i64 x.2.1).wf = true := by simp [Lit.wf, IntKind.min, IntKind.max, IntKind.signed, IntKind.bits]; omega
  have wc : (Lit.int .u32 x.2.2.1).wf = true := by simp [Lit.wf, IntKind.min, IntKind.max, IntKind.signed, IntKind.bits]; omega
  have wd : (Lit.int .u32 x.2.2.2.1).wf = true := by simp [Lit.wf, IntKind.min, IntKind.max, IntKind.signed, IntKind.bits]; omega
  have we : (Lit.int .u32 x.2.2.2.2).wf = true := by simp [Lit.wf, IntKind.min, IntKind.max, IntKind.signed, IntKind.bits]; omega
  have hf : (tv x).formed Try.prog 28 = true := by simp [tv, Value.formed, Try.underlying28, cellsT]
  unfold keyOf
  simp only [Try.underlying28, keyTT, hf, Bool.and_self, if_true]
  have hl : ∀ n, ∃ ls, Try.prog.keyLits (n + 3) 28 (tv x).cells.toList = some ls := by
    intro n
    simp [Program.keyLits, tv, Value.cells, Try.underlying28, Try.underlying26, Try.underlying24, Try.underlying3, cellsT, cellsK, cellsA, cellsI, wa, wb, wc, wd, we]
    rw [if_pos (fun i hi => by match i, hi with | 0, _ => simp | 1, _ => simp)]
    exact ⟨_, rfl⟩
  have hs : ∃ n, Try.prog.types.size + 1 = n + 3 := ⟨Try.prog.types.size - 2, by
    have : 2 ≤ Try.prog.types.size := of_decide_eq_true (by kernel_rfl)
    omega⟩
  obtain ⟨n, hn⟩ := hs
  obtain ⟨ls, hls⟩ := hl n
  rw [hn, hls]
  exact ⟨_, rfl⟩
end Go.Proofs.Ytnnppoamdllebaa

