/- A map of entries by things, in memory: looked up, stored, struck, ranged over; a table that lies at a place; over the seat's program. -/
import Derived.Test.YtnnppoamdllebaaAg
import Derived.Maps.RangeWalk
namespace Go.Proofs.Ytnnppoamdllebaa
open Go.RowKit Go.MapKept Go.ChangeMaps Sm Ag
def mkE (p : Nat × Ex) : MapEntry := ⟨tv p.2.e.t, ev p.2, p.1⟩
def Good (w : World) (y : Ex) : Prop := wfT y.e.t ∧ (0 ≤ y.e.a ∧ y.e.a ≤ 3) ∧ AR w y.A y.n y.e.m.l ∧ y.n ≤ 1000000
/-- the map at block b: its entries, in their order, its clock -/
structure AM (w : World) (b : Nat) (T : Row) (clock : Nat) : Prop where
  block : w.heap[b]? = some (.map (T.map mkE).toArray clock)
  born : ∀ p ∈ T, p.1 < clock
  once : (T.map (·.1)).Nodup
  apart : Apart T
  each : ∀ p ∈ T, Good w p.2
/-- all but a table's variable and its map is as it was -/
structure Chg (w w' : World) (N : Nat) (mb : Option Nat) : Prop where
  os : w'.os = w.os
  tape : w'.tape = w.tape
  output : w'.output = w.output
  size : w.heap.size ≤ w'.heap.size
  block : ∀ i, i < w.heap.size → i ≠ N → mb ≠ some i → w'.heap[i]? = w.heap[i]?
structure TB (w : World) (N : Nat) (mb : Option Nat) (T : Row) : Prop where
  box : Blk w N 33 #[.map mb]
  map : (mb = none ∧ T = []) ∨ ∃ b clock, mb = some b ∧ AM w b T clock
section
variable {w w' w2 : World} {N b r g : Nat} {mb : Option Nat} {T : Row} {clock : Nat} {A : Option Addr} {n : Nat} {xs : List Int} {y : Ex} {x : Th} {s : Array Nat}
theorem Chg.refl (w : World) (N : Nat) (mb : Option Nat) : Chg w w N mb := ⟨rfl, rfl, rfl, Nat.le_refl _, fun _ _ _ _ => rfl⟩
theorem Chg.of_below (h : Below w.heap.size w w') (N : Nat) (mb : Option Nat) : Chg w w' N mb := ⟨h.os, h.tape, h.output, h.size, fun i hi _ _ => h.block i hi⟩
theorem Chg.trans {mb2 : Option Nat} (h : Chg w w' N mb) (k : Chg w' w2 N mb2) (hm : ∀ j, mb2 = some j → mb = some j ∨ w.heap.size ≤ j) : Chg w w2 N mb :=
  ⟨k.os.trans h.os, k.tape.trans h.tape, k.output.trans h.output, Nat.le_trans h.size k.size, fun i hi h1 h2 =>
    (k.block i (Nat.lt_of_lt_of_le hi h.size) h1 (fun e => by
      rcases hm i e with h3 | h3
      · exact h2 h3
      · omega)).trans (h.block i hi h1 h2)⟩
theorem Chg.next (h : Chg w w' N mb) (k : Below w'.heap.size w' w2) : Chg w w2 N mb :=
  ⟨k.os.trans h.os, k.tape.trans h.tape, k.output.trans h.output, Nat.le_trans h.size k.size, fun i hi h1 h2 => (k.block i (Nat.lt_of_lt_of_le hi h.size)).trans (h.block i hi h1 h2)⟩
theorem Chg.below {B : Nat} (h : Chg w w' N mb) (hB : B ≤ w.heap.size) (hN : B ≤ N) (hm : ∀ j, mb = some j → B ≤ j) : Below B w w' :=
  ⟨h.os, h.tape, h.output, h.size, fun i hi => h.block i (by omega) (by omega) (fun e => by have := hm i e; omega)⟩
theorem cell_map {es : Array MapEntry} (h : w.heap[b]? = some (.map es clock)) (o : Nat) : w.cell? ⟨b, o, none⟩ = none := by simp [World.cell?, h]
theorem AM.lt (h : AM w b T clock) : b < w.heap.size := (Array.getElem?_eq_some_iff.1 h.block).1
theorem AR.of_blocks (h : AR w A n xs) (hz : w.heap.size ≤ w'.heap.size) (hk : ∀ g o x, g < w.heap.size → w.cell? ⟨g, o, none⟩ = some (.int .u32 x) → w'.heap[g]? = w.heap[g]?) : AR w' A n xs :=
  ⟨h.1, h.2.1, fun hn => by
    obtain ⟨g, o, e, hlt, hc⟩ := h.2.2 hn
    have hg := hk g (o + 0) _ hlt (hc 0 hn)
    refine ⟨g, o, e, Nat.lt_of_lt_of_le hlt hz, fun i hi => ?_⟩
    rw [← hc i hi]
    simp [World.cell?, hg]⟩
theorem AM.ne (h : AM w b T clock) {o : Nat} {v : Value} (hc : w.cell? ⟨g, o, none⟩ = some v) : g ≠ b := by
  intro e
  subst e
  rw [cell_map h.block] at hc
  cases hc
theorem Blk.neU {t : TypeId} {m : Option Nat} (h : Blk w N t #[.map m]) {o : Nat} {v : Int} {k : IntKind} (hc : w.cell? ⟨g, o, none⟩ = some (.int k v)) : g ≠ N := by
  intro e
  subst e
  rw [h.cell o] at hc
  match o, hc with
  | 0, hc => simp at hc
  | o + 1, hc => simp at hc
/-- rows of addresses stay where a table turns -/
theorem TB.ar (h : TB w N mb T) (hc : Chg w w' N mb) (ha : AR w A n xs) : AR w' A n xs := by
  refine ha.of_blocks hc.size fun g o v hg hv => hc.block g hg (h.box.neU hv) (fun e => ?_)
  rcases h.map with ⟨e1, _⟩ | ⟨b, clock, e1, hm⟩
  · rw [e1] at e; cases e
  · rw [e1] at e
    cases e
    exact hm.ne hv rfl
theorem AM.ar_set (h : AM w b T clock) (o : Obj) (ha : AR w A n xs) : AR (setBlock w b o) A n xs :=
  ha.of_blocks (by simp [setBlock]) fun g o' v hg hv => heap_setBlock_other h.block o (h.ne hv)
theorem AM.good_set (h : AM w b T clock) (o : Obj) (hy : Good w y) : Good (setBlock w b o) y := ⟨hy.1, hy.2.1, h.ar_set o hy.2.2.1, hy.2.2.2⟩
theorem Good.next (h : Good w y) (hb : Below w.heap.size w w') : Good w' y := ⟨h.1, h.2.1, h.2.2.1.next hb, h.2.2.2⟩
theorem AM.next (h : AM w b T clock) (hb : Below w.heap.size w w') : AM w' b T clock := ⟨(hb.block b h.lt).trans h.block, h.born, h.once, h.apart, fun p hp => (h.each p hp).next hb⟩
theorem TB.next (h : TB w N mb T) (hb : Below w.heap.size w w') : TB w' N mb T :=
  ⟨h.box.next hb, by
    rcases h.map with h1 | ⟨b, clock, e, h1⟩
    · exact .inl h1
    · exact .inr ⟨b, clock, e, h1.next hb⟩⟩
theorem TB.ltN (h : TB w N mb T) : N < w.heap.size := h.box.lt
theorem AM.keys (h : AM w b T clock) : ∀ e ∈ (T.map mkE).toArray.toList, ∃ l, keyOf Try.prog 28 e.key = some l := by
  intro e he
  simp only [List.mem_map] at he
  obtain ⟨p, hp, rfl⟩ := he
  exact tv_key (h.each p hp).1
/-- a key sought: none has it, or the one at place j -/
theorem AM.seek (h : AM w b T clock) (hx : wfT x) (W : World) : ((Instr.findKey 28 (tv x) (T.map mkE)).run Try.prog W = .ok none W ∧ find T x = none) ∨
    ∃ j p, (Instr.findKey 28 (tv x) (T.map mkE)).run Try.prog W = .ok (some (j, ev p.2)) W ∧ T[j]? = some p ∧ p.2.e.t = x ∧ find T x = some p.2 := by
  obtain ⟨kl, hkl⟩ := tv_key hx
  rcases lawT.find W hkl (T.map mkE) (by have := h.keys; simpa using this) with ⟨h1, h2⟩ | ⟨j, e, h1, h2, h3⟩
  · exact .inl ⟨h1, find_none fun p hp e => h2 (mkE p) (List.mem_map.2 ⟨p, hp, rfl⟩) (by rw [← e]; rfl)⟩
  · rw [List.getElem?_map] at h2
    cases hj : T[j]? with
    | none => rw [hj] at h2; cases h2
    | some p =>
      rw [hj] at h2
      obtain rfl : mkE p = e := by simpa using h2
      have he : p.2.e.t = x := tv_inj h3
      exact .inr ⟨j, p, h1, hj, he, he ▸ find_some h.apart (List.mem_of_getElem? hj)⟩
theorem AM.look (h : AM w b T clock) (hx : wfT x) (W : World) (hW : W.heap[b]? = w.heap[b]?) :
    (Instr.lookup 31 (.map (some b)) (tv x) true).run Try.prog W = .ok (.tuple #[ev ((find T x).getD z0), .bool (find T x).isSome]) W := by
  obtain ⟨kl, hkl⟩ := tv_key hx
  have hb := hW.trans h.block
  rcases h.seek hx W with ⟨h1, h2⟩ | ⟨j, p, h1, h2, h3, h4⟩
  · simp [Instr.lookup, run_underlying Try.underlying31, MapKept.run_getObj_map hb, lawT.check W _ hkl, h1, Result.andThen, h2]
    rfl
  · simp [Instr.lookup, run_underlying Try.underlying31, MapKept.run_getObj_map hb, lawT.check W _ hkl, h1, Result.andThen, h4]
theorem look_nil (hx : wfT x) (W : World) : (Instr.lookup 31 (.map none) (tv x) true).run Try.prog W = .ok (.tuple #[ev z0, .bool false]) W := by
  obtain ⟨kl, hkl⟩ := tv_key hx
  rcases lawT.find W hkl [] (by simp) with ⟨h1, _⟩ | ⟨j, e, _, h2, _⟩
  · simp [Instr.lookup, run_underlying Try.underlying31, lawT.check W _ hkl, h1, Result.andThen]
    rfl
  · simp at h2
theorem apart_app {p : Nat × Ex} (h : Apart T) (hf : find T p.2.e.t = none) : Apart (T ++ [p]) := by
  unfold Apart
  rw [List.pairwise_append]
  refine ⟨h, by simp, fun q hq p' hp' => ?_⟩
  simp only [List.mem_singleton] at hp'
  subst hp'
  exact find_no hf q hq
theorem upd_fst (T : Row) (y : Ex) : (upd T y).map (·.1) = T.map (·.1) := by
  unfold upd
  rw [List.map_map]
  refine List.map_congr_left fun p _ => ?_
  simp only [Function.comp]
  split <;> rfl
theorem upd_keys (T : Row) (y : Ex) : (upd T y).map (·.2.e.t) = T.map (·.2.e.t) := by
  unfold upd
  rw [List.map_map]
  refine List.map_congr_left fun p _ => ?_
  simp only [Function.comp]
  split
  · rename_i h; exact h.symm
  · rfl
theorem apart_keys : Apart T ↔ (T.map (·.2.e.t)).Nodup := by
  unfold Apart List.Nodup
  rw [List.pairwise_map]
/-- what a thing heard makes of the entries -/
def put (T : Row) (clock : Nat) (y : Ex) : Row := if (find T y.e.t).isSome then upd T y else T ++ [(clock, y)]
def tock (T : Row) (clock : Nat) (y : Ex) : Nat := if (find T y.e.t).isSome then clock else clock + 1
theorem put_mem {p : Nat × Ex} (h : p ∈ put T clock y) : p ∈ T ∨ p.2 = y := by
  unfold put at h
  split at h
  · unfold upd at h
    obtain ⟨q, hq, rfl⟩ := List.mem_map.1 h
    split
    · exact .inr rfl
    · exact .inl hq
  · rcases List.mem_append.1 h with h | h
    · exact .inl h
    · simp only [List.mem_singleton] at h; subst h; exact .inr rfl
theorem AM.put_ (h : AM w b T clock) (hy : Good w' y) (hb : w'.heap[b]? = some (.map ((put T clock y).map mkE).toArray (tock T clock y))) (hk : ∀ p ∈ T, Good w' p.2) : AM w' b (put T clock y) (tock T clock y) := by
  refine ⟨hb, ?_, ?_, ?_, fun p hp => ?_⟩
  · intro p hp
    unfold put at hp
    unfold tock
    split at hp
    · rename_i hf
      rw [if_pos hf]
      unfold upd at hp
      obtain ⟨q, hq, rfl⟩ := List.mem_map.1 hp
      split <;> exact h.born q hq
    · rename_i hf
      rw [if_neg hf]
      rcases List.mem_append.1 hp with hp | hp
      · have := h.born p hp; omega
      · simp only [List.mem_singleton] at hp; subst hp; exact Nat.lt_succ_self _
  · unfold put
    split
    · rw [upd_fst]; exact h.once
    · rw [List.map_append, List.nodup_append]
      refine ⟨h.once, by simp, fun a ha c hc => ?_⟩
      simp only [List.map_cons, List.map_nil, List.mem_singleton] at hc
      subst hc
      obtain ⟨p, hp, rfl⟩ := List.mem_map.1 ha
      have := h.born p hp
      omega
  · unfold put
    split
    · rw [apart_keys, upd_keys, ← apart_keys]; exact h.apart
    · rename_i hf
      exact apart_app h.apart (by simpa using hf)
  · rcases put_mem hp with hp | hp
    · exact hk p hp
    · rw [hp]; exact hy
/-- the world behind a store -/
def stW (w : World) (b : Nat) (T : Row) (clock : Nat) (y : Ex) : World := setBlock w b (.map ((put T clock y).map mkE).toArray (tock T clock y))
theorem AM.store (h : AM w b T clock) (hy : Good w y) :
    (Instr.mapUpdate 31 (.map (some b)) (tv y.e.t) (ev y)).run Try.prog w = .ok () (stW w b T clock y) ∧ AM (stW w b T clock y) b (put T clock y) (tock T clock y) ∧ w.grownBy (stW w b T clock y) (some b) ∧ (stW w b T clock y).heap.size = w.heap.size := by
  unfold stW
  obtain ⟨kl, hkl⟩ := tv_key hy.1
  have hb := h.block
  have hgrow : ∀ o, w.grownBy (setBlock w b o) (some b) := fun o => ⟨rfl, rfl, rfl, by simp [setBlock], fun i _ hi => heap_setBlock_other hb o (fun e1 => hi (by rw [e1]))⟩
  rcases h.seek hy.1 w with ⟨h1, h2⟩ | ⟨j, p, h1, h2, h3, h4⟩
  · have e1 : put T clock y = T ++ [(clock, y)] := by unfold put; rw [h2]; rfl
    have e2 : tock T clock y = clock + 1 := by unfold tock; rw [h2]; rfl
    have e3 : (T.map mkE).toArray.push ⟨tv y.e.t, ev y, clock⟩ = ((put T clock y).map mkE).toArray := by rw [e1]; simp [mkE]
    refine ⟨?_, ?_, hgrow _, by simp [setBlock]⟩
    · rw [← e3, e2]
      simp [Instr.mapUpdate, run_underlying Try.underlying31, MapKept.run_getObj_map hb, lawT.check w false hkl, h1, MapKept.run_setObj_map _ hb, Result.andThen, setBlock]
    · refine h.put_ (h.good_set _ hy) ?_ fun p hp => h.good_set _ (h.each p hp)
      rw [heap_setBlock_same hb]
  · have hsome : (find T y.e.t).isSome = true := by rw [h4]; rfl
    have e1 : put T clock y = upd T y := by unfold put; rw [if_pos hsome]
    have e2 : tock T clock y = clock := by unfold tock; rw [if_pos hsome]
    have hjE : (T.map mkE).toArray[j]? = some (mkE p) := by simp [h2]
    have hkey : (mkE p).key = tv y.e.t := by rw [← h3]; rfl
    have e3 : (T.map mkE).toArray.modify j (fun e => { e with key := tv y.e.t, val := ev y }) = ((put T clock y).map mkE).toArray := by
      rw [e1, ← set_upd h.apart h2 h3]
      refine Array.ext' ?_
      rw [Array.toList_modify, ChangeMaps.modify_eq_set _ _ _ (mkE p) (by simp [h2]), List.map_set]
      rfl
    refine ⟨?_, ?_, hgrow _, by simp [setBlock]⟩
    · rw [← e3, e2]
      simp [Instr.mapUpdate, run_underlying Try.underlying31, MapKept.run_getObj_map hb, lawT.check w false hkl, h1, h2, hkey, lawT.stays w hkl, MapKept.run_setObj_map _ hb, Result.andThen, setBlock]
    · refine h.put_ (h.good_set _ hy) ?_ fun p hp => h.good_set _ (h.each p hp)
      rw [heap_setBlock_same hb]
/-- the world behind a delete -/
def dlW (w : World) (b : Nat) (T : Row) (clock : Nat) (x : Th) : World := setBlock w b (.map ((del T x).map mkE).toArray clock)
theorem AM.strike (h : AM w b T clock) (hx : wfT x) (ty : TypeId) :
    (Builtin.delete_ #[31, 28] ty #[.map (some b), tv x]).run Try.prog w = .ok (.tuple #[]) (dlW w b T clock x) ∧ AM (dlW w b T clock x) b (del T x) clock ∧ w.grownBy (dlW w b T clock x) (some b) ∧ (dlW w b T clock x).heap.size = w.heap.size := by
  unfold dlW
  obtain ⟨kl, hkl⟩ := tv_key hx
  have hb := h.block
  have hgrow : ∀ o, w.grownBy (setBlock w b o) (some b) := fun o => ⟨rfl, rfl, rfl, by simp [setBlock], fun i _ hi => heap_setBlock_other hb o (fun e1 => hi (by rw [e1]))⟩
  have hsub : (del T x).Sublist T := List.filter_sublist
  have key : ∀ w' : World, w'.heap[b]? = some (.map ((del T x).map mkE).toArray clock) → (∀ p ∈ T, Good w' p.2) → AM w' b (del T x) clock := fun w' h1 h2 =>
    ⟨h1, fun p hp => h.born p (hsub.subset hp), h.once.sublist (hsub.map _), h.apart.sublist hsub, fun p hp => h2 p (hsub.subset hp)⟩
  rcases h.seek hx w with ⟨h1, h2⟩ | ⟨j, p, h1, h2, h3, h4⟩
  · have e1 : del T x = T := by
      unfold del
      exact List.filter_eq_self.2 fun p hp => by simpa using find_no h2 p hp
    rw [e1]
    refine ⟨?_, e1 ▸ key _ (by rw [heap_setBlock_same hb, e1]) fun p hp => h.good_set _ (h.each p hp), hgrow _, by simp [setBlock]⟩
    simp [Builtin.delete_, run_underlying Try.underlying31, MapKept.run_getObj_map hb, lawT.check w _ hkl, h1, MapKept.run_setObj_map _ hb, Result.andThen, setBlock]
  · have hjs : j < (T.map mkE).toArray.size := by have := (List.getElem?_eq_some_iff.1 h2).1; simpa using this
    have e3 : (T.map mkE).toArray.eraseIdxIfInBounds j = ((del T x).map mkE).toArray := by
      rw [← erase_del h.apart h2 h3]
      refine Array.ext' ?_
      unfold Array.eraseIdxIfInBounds
      rw [dif_pos hjs]
      simp [ChangeMaps.map_eraseIdx]
    refine ⟨?_, key _ (heap_setBlock_same hb _) fun p hp => h.good_set _ (h.each p hp), hgrow _, by simp [setBlock]⟩
    · rw [← e3]
      simp [Builtin.delete_, run_underlying Try.underlying31, MapKept.run_getObj_map hb, lawT.check w _ hkl, h1, MapKept.run_setObj_map _ hb, Result.andThen, setBlock]
end
end Go.Proofs.Ytnnppoamdllebaa

