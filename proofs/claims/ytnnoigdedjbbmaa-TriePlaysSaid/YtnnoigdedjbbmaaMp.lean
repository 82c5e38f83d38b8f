/- A map of prefixes to rows of numbers, as it lies in memory: which blocks are its own; a key looked up, an entry taken, a row stored. -/
import Derived.Test.YtnnoigdedjbbmaaTp
import Derived.Test.YtnnoigdedjbbmaaProg
import Derived.Maps.OwnRows
import Derived.WideKeyEntry
import Derived.DeepKeys4
namespace Go.Proofs.Ytnnoigdedjbbmaa
open Go.RowKit Go.MapKept Go.ChangeMaps
open Go.WideElems (Fit)
/-- all but some blocks is as it was -/
structure Off (F : Nat → Prop) (w w' : World) : Prop where
  os : w'.os = w.os
  tape : w'.tape = w.tape
  output : w'.output = w.output
  size : w.heap.size ≤ w'.heap.size
  block : ∀ i, i < w.heap.size → ¬ F i → w'.heap[i]? = w.heap[i]?
section
variable {F G : Nat → Prop} {w w1 w2 : World}
theorem Off.refl (F : Nat → Prop) (w : World) : Off F w w := ⟨rfl, rfl, rfl, Nat.le_refl _, fun _ _ _ => rfl⟩
theorem Off.of_below (F : Nat → Prop) (h : Below w.heap.size w w1) : Off F w w1 := ⟨h.os, h.tape, h.output, h.size, fun i hi _ => h.block i hi⟩
theorem Off.of_grown {row : Option Nat} (h : w.grownBy w1 row) (hf : ∀ g, row = some g → F g) : Off F w w1 :=
  ⟨h.os, h.tape, h.output, h.size, fun i hi hn => h.block i hi (fun e => hn (hf i e.symm))⟩
theorem Off.trans (h : Off F w w1) (g : Off G w1 w2) (hs : ∀ i, i < w.heap.size → G i → F i) : Off F w w2 :=
  ⟨g.os.trans h.os, g.tape.trans h.tape, g.output.trans h.output, Nat.le_trans h.size g.size,
    fun i hi hn => (g.block i (Nat.lt_of_lt_of_le hi h.size) (fun e => hn (hs i hi e))).trans (h.block i hi hn)⟩
theorem Off.below {B : Nat} (h : Off F w w1) (hF : ∀ i, F i → B ≤ i) (hB : B ≤ w.heap.size) : Below B w w1 :=
  ⟨h.os, h.tape, h.output, h.size, fun i hi => h.block i (Nat.lt_of_lt_of_le hi hB) (fun e => by have := hF i e; omega)⟩
end
theorem own_at {w w' : World} {base size n : Nat} {e : TypeId} {v : Value} {xs : List Value} (h : w.ownsRow base e size v n xs) (hk : ∀ g, v.ownBlock = some g → w'.heap[g]? = w.heap[g]?) : w'.ownsRow base e size v n xs := by
  refine ⟨h.1, ?_⟩
  rcases h.2 with hn | ⟨g, cap, cur, rfl, hb, hgg, rest⟩
  · exact .inl hn
  · exact .inr ⟨g, cap, cur, rfl, hb, (hk g rfl).trans hgg, rest⟩
def pv (p : Tr.Pf) : Value := .agg #[.int .u32 p.1, .int .i64 p.2]
def wfP (p : Tr.Pf) : Prop := (0 ≤ p.1 ∧ p.1 ≤ 4294967295) ∧ (-9223372036854775808 ≤ p.2 ∧ p.2 ≤ 9223372036854775807)
theorem pv_inj {p q : Tr.Pf} (h : pv p = pv q) : p = q := by
  unfold pv at h
  simp at h
  exact Prod.ext h.1 h.2
def I64 (xs : List Int) : List Value := xs.map (Value.int .i64)
theorem I64_len (xs : List Int) : (I64 xs).length = xs.length := by simp [I64]
theorem I64_app (xs ys : List Int) : I64 (xs ++ ys) = I64 xs ++ I64 ys := by simp [I64]
theorem I64_one (xs : List Int) : ∀ u ∈ I64 xs, u.oneCell' = true := by
  intro u hu; obtain ⟨x, _, rfl⟩ := List.mem_map.1 hu; rfl
theorem laid7 : laidOutB Try.prog = true := by kernel_rfl
theorem lawP : WideMaps.KeyLaw Try.prog 27 := deep_law_laid laid7 (m := 2) (by omega) (of_decide_eq_true (by kernel_rfl)) (by kernel_rfl) (by kernel_rfl)
theorem keyT : Try.prog.keyType 27 = true := by kernel_rfl
theorem cellsP : Try.prog.cellsOf 27 = 2 := by kernel_rfl
theorem cellsA : Try.prog.cellsOf 25 = 1 := by kernel_rfl
theorem cellsI : Try.prog.cellsOf 3 = 1 := by kernel_rfl
theorem zeroR (w : World) : (zeroValue 39).run Try.prog w = .ok (.slice none 0 0) w := by kernel_rfl
theorem pv_key {p : Tr.Pf} (h : wfP p) : ∃ kl, keyOf Try.prog 27 (pv p) = some kl := by
  obtain ⟨⟨h0, h1⟩, h2, h3⟩ := h
  have wa : (Lit.int .u32 p.1).wf = true := by simp [Lit.wf, IntKind.min, IntKind.max, IntKind.signed, IntKind.bits]; omega
  have wb : (Lit.int .i64 p.2).wf = true := by simp [Lit.wf, IntKind.min, IntKind.max, IntKind.signed, IntKind.bits]; omega
  have hf : (pv p).formed Try.prog 27 = true := by simp [pv, Value.formed, Try.underlying27, cellsP]
  unfold keyOf
  simp only [Try.underlying27, keyT, hf, Bool.and_self, if_true]
  have hl : ∀ n, ∃ ls, Try.prog.keyLits (n + 2) 27 (pv p).cells.toList = some ls := by
    intro n
    simp [Program.keyLits, pv, Value.cells, Try.underlying27, Try.underlying25, Try.underlying3, cellsP, cellsA, cellsI, wa, wb]
  have hs : ∃ n, Try.prog.types.size + 1 = n + 2 := ⟨Try.prog.types.size - 1, by
    have : 1 ≤ Try.prog.types.size := of_decide_eq_true (by kernel_rfl)
    omega⟩
  obtain ⟨n, hn⟩ := hs
  obtain ⟨ls, hls⟩ := hl n
  rw [hn, hls]
  exact ⟨_, rfl⟩
def R0 (_ : Value) : Option (DataW Unit × List MemPlace) := some (.nil, [])
/-- the map at block b, its entries and its clock told: row L; all blocks of it are F's -/
structure MI (w : World) (F : Nat → Prop) (b : Nat) (L : Tr.Row) (es : Array MapEntry) (clock : Nat) : Prop where
  own : F b
  block : w.heap[b]? = some (.map es clock)
  fit : Fit Try.prog 27 R0 es clock
  size : es.size = L.length
  each : ∀ (j : Nat) e x, es.toList[j]? = some e → L[j]? = some x → e.key = pv x.1 ∧ wfP x.1 ∧ w.ownsRow 0 3 1 e.val x.2.length (I64 x.2) ∧ ∀ g, e.val.ownBlock = some g → F g
  apart : ∀ (i j : Nat) e f, i ≠ j → es.toList[i]? = some e → es.toList[j]? = some f → e.val.ownBlock = none ∨ e.val.ownBlock ≠ f.val.ownBlock
def MR (w : World) (F : Nat → Prop) (b : Nat) (L : Tr.Row) : Prop := ∃ es clock, MI w F b L es clock
section
variable {w w' : World} {F F' : Nat → Prop} {b : Nat} {L : Tr.Row} {es : Array MapEntry} {clock : Nat} {p : Tr.Pf}
theorem MI.kept (h : MI w F b L es clock) (hk : ∀ i, F i → w'.heap[i]? = w.heap[i]?) (hF : ∀ i, F i → F' i) : MI w' F' b L es clock :=
  ⟨hF _ h.own, (hk _ h.own).trans h.block, h.fit, h.size, fun j e x he hx => by
    obtain ⟨h1, h2, h3, h4⟩ := h.each j e x he hx
    exact ⟨h1, h2, own_at h3 (fun g hg => hk g (h4 g hg)), fun g hg => hF g (h4 g hg)⟩, h.apart⟩
theorem MI.at_ (h : MI w F b L es clock) {j : Nat} {e : MapEntry} (he : es.toList[j]? = some e) : ∃ x, L[j]? = some x ∧ e.key = pv x.1 ∧ wfP x.1 ∧ w.ownsRow 0 3 1 e.val x.2.length (I64 x.2) ∧ ∀ g, e.val.ownBlock = some g → F g := by
  have hj : j < L.length := by
    have := (List.getElem?_eq_some_iff.1 he).1
    rw [← h.size]; simpa using this
  exact ⟨L[j], by simp [hj], h.each j e L[j] he (by simp [hj])⟩
theorem MI.back (h : MI w F b L es clock) {j : Nat} {x : Tr.Pf × List Int} (hx : L[j]? = some x) : ∃ e, es.toList[j]? = some e := by
  have hj := (List.getElem?_eq_some_iff.1 hx).1
  rw [← h.size] at hj
  exact ⟨es[j], by simp [hj]⟩
theorem MI.apartL (h : MI w F b L es clock) : Tr.Apart L := by
  have hn := h.fit.stamped.2.2
  unfold Tr.Apart
  have e : es.toList.map (·.key) = (L.map (·.1)).map pv := by
    apply List.ext_getElem?
    intro j
    rw [List.map_map, List.getElem?_map, List.getElem?_map]
    cases hl : L[j]? with
    | none =>
      have : es.toList[j]? = none := by
        rw [List.getElem?_eq_none_iff] at hl ⊢
        rw [← h.size] at hl
        simpa using hl
      rw [this]; rfl
    | some x =>
      obtain ⟨e, he⟩ := h.back hl
      rw [he]
      simp [(h.each j e x he hl).1]
  rw [e] at hn
  unfold List.Nodup at hn ⊢
  rw [List.pairwise_map] at hn
  exact hn.imp fun h e => h (congrArg pv e)
/-- a key looked up: what stands there, or nothing -/
theorem MI.find (h : MI w F b L es clock) (hp : wfP p) : ((∀ x ∈ es.toList, x.key ≠ pv p) ∧ Tr.get L p = none) ∨ ∃ (j : Nat) (e : MapEntry) (xs : List Int), es.toList[j]? = some e ∧ e.key = pv p ∧ L[j]? = some (p, xs) ∧ Tr.get L p = some xs := by
  by_cases hx : ∃ x ∈ es.toList, x.key = pv p
  · obtain ⟨e, he, hk⟩ := hx
    obtain ⟨j, hj⟩ := List.getElem?_of_mem he
    obtain ⟨⟨q, xs⟩, hL, h1, _⟩ := h.at_ hj
    obtain rfl : q = p := pv_inj (h1.symm.trans hk)
    exact .inr ⟨j, e, xs, hj, hk, hL, Tr.get_at h.apartL hL⟩
  · refine .inl ⟨fun x hx' e => hx ⟨x, hx', e⟩, Tr.get_none.2 fun x hx' e => ?_⟩
    obtain ⟨j, hj⟩ := List.getElem?_of_mem hx'
    obtain ⟨en, he⟩ := h.back hj
    exact hx ⟨en, List.mem_of_getElem? he, by rw [(h.each j en x he hj).1, e]⟩
theorem MI.same (h : MI w F b L es clock) {i j : Nat} {e f : MapEntry} (he : es.toList[i]? = some e) (hf : es.toList[j]? = some f) (hk : e.key = f.key) : i = j ∧ e = f := by
  have hnd := h.fit.stamped.2.2
  have h1 : (es.toList.map (·.key))[i]? = some f.key := by rw [List.getElem?_map, he]; simp [hk]
  have h2 : (es.toList.map (·.key))[j]? = some f.key := by rw [List.getElem?_map, hf]; rfl
  obtain rfl : i = j := (List.getElem?_inj (List.getElem?_eq_some_iff.1 h1).1 hnd).1 (h1.trans h2.symm)
  rw [he] at hf
  exact ⟨rfl, Option.some.inj hf⟩
theorem MR.look (h : MR w F b L) (hp : wfP p) : ∃ v, (∀ W : World, W.heap[b]? = w.heap[b]? → (Instr.lookup 29 (.map (some b)) (pv p) true).run Try.prog W = .ok (.tuple #[v, .bool (Tr.get L p).isSome]) W) ∧
    w.ownsRow 0 3 1 v ((Tr.get L p).getD []).length (I64 ((Tr.get L p).getD [])) ∧ ∀ g, v.ownBlock = some g → F g := by
  obtain ⟨es, clock, h⟩ := h
  obtain ⟨kl, hkl⟩ := pv_key hp
  have look := fun (W : World) (hW : W.heap[b]? = w.heap[b]?) => Maps.fit_look true (Maps.Keyed.of_law lawP) Try.underlying29 (zeroR W) (hW.trans h.block) h.fit hkl
  rcases h.find hp with ⟨hn, hg⟩ | ⟨j, e, xs, he, hk, hL, hg⟩
  · refine ⟨.slice none 0 0, fun W hW => ?_, by rw [hg]; exact World.ownsRow_nil _ _ _ _, fun g hg => by simp [Value.ownBlock] at hg⟩
    rcases look W hW with ⟨hr, _⟩ | ⟨e0, y, hm, hk, hr, _⟩
    · rw [hg]; exact hr
    · exact absurd hk (hn e0 hm)
  · obtain ⟨_, _, h3, h4⟩ := h.each j e _ he hL
    refine ⟨e.val, fun W hW => ?_, by rw [hg]; exact h3, h4⟩
    rcases look W hW with ⟨hr, hn, _⟩ | ⟨e0, y, hm, hk', hr, _⟩
    · exact absurd hk (hn e (List.mem_of_getElem? he))
    · obtain ⟨i, hi⟩ := List.getElem?_of_mem hm
      obtain ⟨_, rfl⟩ := h.same he hi (hk.trans hk'.symm)
      rw [hg]; exact hr
/-- the row with an entry at p, empty if there was none -/
def ent (L : Tr.Row) (p : Tr.Pf) : Tr.Row := if (Tr.get L p).isSome then L else L ++ [(p, [])]
theorem put_ent {L : Tr.Row} (ha : Tr.Apart L) {p : Tr.Pf} {j : Nat} {xs : List Int} (hj : (ent L p)[j]? = some (p, xs)) (n : Int) : Tr.put L p n = (ent L p).set j (p, xs ++ [n]) ∧ (Tr.get L p).getD [] = xs := by
  unfold ent at hj ⊢
  cases hg : Tr.get L p with
  | some ys =>
    simp only [hg, Option.isSome_some, if_true] at hj ⊢
    have := Tr.get_at ha hj
    rw [hg] at this
    cases this
    exact ⟨Tr.put_old ha n hj, rfl⟩
  | none =>
    simp only [hg, Option.isSome_none, Bool.false_eq_true, if_false] at hj ⊢
    have hne := Tr.get_none.1 hg
    have hjl : j = L.length ∧ xs = [] := by
      rcases Nat.lt_trichotomy j L.length with h | h | h
      · rw [List.getElem?_append_left h] at hj
        exact absurd rfl (hne _ (List.mem_of_getElem? hj))
      · subst h; simp at hj; exact ⟨rfl, by first | exact hj | exact hj.symm⟩
      · rw [List.getElem?_eq_none (by simp; omega)] at hj; cases hj
    obtain ⟨rfl, rfl⟩ := hjl
    rw [Tr.put_new n hne]
    simp
/-- what an entry taken leaves: the map with it, and which it is -/
def ME (w : World) (F : Nat → Prop) (b : Nat) (L : Tr.Row) (p : Tr.Pf) (v0 : Value) (st : Nat) (xs : List Int) : Prop :=
  ∃ es clock, MI w F b L es clock ∧ ∃ (j : Nat) (e0 : MapEntry), es.toList[j]? = some e0 ∧ L[j]? = some (p, xs) ∧ e0.val = v0 ∧ e0.born = st
theorem ME.kept {v0 : Value} {st : Nat} {xs : List Int} (h : ME w F b L p v0 st xs) (hk : ∀ i, F i → w'.heap[i]? = w.heap[i]?) (hF : ∀ i, F i → F' i) : ME w' F' b L p v0 st xs := by
  obtain ⟨es, clock, h1, h2⟩ := h
  exact ⟨es, clock, h1.kept hk hF, h2⟩
theorem ME.own {v0 : Value} {st : Nat} {xs : List Int} (h : ME w F b L p v0 st xs) : w.ownsRow 0 3 1 v0 xs.length (I64 xs) ∧ ∀ g, v0.ownBlock = some g → F g := by
  obtain ⟨es, clock, h1, j, e0, he, hL, rfl, rfl⟩ := h
  obtain ⟨_, _, h3, h4⟩ := h1.each j e0 _ he hL
  exact ⟨h3, h4⟩
theorem MR.entry (h : MR w F b L) (hp : wfP p) (hroom : L.length < maxLen) : ∃ (v0 : Value) (st : Nat) (w1 : World) (xs : List Int), (Instr.mapEntry 29 (.map (some b)) (pv p)).run Try.prog w = .ok (.tuple #[v0, goInt st]) w1 ∧
    ME w1 F b (ent L p) p v0 st xs ∧ w.grownBy w1 (some b) ∧ w1.heap.size = w.heap.size := by
  obtain ⟨es, clock, h⟩ := h
  obtain ⟨kl, hkl⟩ := pv_key hp
  have hb := h.block
  have hbl : b < w.heap.size := (Array.getElem?_eq_some_iff.1 hb).1
  have K := lawP
  have hgrow : ∀ o, w.grownBy (ChangeMaps.setBlock w b o) (some b) := fun o => ⟨rfl, rfl, rfl, by simp [ChangeMaps.setBlock], fun i _ hi => heap_setBlock_other hb o (fun e1 => hi (by rw [e1]))⟩
  rcases K.find w hkl es.toList h.fit.keys with ⟨h1, h2⟩ | ⟨j, e0, h1, h2, h3⟩
  · rcases h.find hp with ⟨_, hg⟩ | ⟨j, e, xs, he, hk, _⟩
    · refine ⟨.slice none 0 0, clock, ChangeMaps.setBlock w b (.map (es.push ⟨pv p, .slice none 0 0, clock⟩) (clock + 1)), [], ?_, ?_, hgrow _, by simp [ChangeMaps.setBlock]⟩
      · simp [Instr.mapEntry, run_underlying Try.underlying29, MapKept.run_getObj_map hb, K.check w false hkl, h1, MapKept.run_setObj_map _ hb, Result.andThen, ChangeMaps.setBlock]
      · have hent : ent L p = L ++ [(p, [])] := by unfold ent; rw [hg]; rfl
        rw [hent]
        refine ⟨_, _, ⟨h.own, heap_setBlock_same hb _, ⟨by have := h.size; simp; omega, stamped_push h.fit.stamped h2, ?_⟩, by simp [h.size], ?_, ?_⟩, L.length, ⟨pv p, .slice none 0 0, clock⟩, by simp [← h.size], by simp, rfl, rfl⟩
        · intro x hx
          simp only [Array.toList_push, List.mem_append, List.mem_singleton] at hx
          rcases hx with hx | rfl
          · exact h.fit.reads x hx
          · exact ⟨_, WideElems.rd_mk hkl rfl⟩
        · intro j e x he hx
          rw [Array.toList_push] at he
          rcases Nat.lt_or_ge j L.length with hj | hj
          · rw [List.getElem?_append_left (by simpa [h.size] using hj)] at he
            rw [List.getElem?_append_left hj] at hx
            obtain ⟨a1, a2, a3, a4⟩ := h.each j e x he hx
            refine ⟨a1, a2, own_at a3 (fun g hg => ?_), a4⟩
            refine heap_setBlock_other hb _ (fun e1 => ?_)
            subst e1
            rcases a3.2 with ⟨hv, _⟩ | ⟨g', cap, cur, hv, _, hh, _⟩
            · rw [hv] at hg; simp [Value.ownBlock] at hg
            · rw [hv] at hg; simp [Value.ownBlock] at hg; subst hg; rw [hb] at hh; cases hh
          · rw [List.getElem?_append_right (by simpa [h.size] using hj)] at he
            rw [List.getElem?_append_right hj] at hx
            have e0 : j - L.length = 0 := by
              have := (List.getElem?_eq_some_iff.1 hx).1
              simpa using this
            have e1 : es.toList.length = L.length := by simp [h.size]
            rw [e1, e0] at he
            rw [e0] at hx
            simp at he hx
            subst he; subst hx
            exact ⟨rfl, hp, World.ownsRow_nil _ _ _ _, fun g hg => by simp [Value.ownBlock] at hg⟩
        · intro i j e f hij he hf
          rw [Array.toList_push] at he hf
          rcases Nat.lt_or_ge i es.toList.length with hi | hi
          · rw [List.getElem?_append_left hi] at he
            rcases Nat.lt_or_ge j es.toList.length with hj | hj
            · rw [List.getElem?_append_left hj] at hf
              exact h.apart i j e f hij he hf
            · rw [List.getElem?_append_right hj] at hf
              have e0 : j - es.toList.length = 0 := by
                have := (List.getElem?_eq_some_iff.1 hf).1
                simpa using this
              rw [e0] at hf
              simp at hf
              subst hf
              cases e.val.ownBlock <;> simp [Value.ownBlock]
          · rw [List.getElem?_append_right hi] at he
            have e0 : i - es.toList.length = 0 := by
              have := (List.getElem?_eq_some_iff.1 he).1
              simpa using this
            rw [e0] at he
            simp at he
            subst he
            exact .inl rfl
    · exact absurd hk (h2 e (List.mem_of_getElem? he))
  · rcases h.find hp with ⟨hn, _⟩ | ⟨i, e, xs, he, hk', hL, hg⟩
    · exact absurd h3 (hn e0 (List.mem_of_getElem? h2))
    · obtain ⟨rfl, rfl⟩ := h.same he h2 (hk'.trans h3.symm)
      have hj : es[i]? = some e := by simpa using h2
      have hsame : es.modify i (fun e => { e with key := pv p }) = es := by
        apply Array.ext'
        rw [Array.toList_modify, ChangeMaps.modify_eq_set _ _ _ _ h2]
        have : ({ e with key := pv p } : MapEntry) = e := by rw [← h3]
        rw [this]
        exact WideElems.set_self _ _ _ h2
      have hself : ChangeMaps.setBlock w b (.map es clock) = ChangeMaps.setBlock w b (.map es clock) := rfl
      refine ⟨e.val, e.born, ChangeMaps.setBlock w b (.map es clock), xs, ?_, ?_, hgrow _, by simp [ChangeMaps.setBlock]⟩
      · simp [Instr.mapEntry, run_underlying Try.underlying29, MapKept.run_getObj_map hb, K.check w false hkl, h1, hj, h3, K.stays w hkl, hsame, MapKept.run_setObj_map _ hb, Result.andThen, ChangeMaps.setBlock]
      · have hent : ent L p = L := by unfold ent; rw [hg]; rfl
        rw [hent]
        refine ⟨es, clock, h.kept (fun k _ => ?_) (fun _ hk => hk), i, e, he, hL, rfl, rfl⟩
        by_cases hkb : k = b
        · subst hkb; rw [heap_setBlock_same hb, hb]
        · exact heap_setBlock_other hb _ hkb
/-- .. and the store at it, behind an append to its row -/
theorem ME.store {v0 v' : Value} {st : Nat} {xs : List Int} {n : Int} (h : ME w F b L p v0 st xs) (hg : w.grownBy w' v0.ownBlock) (hv : w'.ownsRow 0 3 1 v' (xs.length + 1) (I64 (xs ++ [n])))
    (hloc : v'.ownBlock = v0.ownBlock ∨ ∃ g, v'.ownBlock = some g ∧ w.heap.size ≤ g) (hlt : ∀ i, F i → i < w.heap.size) (hF : ∀ i, F i → F' i) (hF' : ∀ i, w.heap.size ≤ i → i < w'.heap.size → F' i) :
    ∃ w2, (Instr.entryStore 29 (.map (some b)) (goInt st) v').run Try.prog w' = .ok () w2 ∧ (∃ j : Nat, L[j]? = some (p, xs) ∧ MR w2 F' b (L.set j (p, xs ++ [n]))) ∧ w'.grownBy w2 (some b) ∧ w2.heap.size = w'.heap.size := by
  obtain ⟨es, clock, h, j, e0, he, hL, rfl, rfl⟩ := h
  have hb := h.block
  have notb : ∀ {u : Value} {m : Nat} {ys : List Value}, w.ownsRow 0 3 1 u m ys → u.ownBlock ≠ some b := fun {u m ys} ho e1 => by
    rcases ho.2 with ⟨hv, _⟩ | ⟨g', cap, cur, hv, _, hh, _⟩
    · rw [hv] at e1; simp [Value.ownBlock] at e1
    · rw [hv] at e1; simp [Value.ownBlock] at e1; subst e1; rw [hb] at hh; cases hh
  obtain ⟨k1, k2, k3, k4⟩ := h.each j e0 _ he hL
  have hblt : b < w.heap.size := (Array.getElem?_eq_some_iff.1 hb).1
  have hb' : w'.heap[b]? = some (.map es clock) := (hg.block b hblt (fun e1 => notb k3 e1.symm)).trans hb
  have hidx : es.findIdx? (fun e => ((e.born : Nat) : Int) == ((e0.born : Nat) : Int)) = some j := by
    rw [WideElems.findIdx_arr]
    exact WideElems.findIdx_born h.fit.stamped.2.1 he
  have hgrow : ∀ o, w'.grownBy (ChangeMaps.setBlock w' b o) (some b) := fun o => ⟨rfl, rfl, rfl, by simp [ChangeMaps.setBlock], fun i _ hi => heap_setBlock_other hb' o (fun e1 => hi (by rw [e1]))⟩
  have hlist : (es.modify j (fun e => { e with val := v' })).toList = es.toList.set j { e0 with val := v' } := by rw [Array.toList_modify, ChangeMaps.modify_eq_set _ _ _ _ he]
  have hjl : j < es.toList.length := (List.getElem?_eq_some_iff.1 he).1
  refine ⟨ChangeMaps.setBlock w' b (.map (es.modify j (fun e => { e with val := v' })) clock), ?_, ⟨j, hL, ?_⟩, hgrow _, by simp [ChangeMaps.setBlock]⟩
  · simp [Instr.entryStore, MapKept.run_getObj_map hb', asInt, asIntOf, goInt, hidx, MapKept.run_setObj_map _ hb', Result.andThen, ChangeMaps.setBlock]
  -- what another entry's row is behind all that
  have other : ∀ (i : Nat) e x, i ≠ j → es.toList[i]? = some e → L[i]? = some x → (ChangeMaps.setBlock w' b (.map (es.modify j (fun e => { e with val := v' })) clock)).ownsRow 0 3 1 e.val x.2.length (I64 x.2) := by
    intro i e x hij hi hx
    obtain ⟨a1, a2, a3, a4⟩ := h.each i e x hi hx
    refine own_at a3 (fun g hg' => ?_)
    have hne : g ≠ b := fun e1 => notb a3 (by rw [hg', e1])
    rw [heap_setBlock_other hb' _ hne]
    refine hg.block g (hlt g (a4 g hg')) (fun e1 => ?_)
    rcases h.apart i j e e0 hij hi he with h | h
    · rw [h] at hg'; cases hg'
    · exact h (hg'.trans e1)
  have notb' : v'.ownBlock ≠ some b := by
    rcases hloc with e1 | ⟨g, e1, e2⟩
    · rw [e1]; exact notb k3
    · rw [e1]; intro e3; cases e3; omega
  refine ⟨_, _, ⟨hF _ h.own, heap_setBlock_same hb' _, ⟨by simpa using h.fit.size, stamped_modify h.fit.stamped _ _ (fun _ _ => rfl) (fun _ _ _ => rfl), ?_⟩, by simp [h.size], ?_, ?_⟩⟩
  · intro x hx
    rw [hlist] at hx
    obtain ⟨i, hi, ex⟩ := List.getElem_of_mem hx
    rw [List.getElem_set] at ex
    split at ex
    · subst ex
      obtain ⟨y, hy⟩ := h.fit.reads e0 (List.mem_of_getElem? he)
      exact ⟨_, WideElems.rd_mk (WideElems.rd_key hy) rfl⟩
    · exact ex ▸ h.fit.reads _ (List.getElem_mem _)
  · intro i e x hi hx
    rw [hlist, List.getElem?_set] at hi
    rw [List.getElem?_set] at hx
    by_cases hij : j = i
    · subst hij
      have hjL : j < L.length := by rw [← h.size]; simpa using hjl
      simp only [if_true, hjl, hjL] at hi hx
      cases hi; cases hx
      refine ⟨k1, k2, ?_, fun g hg' => ?_⟩
      · have : (xs ++ [n]).length = xs.length + 1 := by simp
        simp only [this]
        refine own_at hv (fun g hg' => heap_setBlock_other hb' _ (fun e1 => notb' (by rw [hg', e1])))
      · rcases hloc with e1 | ⟨g', e1, e2⟩
        · exact hF g (k4 g (e1 ▸ hg'))
        · obtain rfl : g = g' := by rw [e1] at hg'; cases hg'; rfl
          exact hF' g e2 (hv.lt g hg').2
    · simp only [hij, if_false] at hi hx
      obtain ⟨a1, a2, a3, a4⟩ := h.each i e x hi hx
      exact ⟨a1, a2, other i e x (fun e => hij e.symm) hi hx, fun g hg' => hF g (a4 g hg')⟩
  · intro i k e f hik hi hk
    rw [hlist, List.getElem?_set] at hi hk
    have newold : ∀ (i : Nat) e, i ≠ j → es.toList[i]? = some e → e.val.ownBlock = none ∨ e.val.ownBlock ≠ v'.ownBlock := by
      intro i e hij hi
      rcases hloc with e1 | ⟨g, e1, e2⟩
      · rw [e1]; exact h.apart i j e e0 hij hi he
      · obtain ⟨x, _, _, _, _, a4⟩ := h.at_ hi
        cases hv' : e.val.ownBlock with
        | none => exact .inl rfl
        | some g' => refine .inr (fun e3 => ?_); rw [e1] at e3; cases e3; have := hlt _ (a4 _ hv'); omega
    by_cases hij : j = i
    · subst hij
      simp only [hik, if_false] at hk
      simp only [if_true, hjl] at hi
      cases hi
      rcases newold k f (fun e => hik e.symm) hk with h | h
      · by_cases h0 : v'.ownBlock = none
        · exact .inl h0
        · exact .inr (by rw [h]; exact h0)
      · exact .inr (fun e => h e.symm)
    · simp only [hij, if_false] at hi
      by_cases hkj : j = k
      · subst hkj
        simp only [if_true, hjl] at hk
        cases hk
        exact newold i e (fun e => hij e.symm) hi
      · simp only [hkj, if_false] at hk
        exact h.apart i k e f hik hi hk
end
end Go.Proofs.Ytnnoigdedjbbmaa

