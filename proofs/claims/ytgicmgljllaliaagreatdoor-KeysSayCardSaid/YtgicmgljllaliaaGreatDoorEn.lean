/- GENERIC: 'm[k] op= v' at a key that is a struct: mapEntry, then entryStore, is what mapUpdate is. No program is imported. -/
import Derived.Test.YtgicmgljllaliaaGreatDoorKit
import Derived.Maps.OwnSet
import Derived.Maps.Keyed
import Derived.Maps.Own
import Derived.MapKept
import Derived.WideKeyEntry
namespace Go.Proofs.YtgicmgljllaliaaGreatDoor
open Go.RowKit Go.Maps Go.WideElems Go.ChangeMaps Go.MapKept
theorem setBlock_twice (w : World) (b : Nat) (o o' : Obj) : ChangeMaps.setBlock (ChangeMaps.setBlock w b o) b o' = ChangeMaps.setBlock w b o' := by
  simp [ChangeMaps.setBlock]
theorem map_entry {H : Type} {P : Program} {t k e : TypeId} {w : World} {R : Value → Option (DataW H × List MemPlace)} {b n : Nat} {D : DataW H} (h : w.ownsMap P k R b n D) (K : Keyed P k) (ht : P.underlying t = some (.map k e))
    {key : Value} {kl : Lit} (hkey : keyOf P k key = some kl) {z : Value} (hz : ∀ W, (zeroValue e).run P W = .ok z W)
    {c : Value} (hlk : (Instr.lookup t (.map (some b)) key false).run P w = .ok c w)
    {val : Value} {w' : World} (hup : (Instr.mapUpdate t (.map (some b)) key val).run P w = .ok () w') :
    ∃ v0 st w1, (Instr.mapEntry t (.map (some b)) key).run P w = .ok (.tuple #[v0, goInt st]) w1 ∧ w.grownBy w1 (some b) ∧ w1.heap.size = w.heap.size ∧ (Instr.lookup t (.map (some b)) key false).run P w1 = .ok c w1 ∧ (Instr.entryStore t (.map (some b)) (goInt st) val).run P w1 = .ok () w' := by
  obtain ⟨es, clock, hb, F, hs, rfl⟩ := h
  have hgrow : ∀ o, w.grownBy (ChangeMaps.setBlock w b o) (some b) := fun o => ⟨rfl, rfl, rfl, by simp [ChangeMaps.setBlock], fun i _ hi => heap_setBlock_other hb o (fun e1 => hi (by rw [e1]))⟩
  rcases K.find w hkey es.toList F.keys with ⟨h1, h2⟩ | ⟨j, e0, h1, h2, h3⟩
  · have hc : c = z := by
      simp [Instr.lookup, run_underlying ht, MapKept.run_getObj_map hb, K.check w _ hkey, h1, hz, Result.andThen] at hlk
      exact hlk.symm
    subst hc
    have hw' : w' = ChangeMaps.setBlock w b (.map (es.push ⟨key, val, clock⟩) (clock + 1)) := by
      simp [Instr.mapUpdate, run_underlying ht, MapKept.run_getObj_map hb, K.check w false hkey, h1, MapKept.run_setObj_map _ hb, Result.andThen] at hup
      rw [← hup]; simp [ChangeMaps.setBlock]
    subst hw'
    have hb1 : (ChangeMaps.setBlock w b (.map (es.push ⟨key, c, clock⟩) (clock + 1))).heap[b]? = some (.map (es.push ⟨key, c, clock⟩) (clock + 1)) := heap_setBlock_same hb _
    have hst : Stamped (es.push ⟨key, c, clock⟩) (clock + 1) := stamped_push F.stamped h2
    have hat : (es.push ⟨key, c, clock⟩).toList[es.size]? = some ⟨key, c, clock⟩ := by simp
    have hidx : (es.push ⟨key, c, clock⟩).findIdx? (fun e => ((e.born : Nat) : Int) == ((clock : Nat) : Int)) = some es.size := by
      rw [WideElems.findIdx_arr]
      exact WideElems.findIdx_born hst.2.1 hat
    refine ⟨c, clock, _, ?_, hgrow (.map (es.push ⟨key, c, clock⟩) (clock + 1)), by simp [ChangeMaps.setBlock], ?_, ?_⟩
    · simp [Instr.mapEntry, run_underlying ht, MapKept.run_getObj_map hb, K.check w false hkey, h1, hz, MapKept.run_setObj_map _ hb, Result.andThen, ChangeMaps.setBlock]
    · have hk2 : ∀ x ∈ (es.push ⟨key, c, clock⟩).toList, ∃ l, keyOf P k x.key = some l := fun x hx => by
        simp only [Array.toList_push, List.mem_append, List.mem_singleton] at hx
        rcases hx with hx | rfl
        · exact F.keys x hx
        · exact ⟨_, hkey⟩
      rcases K.find (ChangeMaps.setBlock w b (.map (es.push ⟨key, c, clock⟩) (clock + 1))) hkey (es.push ⟨key, c, clock⟩).toList hk2 with ⟨_, g2⟩ | ⟨j, e0, g1, g2, g3⟩
      · exact absurd rfl (g2 ⟨key, c, clock⟩ (by simp))
      · have he0 : e0 = ⟨key, c, clock⟩ := by
          have hm := List.mem_of_getElem? g2
          simp only [Array.toList_push, List.mem_append, List.mem_singleton] at hm
          rcases hm with hm | hm
          · exact absurd g3 (h2 e0 hm)
          · exact hm
        subst he0
        simp only [Array.toList_push] at g1
        simp [Instr.lookup, run_underlying ht, MapKept.run_getObj_map hb1, K.check _ _ hkey, g1, Result.andThen]
    · have hm : (es.push ⟨key, c, clock⟩).modify es.size (fun e => { e with val := val }) = es.push ⟨key, val, clock⟩ := by
        apply Array.ext'
        rw [Array.toList_modify, ChangeMaps.modify_eq_set _ _ _ _ hat, Array.toList_push, Array.toList_push]
        have : es.size = es.toList.length := by simp
        rw [this, List.set_append_right _ _ (Nat.le_refl _)]
        simp
      simp [Instr.entryStore, MapKept.run_getObj_map hb1, asInt, asIntOf, goInt, hidx, MapKept.run_setObj_map _ hb1, Result.andThen, hm]
      simp [ChangeMaps.setBlock]
  · have hj : es[j]? = some e0 := by simpa using h2
    have hsame : es.modify j (fun e => { e with key := key }) = es := by
      apply Array.ext'
      rw [Array.toList_modify, ChangeMaps.modify_eq_set _ _ _ _ h2]
      have : ({ e0 with key := key } : MapEntry) = e0 := by rw [← h3]
      rw [this]
      exact WideElems.set_self _ _ _ h2
    have hself : ChangeMaps.setBlock w b (.map es clock) = w := by
      have : w.heap.setIfInBounds b (.map es clock) = w.heap := by
        apply Array.ext'
        rw [Array.toList_setIfInBounds]
        exact WideElems.set_self _ _ _ (by simpa using hb)
      simp [ChangeMaps.setBlock, this]
    have hidx : es.findIdx? (fun e => ((e.born : Nat) : Int) == ((e0.born : Nat) : Int)) = some j := by
      rw [WideElems.findIdx_arr]
      exact WideElems.findIdx_born F.stamped.2.1 h2
    have hmm : es.modify j (fun e' => { e' with key := key, val := val }) = es.modify j (fun e => { e with val := val }) := by
      apply Array.ext'
      rw [Array.toList_modify, Array.toList_modify, ChangeMaps.modify_eq_set _ _ _ _ h2, ChangeMaps.modify_eq_set _ _ _ _ h2]
      rw [← h3]
    have hw' : w' = ChangeMaps.setBlock w b (.map (es.modify j (fun e => { e with val := val })) clock) := by
      rw [← hmm]
      simp [Instr.mapUpdate, run_underlying ht, MapKept.run_getObj_map hb, K.check w false hkey, h1, hj, h3, K.stays w hkey, MapKept.run_setObj_map _ hb, Result.andThen] at hup
      rw [← hup]; simp [ChangeMaps.setBlock]
    subst hw'
    refine ⟨e0.val, e0.born, w, ?_, ⟨rfl, rfl, rfl, Nat.le_refl _, fun _ _ _ => rfl⟩, rfl, hlk, ?_⟩
    · have hr : (Instr.mapEntry t (.map (some b)) key).run P w = .ok (.tuple #[e0.val, goInt e0.born]) (ChangeMaps.setBlock w b (.map es clock)) := by
        simp [Instr.mapEntry, run_underlying ht, MapKept.run_getObj_map hb, K.check w false hkey, h1, hj, h3, K.stays w hkey, hsame, MapKept.run_setObj_map _ hb, Result.andThen, ChangeMaps.setBlock]
      rw [hself] at hr
      exact hr
    · simp [Instr.entryStore, MapKept.run_getObj_map hb, asInt, asIntOf, goInt, hidx, MapKept.run_setObj_map _ hb, Result.andThen, ChangeMaps.setBlock]
end Go.Proofs.YtgicmgljllaliaaGreatDoor

