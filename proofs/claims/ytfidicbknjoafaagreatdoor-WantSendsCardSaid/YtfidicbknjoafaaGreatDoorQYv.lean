/- want. -/
import Derived.Test.YtfidicbknjoafaaGreatDoorQStrb
import Derived.Test.YtfidicbknjoafaaGreatDoorQTab
import Derived.Test.YtfidicbknjoafaaGreatDoorQCk
import Derived.Test.YtfidicbknjoafaaGreatDoorQYb
import Derived.Test.YtfidicbknjoafaaGreatDoorQShw
import Derived.Shelf.Spec.SlicesInsert
import Derived.Shelf.Spec.SlicesInsertGrow
import Derived.Deep.Upon
namespace Go.Proofs.YtfidicbknjoafaaGreatDoor
open Go.RowKit Go.Maps Go.Sort Go.Shelf Lx Sm Go.MapKept Go.ChangeMaps
open Go.WideElems (Fit)
theorem zeroRk (w:World):(zeroValue 52).run Tryz.prog w=.ok (.slice none 0 0) w:=by kernel_rfl
structure KI (w:World) (F:Nat→Prop) (b:Nat) (L:Tr.Row) (es:Array MapEntry) (clock:Nat):Prop where
 own:F b
 block:w.heap[b]?=some (.map es clock)
 fit:Fit Tryz.prog 57 R0 es clock
 size:es.size=L.length
 each:∀ (j:Nat) e x,es.toList[j]?=some e→L[j]?=some x→e.key=kv x.1∧UK x.1∧w.ownsRow 0 3 1 e.val x.2.length (I64 x.2)∧∀ g,e.val.ownBlock=some g→F g
 apart:∀ (i j:Nat) e f,i ≠ j→es.toList[i]?=some e→es.toList[j]?=some f→e.val.ownBlock=none∨e.val.ownBlock ≠ f.val.ownBlock
def KR (w:World) (F:Nat→Prop) (b:Nat) (L:Tr.Row):Prop:=∃ es clock,KI w F b L es clock
section
variable {w w':World} {F F':Nat→Prop} {b:Nat} {L:Tr.Row} {es:Array MapEntry} {clock:Nat} {p:Tr.Pf}
theorem KI.kept (h:KI w F b L es clock) (hk:∀ i,F i→w'.heap[i]?=w.heap[i]?) (hF:∀ i,F i→F' i):KI w' F' b L es clock :=
 ⟨hF _ h.own,(hk _ h.own).trans h.block,h.fit,h.size,fun j e x he hx=>by
  obtain ⟨h1,h2,h3,h4⟩:=h.each j e x he hx
  exact ⟨h1,h2,own_at h3 (fun g hg=>hk g (h4 g hg)),fun g hg=>hF g (h4 g hg)⟩,h.apart⟩
theorem KI.at_ (h:KI w F b L es clock) {j:Nat} {e:MapEntry} (he:es.toList[j]?=some e):∃ x,L[j]?=some x∧e.key=kv x.1∧UK x.1∧w.ownsRow 0 3 1 e.val x.2.length (I64 x.2)∧∀ g,e.val.ownBlock=some g→F g:=by
 have hj:j<L.length:=by
  have:=(List.getElem?_eq_some_iff.1 he).1
  rw [← h.size];simpa using this
 exact ⟨L[j],by simp [hj],h.each j e L[j] he (by simp [hj])⟩
theorem KI.back (h:KI w F b L es clock) {j:Nat} {x:Tr.Pf × List Int} (hx:L[j]?=some x):∃ e,es.toList[j]?=some e:=by
 have hj:=(List.getElem?_eq_some_iff.1 hx).1
 rw [← h.size] at hj
 exact ⟨es[j],by simp [hj]⟩
theorem KI.apartL (h:KI w F b L es clock):Tr.Apart L:=by
 have hn:=h.fit.stamped.2.2
 unfold Tr.Apart
 have e:es.toList.map (·.key)=(L.map (·.1)).map kv:=by
  apply List.ext_getElem?
  intro j
  rw [List.map_map,List.getElem?_map,List.getElem?_map]
  cases hl:L[j]? with
  | none =>
   have:es.toList[j]?=none:=by
    rw [List.getElem?_eq_none_iff] at hl ⊢
    rw [← h.size] at hl
    simpa using hl
   rw [this];rfl
  | some x =>
   obtain ⟨e,he⟩:=h.back hl
   rw [he]
   simp [(h.each j e x he hl).1]
 rw [e] at hn
 unfold List.Nodup at hn ⊢
 rw [List.pairwise_map] at hn
 exact hn.imp fun h e=>h (congrArg kv e)
theorem KI.find (h:KI w F b L es clock) (hp:UK p):((∀ x ∈ es.toList,x.key ≠ kv p)∧Tr.get L p=none)∨∃ (j:Nat) (e:MapEntry) (xs:List Int),es.toList[j]?=some e∧e.key=kv p∧L[j]?=some (p,xs)∧Tr.get L p=some xs:=by
 by_cases hx:∃ x ∈ es.toList,x.key=kv p
 ·obtain ⟨e,he,hk⟩:=hx
  obtain ⟨j,hj⟩:=List.getElem?_of_mem he
  obtain ⟨⟨q,xs⟩,hL,h1,_⟩:=h.at_ hj
  obtain rfl:q=p:=kv_inj (h1.symm.trans hk)
  exact .inr ⟨j,e,xs,hj,hk,hL,Tr.get_at h.apartL hL⟩
 ·refine .inl ⟨fun x hx' e=>hx ⟨x,hx',e⟩,Tr.get_none.2 fun x hx' e=>?_⟩
  obtain ⟨j,hj⟩:=List.getElem?_of_mem hx'
  obtain ⟨en,he⟩:=h.back hj
  exact hx ⟨en,List.mem_of_getElem? he,by rw [(h.each j en x he hj).1,e]⟩
theorem KI.same (h:KI w F b L es clock) {i j:Nat} {e f:MapEntry} (he:es.toList[i]?=some e) (hf:es.toList[j]?=some f) (hk:e.key=f.key):i=j∧e=f:=by
 have hnd:=h.fit.stamped.2.2
 have h1:(es.toList.map (·.key))[i]?=some f.key:=by rw [List.getElem?_map,he];simp [hk]
 have h2:(es.toList.map (·.key))[j]?=some f.key:=by rw [List.getElem?_map,hf];rfl
 obtain rfl:i=j:=(List.getElem?_inj (List.getElem?_eq_some_iff.1 h1).1 hnd).1 (h1.trans h2.symm)
 rw [he] at hf
 exact ⟨rfl,Option.some.inj hf⟩
theorem KR.look (h:KR w F b L) (hp:UK p):∃ v,(∀ W:World,W.heap[b]?=w.heap[b]?→(Instr.lookup 150 (.map (some b)) (kv p) true).run Tryz.prog W=.ok (.tuple #[v,.bool (Tr.get L p).isSome]) W) ∧
  w.ownsRow 0 3 1 v ((Tr.get L p).getD []).length (I64 ((Tr.get L p).getD []))∧∀ g,v.ownBlock=some g→F g:=by
 obtain ⟨es,clock,h⟩:=h
 obtain ⟨kl,hkl⟩:=kv_key' hp
 have look:=fun (W:World) (hW:W.heap[b]?=w.heap[b]?)=>Maps.fit_look true (Maps.Keyed.of_law lawK) Tryz.underlying150 (zeroRk W) (hW.trans h.block) h.fit hkl
 rcases h.find hp with ⟨hn,hg⟩ | ⟨j,e,xs,he,hk,hL,hg⟩
 ·refine ⟨.slice none 0 0,fun W hW=>?_,by rw [hg];exact World.ownsRow_nil _ _ _ _,fun g hg=>by simp [Value.ownBlock] at hg⟩
  rcases look W hW with ⟨hr,_⟩ | ⟨e0,y,hm,hk,hr,_⟩
  ·rw [hg];exact hr
  ·exact absurd hk (hn e0 hm)
 ·obtain ⟨_,_,h3,h4⟩:=h.each j e _ he hL
  refine ⟨e.val,fun W hW=>?_,by rw [hg];exact h3,h4⟩
  rcases look W hW with ⟨hr,hn,_⟩ | ⟨e0,y,hm,hk',hr,_⟩
  ·exact absurd hk (hn e (List.mem_of_getElem? he))
  ·obtain ⟨i,hi⟩:=List.getElem?_of_mem hm
   obtain ⟨_,rfl⟩:=h.same he hi (hk.trans hk'.symm)
   rw [hg];exact hr
def LK (es:Array MapEntry) (L:Tr.Row) (p:Tr.Pf) (v:Value) (ys:List Int):Prop :=
 (v=.slice none 0 0∧ys=[]∧Tr.get L p=none)∨∃ (j:Nat) (e:MapEntry),es.toList[j]?=some e∧e.key=kv p∧L[j]?=some (p,ys)∧v=e.val∧Tr.get L p=some ys
theorem KI.look (h:KI w F b L es clock) (hp:UK p):∃ v ys,LK es L p v ys∧ys=(Tr.get L p).getD []∧(∀ W:World,W.heap[b]?=w.heap[b]?→(Instr.lookup 150 (.map (some b)) (kv p) false).run Tryz.prog W=.ok v W) ∧
  w.ownsRow 0 3 1 v ys.length (I64 ys)∧∀ g,v.ownBlock=some g→F g:=by
 obtain ⟨kl,hkl⟩:=kv_key' hp
 have look:=fun (W:World) (hW:W.heap[b]?=w.heap[b]?)=>Maps.fit_look false (Maps.Keyed.of_law lawK) Tryz.underlying150 (zeroRk W) (hW.trans h.block) h.fit hkl
 rcases h.find hp with ⟨hn,hg⟩ | ⟨j,e,xs,he,hk,hL,hg⟩
 ·refine ⟨.slice none 0 0,[],.inl ⟨rfl,rfl,hg⟩,by rw [hg];rfl,fun W hW=>?_,World.ownsRow_nil _ _ _ _,fun g hg=>by simp [Value.ownBlock] at hg⟩
  rcases look W hW with ⟨hr,_⟩ | ⟨e0,y,hm,hk,hr,_⟩
  ·exact hr
  ·exact absurd hk (hn e0 hm)
 ·obtain ⟨_,_,h3,h4⟩:=h.each j e _ he hL
  refine ⟨e.val,xs,.inr ⟨j,e,he,hk,hL,rfl,hg⟩,by rw [hg];rfl,fun W hW=>?_,h3,h4⟩
  rcases look W hW with ⟨hr,hn,_⟩ | ⟨e0,y,hm,hk',hr,_⟩
  ·exact absurd hk (hn e (List.mem_of_getElem? he))
  ·obtain ⟨i,hi⟩:=List.getElem?_of_mem hm
   obtain ⟨_,rfl⟩:=h.same he hi (hk.trans hk'.symm)
   exact hr
theorem get_app {L:Tr.Row} (p q:Tr.Pf) (ys:List Int) (h:Tr.get L p=none):Tr.get (L ++ [(p,ys)]) q=if p=q then some ys else Tr.get L q:=by
 induction L with
 | nil=>simp [Tr.get]
 | cons x r ih =>
  obtain ⟨s,zs⟩:=x
  simp only [Tr.get] at h
  split at h
  ·cases h
  ·rename_i hs
   simp only [List.cons_append,Tr.get]
   by_cases h2:s=q
   ·rw [if_pos h2,if_pos h2,if_neg (fun e=>hs (h2.trans e.symm))]
   ·rw [if_neg h2,if_neg h2,ih h]
theorem get_set {L:Tr.Row} (ha:Tr.Apart L) {p:Tr.Pf} {j:Nat} {xs:List Int} (hj:L[j]?=some (p,xs)) (q:Tr.Pf) (ys:List Int):Tr.get (L.set j (p,ys)) q=if p=q then some ys else Tr.get L q:=by
 induction L generalizing j with
 | nil=>simp at hj
 | cons x r ih =>
  obtain ⟨s,zs⟩:=x
  unfold Tr.Apart at ha
  simp only [List.map_cons,List.nodup_cons] at ha
  cases j with
  | zero =>
   simp only [List.getElem?_cons_zero,Option.some.injEq,Prod.mk.injEq] at hj
   obtain ⟨rfl,rfl⟩:=hj
   simp only [List.set_cons_zero,Tr.get]
   by_cases h2:s=q
   ·rw [if_pos h2,if_pos h2]
   ·rw [if_neg h2,if_neg h2,if_neg h2]
  | succ j =>
   simp only [List.getElem?_cons_succ] at hj
   have hne:s ≠ p:=fun e=>ha.1 (e ▸ List.mem_map.2 ⟨(p,xs),List.mem_of_getElem? hj,rfl⟩)
   simp only [List.set_cons_succ,Tr.get]
   by_cases h2:s=q
   ·rw [if_pos h2,if_pos h2,if_neg (fun e=>hne (h2.trans e.symm))]
   ·rw [if_neg h2,if_neg h2,ih ha.2 hj]
theorem KI.row_ne (h:KI w F b L es clock) {v:Value} {k n:Nat} {t:TypeId} {ys:List Value} {W:World} (hb:W.heap[b]?=w.heap[b]?) (ho:W.ownsRow 0 t k v n ys):v.ownBlock ≠ some b:=fun hg=>by
 rcases ho.2 with ⟨hv,_⟩ | ⟨g',cap,cur,hv,_,hh,_⟩
 ·rw [hv] at hg;simp [Value.ownBlock] at hg
 ·rw [hv] at hg;simp [Value.ownBlock] at hg;subst hg;rw [hb,h.block] at hh;cases hh
set_option maxHeartbeats 1000000 in
theorem KI.put (h:KI w F b L es clock) (hp:UK p) {W:World} {v v':Value} {ys0 ys:List Int} (hl:LK es L p v ys0) (hv:∀ g,v.ownBlock=some g→F g) (hvo:v.ownBlock ≠ some b) (hg:w.grownBy W v.ownBlock) (ho:W.ownsRow 0 3 1 v' ys.length (I64 ys))
  (hb':∀ g,v'.ownBlock=some g→v.ownBlock=some g∨w.heap.size≤g) (hroom:L.length<maxLen) :
  ∃ W2 L' es' clock',(Instr.mapUpdate 150 (.map (some b)) (kv p) v').run Tryz.prog W=.ok () W2∧W.grownBy W2 (some b)∧W2.heap.size=W.heap.size ∧
   KI W2 (fun i=>F i∨w.heap.size≤i) b L' es' clock'∧(∀ q,Tr.get L' q=if p=q then some ys else Tr.get L q)∧L'.length≤L.length+1:=by
 obtain ⟨kl,hkl⟩:=kv_key' hp
 have hbl:b<w.heap.size:=(Array.getElem?_eq_some_iff.1 h.block).1
 have hb:W.heap[b]?=some (.map es clock):=(hg.block b hbl (fun e=>hvo e.symm)).trans h.block
 have K:=lawK
 have hgrow:∀ o,W.grownBy (ChangeMaps.setBlock W b o) (some b):=fun o=>⟨rfl,rfl,rfl,by simp [ChangeMaps.setBlock],fun i _ hi=>heap_setBlock_other hb o (fun e1=>hi (by rw [e1]))⟩
 have hvb':v'.ownBlock ≠ some b:=fun e=>by
  rcases hb' b e with h1 | h1
  ·exact hvo h1
  ·omega
 -- the rows of other entries are as they were
 have hold:∀ o (j:Nat) e x,es.toList[j]?=some e→L[j]?=some x→(e.val.ownBlock=none∨e.val.ownBlock ≠ v.ownBlock)→(ChangeMaps.setBlock W b o).ownsRow 0 3 1 e.val x.2.length (I64 x.2):=fun o j e x he hx hne=>by
  obtain ⟨_,_,a3,_⟩:=h.each j e x he hx
  refine own_at a3 (fun g hgv=>?_)
  have hgb:g ≠ b:=fun e1=>(h.row_ne rfl a3) (by rw [hgv,e1])
  rw [heap_setBlock_other hb _ hgb]
  refine hg.block g (by
   rcases a3.2 with ⟨hv,_⟩ | ⟨g',cap,cur,hv,_,hh,_⟩
   ·rw [hv] at hgv;simp [Value.ownBlock] at hgv
   ·rw [hv] at hgv;simp [Value.ownBlock] at hgv;subst hgv;exact (Array.getElem?_eq_some_iff.1 hh).1) (fun e1=>?_)
  rcases hne with h1 | h1
  ·rw [h1] at hgv;cases hgv
  ·exact h1 (by rw [hgv,e1])
 have hmine:∀ o,(ChangeMaps.setBlock W b o).ownsRow 0 3 1 v' ys.length (I64 ys):=fun o=>own_at ho (fun g hgv=>heap_setBlock_other hb _ (fun e1=>hvb' (by rw [hgv,e1])))
 have hvF:∀ g,v'.ownBlock=some g→F g∨w.heap.size≤g:=fun g hgv=>(hb' g hgv).imp (fun h1=>hv g h1) id
 have hfar:∀ (j:Nat) e x,es.toList[j]?=some e→L[j]?=some x→(e.val.ownBlock=none∨e.val.ownBlock ≠ v.ownBlock)→e.val.ownBlock=none∨e.val.ownBlock ≠ v'.ownBlock:=fun j e x he hx hne=>by
  obtain ⟨_,_,a3,a4⟩:=h.each j e x he hx
  cases hbk:e.val.ownBlock with
  | none=>exact .inl rfl
  | some g =>
   right
   intro e1
   rcases hb' g e1.symm with h1 | h1
   ·rcases hne with h2 | h2
    ·rw [hbk] at h2;cases h2
    ·exact h2 (by rw [hbk,h1])
   ·rcases a3.2 with ⟨hv,_⟩ | ⟨g',cap,cur,hv,_,hh,_⟩
    ·rw [hv] at hbk;simp [Value.ownBlock] at hbk
    ·rw [hv] at hbk;simp [Value.ownBlock] at hbk;subst hbk
     have:=(Array.getElem?_eq_some_iff.1 hh).1
     omega
 rcases hl with ⟨rfl,rfl,hg0⟩ | ⟨j,e,he,hk,hL,rfl,hg0⟩
 ·have hnk:∀ x ∈ es.toList,x.key ≠ kv p:=by
   rcases h.find hp with ⟨hn,_⟩ | ⟨j,e,xs,_,_,_,hg1⟩
   ·exact hn
   ·rw [hg0] at hg1;cases hg1
  have hnone:∀ (j:Nat) e x,es.toList[j]?=some e→L[j]?=some x→(e.val.ownBlock=none∨e.val.ownBlock ≠ (Value.slice none 0 0).ownBlock):=fun j e x _ _=>by cases e.val.ownBlock <;> simp [Value.ownBlock]
  rcases K.find W hkl es.toList h.fit.keys with ⟨h1,h2⟩ | ⟨j,e0,h1,h2,h3⟩
  ·refine ⟨ChangeMaps.setBlock W b (.map (es.push ⟨kv p,v',clock⟩) (clock+1)),L ++ [(p,ys)],_,_,?_,hgrow _,by simp [ChangeMaps.setBlock],⟨.inl h.own,heap_setBlock_same hb _,⟨by have:=h.size;simp;omega,stamped_push h.fit.stamped h2,?_⟩,by simp [h.size],?_,?_⟩,fun q=>get_app p q ys hg0,by simp⟩
   ·simp [Instr.mapUpdate,run_underlying Tryz.underlying150,MapKept.run_getObj_map hb,K.check W false hkl,h1,MapKept.run_setObj_map _ hb,Result.andThen,ChangeMaps.setBlock]
   ·intro x hx
    simp only [Array.toList_push,List.mem_append,List.mem_singleton] at hx
    rcases hx with hx | rfl
    ·exact h.fit.reads x hx
    ·exact ⟨_,WideElems.rd_mk hkl rfl⟩
   ·intro j e x he hx
    rw [Array.toList_push] at he
    rcases Nat.lt_or_ge j L.length with hj | hj
    ·rw [List.getElem?_append_left (by simpa [h.size] using hj)] at he
     rw [List.getElem?_append_left hj] at hx
     obtain ⟨a1,a2,_,a4⟩:=h.each j e x he hx
     exact ⟨a1,a2,hold _ j e x he hx (hnone j e x he hx),fun g hg=>.inl (a4 g hg)⟩
    ·rw [List.getElem?_append_right (by simpa [h.size] using hj)] at he
     rw [List.getElem?_append_right hj] at hx
     have e0:j - L.length=0:=by
      have:=(List.getElem?_eq_some_iff.1 hx).1
      simpa using this
     have e1:es.toList.length=L.length:=by simp [h.size]
     rw [e1,e0] at he
     rw [e0] at hx
     simp at he hx
     subst he;subst hx
     exact ⟨rfl,hp,hmine _,hvF⟩
   ·intro i j e f hij he hf
    rw [Array.toList_push] at he hf
    have elen:es.toList.length=L.length:=by simp [h.size]
    rcases Nat.lt_or_ge i es.toList.length with hi | hi
    ·rw [List.getElem?_append_left hi] at he
     obtain ⟨x,hx,_⟩:=h.at_ he
     rcases Nat.lt_or_ge j es.toList.length with hj | hj
     ·rw [List.getElem?_append_left hj] at hf
      exact h.apart i j e f hij he hf
     ·rw [List.getElem?_append_right hj] at hf
      have e0:j - es.toList.length=0:=by
       have:=(List.getElem?_eq_some_iff.1 hf).1
       simpa using this
      rw [e0] at hf
      simp at hf
      subst hf
      exact hfar i e x he hx (hnone i e x he hx)
    ·rw [List.getElem?_append_right hi] at he
     have e0:i - es.toList.length=0:=by
      have:=(List.getElem?_eq_some_iff.1 he).1
      simpa using this
     rw [e0] at he
     simp at he
     subst he
     have hj:j<es.toList.length:=by
      have h1:=(List.getElem?_eq_some_iff.1 hf).1
      simp only [List.length_append,List.length_cons,List.length_nil] at h1
      omega
     rw [List.getElem?_append_left hj] at hf
     obtain ⟨x,hx,_⟩:=h.at_ hf
     rcases hfar j f x hf hx (hnone j f x hf hx) with h5 | h5
     ·by_cases h0:v'.ownBlock=none
      ·exact .inl h0
      ·exact .inr (by rw [h5];exact h0)
     ·exact .inr (fun e1=>h5 e1.symm)
  ·exact absurd h3 (hnk e0 (List.mem_of_getElem? h2))
 ·rcases K.find W hkl es.toList h.fit.keys with ⟨h1,h2⟩ | ⟨i0,e0,h1,h2,h3⟩
  ·exact absurd hk (h2 e (List.mem_of_getElem? he))
  ·obtain ⟨rfl,rfl⟩:=h.same he h2 (hk.trans h3.symm)
   have hj:es[j]?=some e:=by simpa using he
   obtain ⟨k1,k2,k3,k4⟩:=h.each j e _ he hL
   have hjl:j<es.toList.length:=(List.getElem?_eq_some_iff.1 he).1
   have hmod:es.modify j (fun e=>{ e with key:=kv p,val:=v' })=es.modify j (fun e=>{ e with val:=v' }):=by
    apply Array.ext'
    rw [Array.toList_modify,Array.toList_modify,ChangeMaps.modify_eq_set _ _ _ _ he,ChangeMaps.modify_eq_set _ _ _ _ he]
    have:({ e with key:=kv p,val:=v' }:MapEntry)={ e with val:=v' }:=by rw [← hk]
    rw [this]
   have hlist:(es.modify j (fun e=>{ e with val:=v' })).toList=es.toList.set j { e with val:=v' }:=by rw [Array.toList_modify,ChangeMaps.modify_eq_set _ _ _ _ he]
   have hap:∀ (i:Nat) f,i ≠ j→es.toList[i]?=some f→f.val.ownBlock=none∨f.val.ownBlock ≠ e.val.ownBlock:=fun i f hij hf=>h.apart i j f e hij hf he
   refine ⟨ChangeMaps.setBlock W b (.map (es.modify j (fun e=>{ e with val:=v' })) clock),L.set j (p,ys),_,_,?_,hgrow _,by simp [ChangeMaps.setBlock],⟨.inl h.own,heap_setBlock_same hb _,⟨by simpa using h.fit.size,stamped_modify h.fit.stamped _ _ (fun _ _=>rfl) (fun _ _ _=>rfl),?_⟩,by simp [h.size],?_,?_⟩,fun q=>get_set h.apartL hL q ys,by simp⟩
   ·rw [← hmod]
    simp [Instr.mapUpdate,run_underlying Tryz.underlying150,MapKept.run_getObj_map hb,K.check W false hkl,h1,hj,h3,K.stays W hkl,MapKept.run_setObj_map _ hb,Result.andThen,ChangeMaps.setBlock]
   ·intro x hx
    rw [hlist] at hx
    obtain ⟨i,hi,ex⟩:=List.getElem_of_mem hx
    rw [List.getElem_set] at ex
    split at ex
    ·subst ex
     obtain ⟨y,hy⟩:=h.fit.reads e (List.mem_of_getElem? he)
     exact ⟨_,WideElems.rd_mk (WideElems.rd_key hy) rfl⟩
    ·exact ex ▸ h.fit.reads _ (List.getElem_mem _)
   ·intro i f x hi hx
    rw [hlist,List.getElem?_set] at hi
    rw [List.getElem?_set] at hx
    by_cases hij:j=i
    ·subst hij
     have hjL:j<L.length:=by rw [← h.size];simpa using hjl
     simp only [if_true,hjl,hjL] at hi hx
     cases hi;cases hx
     exact ⟨k1,k2,hmine _,hvF⟩
    ·simp only [hij,if_false] at hi hx
     obtain ⟨a1,a2,_,a4⟩:=h.each i f x hi hx
     exact ⟨a1,a2,hold _ i f x hi hx (hap i f (fun e=>hij e.symm) hi),fun g hg'=>.inl (a4 g hg')⟩
   ·intro i k f f2 hik hi hkk
    rw [hlist,List.getElem?_set] at hi hkk
    by_cases hij:j=i
    ·subst hij
     simp only [hik,if_false] at hkk
     simp only [if_true,hjl] at hi
     cases hi
     obtain ⟨x,hx,_⟩:=h.at_ hkk
     rcases hfar k f2 x hkk hx (hap k f2 (fun e=>hik e.symm) hkk) with h5 | h5
     ·by_cases h0:v'.ownBlock=none
      ·exact .inl h0
      ·exact .inr (by rw [h5];exact h0)
     ·exact .inr (fun e=>h5 e.symm)
    ·simp only [hij,if_false] at hi
     by_cases hkj:j=k
     ·subst hkj
      simp only [if_true,hjl] at hkk
      cases hkk
      obtain ⟨x,hx,_⟩:=h.at_ hi
      exact hfar i f x hi hx (hap i f (fun e=>hij e.symm) hi)
     ·simp only [hkj,if_false] at hkk
      exact h.apart i k f f2 hik hi hkk
end
end Go.Proofs.YtfidicbknjoafaaGreatDoor
namespace Go.Proofs.YtfidicbknjoafaaGreatDoor
open Go.RowKit Lx Sm Go.Maps Go.Lib Go.Shelf
def sets (cs:Array Value):Nat→List Value→Array Value
 | _,[]=>cs
 | o,v :: r=>sets (cs.setIfInBounds o v) (o+1) r
theorem sets_size:∀ (vs:List Value) (cs:Array Value) (o:Nat),(sets cs o vs).size=cs.size
 | [],_,_=>rfl
 | v :: r,cs,o=>by unfold sets;rw [sets_size r];simp
theorem sets_at:∀ (vs:List Value) (cs:Array Value) (o i:Nat),o+vs.length≤cs.size→(sets cs o vs)[i]?=if o≤i∧i<o+vs.length then vs[i - o]? else cs[i]?
 | [],cs,o,i,_=>by unfold sets;rw [if_neg (by simp)]
 | v :: r,cs,o,i,h=>by
  simp only [List.length_cons] at h
  unfold sets
  rw [sets_at r _ _ _ (by simp;omega)]
  simp only [List.length_cons]
  by_cases h1:o+1≤i∧i<o+1+r.length
  ·rw [if_pos h1,if_pos (by omega)]
   obtain ⟨j,hj⟩:∃ j,i - o=j+1:=⟨i - o - 1,by omega⟩
   rw [hj,List.getElem?_cons_succ,show i - (o+1)=j by omega]
  ·rw [if_neg h1]
   by_cases h2:i=o
   ·subst h2
    rw [if_pos (by omega),Nat.sub_self,List.getElem?_cons_zero,Array.getElem?_setIfInBounds]
    simp only [if_true]
    rw [if_pos (by omega)]
   ·rw [if_neg (by omega),Array.getElem?_setIfInBounds_ne (by omega)]
theorem Blk.sets_ {w:World} {g:Nat} {t:TypeId}:∀ (vs:List Value) {cs:Array Value} (o:Nat),Blk w g t cs→Blk (w.setCells g o vs) g t (sets cs o vs)
 | [],_,_,h=>h
 | v :: r,cs,o,h=>by
  unfold World.setCells sets
  exact Blk.sets_ r (o+1) (h.set_ o v)
theorem own_of {w:World} {g cap n:Nat} {cs:Array Value} {ys:List Int} (h:Blk w g 3 cs) (hs:cs.size=cap) (hc:cap≤maxLen) (hl:ys.length=n) (hn:n≤cap) (hv:∀ i,i<n→cs[i]?=some (.int .i64 (ys.getD i 0))):w.ownsRow 0 3 1 (.slice (some ⟨g,0,none⟩) n cap) n (I64 ys):=by
 refine ⟨by rw [I64_len,hl];omega,.inr ⟨g,cap,cs,rfl,Nat.zero_le _,h,hn,hc,by omega,?_⟩⟩
 apply List.ext_getElem?
 intro i
 rw [List.getElem?_take,Nat.mul_one]
 by_cases hi:i<n
 ·rw [if_pos hi]
  have:=hv i hi
  rw [Array.getElem?_toList,this]
  simp [I64,List.getD,List.getElem?_eq_getElem (show i<ys.length by omega)]
 ·rw [if_neg hi]
  symm
  rw [List.getElem?_eq_none_iff,I64_len]
  omega
theorem own_cells {w:World} {g n cap:Nat} {xs:List Int} (h:w.ownsRow 0 3 1 (.slice (some ⟨g,0,none⟩) n cap) n (I64 xs)):∃ cs,Blk w g 3 cs∧cs.size=cap∧n≤cap∧cap≤maxLen∧xs.length=n∧∀ i,i<n→cs[i]?=some (.int .i64 (xs.getD i 0)):=by
 have hl:=h.1
 rw [I64_len] at hl
 rcases h.2 with ⟨e,_⟩ | ⟨g',cap',cur,e,_,hb,h1,h2,h3,h4⟩
 ·cases e
 ·cases e
  refine ⟨cur,hb,by omega,h1,h2,by omega,fun i hi=>?_⟩
  have:=congrArg (fun l=>l[i]?) h4
  simp only [Nat.mul_one] at this
  rw [List.getElem?_take,if_pos hi,Array.getElem?_toList] at this
  rw [this]
  simp [I64,List.getD,List.getElem?_eq_getElem (show i<xs.length by omega)]
theorem insI_getD {xs:List Int} {i j:Nat} {q:Int} (hi:i≤xs.length):(xs.take i ++ q :: xs.drop i).getD j 0=if j<i then xs.getD j 0 else if j=i then q else xs.getD (j - 1) 0:=by
 simp only [List.getD_eq_getElem?_getD]
 by_cases h1:j<i
 ·rw [if_pos h1,List.getElem?_append_left (by simp;omega),List.getElem?_take,if_pos h1]
 ·rw [if_neg h1,List.getElem?_append_right (by simp;omega)]
  have e:(xs.take i).length=i:=by simp;omega
  rw [e]
  by_cases h2:j=i
  ·subst h2;rw [if_pos rfl];simp
  ·rw [if_neg h2]
   obtain ⟨m,hm⟩:∃ m,j - i=m+1:=⟨j - i - 1,by omega⟩
   rw [hm,List.getElem?_cons_succ,List.getElem?_drop,show i+m=j - 1 by omega]
structure InsOK (w w':World) (v v':Value) (ys:List Int):Prop where
 own:w'.ownsRow 0 3 1 v' ys.length (I64 ys)
 grown:w.grownBy w' v.ownBlock
 loc:∀ g,v'.ownBlock=some g→v.ownBlock=some g∨w.heap.size≤g
theorem tape_setCells {g:Nat}:∀ (vs:List Value) (o:Nat) (w:World),(w.setCells g o vs).tape=w.tape
 | [],_,_=>rfl
 | v :: r,o,w=>by unfold World.setCells;rw [tape_setCells r];rfl
theorem grown_sets {w:World} {g o:Nat} (vs:List Value):w.grownBy (w.setCells g o vs) (some g) :=
 ⟨World.os_setCells w g o vs,tape_setCells vs o w,World.output_setCells w g o vs,by simp,fun i hi hne=>World.heap_setCells_other w g o vs hi (fun e=>hne (by rw [e]))⟩
theorem ys_len {xs:List Int} {i n:Nat} {q:Int} (hl:xs.length=n) (hi:i≤n):(xs.take i ++ q :: xs.drop i).length=n+1:=by
 simp only [List.length_append,List.length_take,List.length_cons,List.length_drop]
 omega
theorem i64_drop {xs:List Int} {i m:Nat} (h:i+m<xs.length):((I64 xs).drop i)[m]?=some (.int .i64 (xs.getD (i+m) 0)):=by
 rw [List.getElem?_drop]
 simp [I64,List.getD,List.getElem?_eq_getElem h]
theorem sets_ins {cs:Array Value} {xs:List Int} {i n cap:Nat} {q:Int} (hl:xs.length=n) (hi:i≤n) (hs:cs.size=cap) (hc:n+1≤cap) (h0:∀ j,j<i→cs[j]?=some (.int .i64 (xs.getD j 0))) :
  (∀ j,j<n+1→(sets (sets cs (i+1) ((I64 xs).drop i)) i [.int .i64 q])[j]?=some (.int .i64 ((xs.take i ++ q :: xs.drop i).getD j 0))) ∧
  (∀ j,j<n+1→(sets (sets cs i [.int .i64 q]) (i+1) ((I64 xs).drop i))[j]?=some (.int .i64 ((xs.take i ++ q :: xs.drop i).getD j 0))):=by
 have hd:((I64 xs).drop i).length=n - i:=by rw [List.length_drop,I64_len,hl]
 have e1:∀ c:Array Value,c.size=cap→∀ j,(sets c (i+1) ((I64 xs).drop i))[j]?=if i+1≤j∧j<i+1+(n - i) then ((I64 xs).drop i)[j - (i+1)]? else c[j]?:=fun c hc2 j=>by
  rw [sets_at _ _ _ _ (by rw [hd];omega),hd]
 have e2:∀ c:Array Value,c.size=cap→∀ j,(sets c i [.int .i64 q])[j]?=if i≤j∧j<i+1 then some (.int .i64 q) else c[j]?:=fun c hc2 j=>by
  rw [sets_at _ _ _ _ (by simp;omega)]
  simp only [List.length_cons,List.length_nil,Nat.zero_add]
  by_cases h:i≤j∧j<i+1
  ·rw [if_pos h,if_pos h,show j - i=0 by omega];rfl
  ·rw [if_neg h,if_neg h]
 constructor
 ·intro j hj
  rw [e2 _ (by rw [sets_size];exact hs),e1 _ hs,insI_getD (by omega)]
  by_cases h1:j<i
  ·rw [if_neg (by omega),if_neg (by omega),if_pos h1,h0 j h1]
  ·by_cases h2:j=i
   ·rw [if_pos (by omega),if_neg h1,if_pos h2]
   ·rw [if_neg (by omega),if_pos (by omega),if_neg h1,if_neg h2,i64_drop (by omega),show i+(j - (i+1))=j - 1 by omega]
 ·intro j hj
  rw [e1 _ (by rw [sets_size];exact hs),e2 _ hs,insI_getD (by omega)]
  by_cases h1:j<i
  ·rw [if_neg (by omega),if_neg (by omega),if_pos h1,h0 j h1]
  ·by_cases h2:j=i
   ·rw [if_neg (by omega),if_pos (by omega),if_neg h1,if_pos h2]
   ·rw [if_pos (by omega),if_neg h1,if_neg h2,i64_drop (by omega),show i+(j - (i+1))=j - 1 by omega]
theorem zeros_size (k:Nat):(Builtin.zeroCells (Value.int .i64 0).cells k).size=k:=by simp [Builtin.zeroCells,Value.cells]
theorem InsOK.of {w W:World} {v:Value} {g cap n i:Nat} {xs:List Int} {q:Int} {cs:Array Value} (hb:Blk W g 3 cs) (hs:cs.size=cap) (hc:cap≤maxLen) (hl:xs.length=n) (hi:i≤n) (hn:n+1≤cap)
  (hv:∀ j,j<n+1→cs[j]?=some (.int .i64 ((xs.take i ++ q :: xs.drop i).getD j 0))) (hg:w.grownBy W v.ownBlock) (hloc:v.ownBlock=some g∨w.heap.size≤g):InsOK w W v (.slice (some ⟨g,0,none⟩) (n+1) cap) (xs.take i ++ q :: xs.drop i) :=
 ⟨by rw [ys_len hl hi];exact own_of hb hs hc (ys_len hl hi) hn hv,hg,fun g' e=>by
  have:g'=g:=by simp [Value.ownBlock] at e;exact e.symm
  subst this;exact hloc⟩
theorem grown_alloc_none (w:World) (o:Obj) (r:Option Nat):w.grownBy (w.drew.alloc o) r:=⟨rfl,rfl,rfl,by simp,fun k hk _=>by
 have:=(((Below.refl w.heap.size w).drew).alloc (Nat.le_refl _) o).block k hk
 exact this⟩
theorem arr_left {l:List Value} {z:Array Value} {j:Nat} (h:j<l.length):(l.toArray ++ z)[j]?=l[j]?:=by
 rw [Array.getElem?_append_left (by simpa using h)]
 simp
theorem shape_blk {w:World} {g:Nat} {t:TypeId} {cs:Array Value} (h:Blk w g t cs):w.shape? g=some (t,cs.size):=by
 unfold Blk at h
 simp [World.shape?,h]
theorem grown_drw0 (w:World) (r:Option Nat):w.grownBy w.drew r:=⟨rfl,rfl,rfl,Nat.le_refl _,fun _ _ _=>rfl⟩
theorem i64_at {xs:List Int} {j:Nat} (h:j<xs.length):(I64 xs)[j]?=some (.int .i64 (xs.getD j 0)):=by
 simp [I64,List.getD,List.getElem?_eq_getElem h]
set_option maxHeartbeats 2000000 in
theorem insert_any (v:Value) (n i:Nat) (xs:List Int) (q:Int) (gl:Nat) (w:World) (ho:w.ownsRow 0 3 1 v n (I64 xs)) (hi:i≤n) (hn:n≤1000) (hb:Blk w gl 3 #[.int .i64 q]) (hne:v.ownBlock ≠ some gl) :
  Calls Tryz.prog 191 #[v,.int .i64 (i:Int),.slice (some ⟨gl,0,none⟩) 1 1] w fun e w'=>∃ v',e=.returned v'∧InsOK w w' v v' (xs.take i ++ q :: xs.drop i):=by
 have hvs:∀ j u,([Value.int .i64 q]:List Value)[j]?=some u→w.cell? ⟨gl,0+j,none⟩=some u:=fun j u hj=>by
  cases j with
  | zero=>simp at hj;subst hj;exact hb.cell 0
  | succ j=>simp at hj
 have h1v:∀ u ∈ ([Value.int .i64 q]:List Value),u.oneCell'=true:=fun u hu=>by simp at hu;subst hu;rfl
 have hxl:xs.length=n:=by have:=ho.1;rw [I64_len] at this;omega
 rcases ho.2 with ⟨rfl,rfl⟩ | ⟨g,cap,cur,rfl,_,hh,h1,h2,h3,h4⟩
 ·obtain rfl:i=0:=by omega
  obtain rfl:xs=[]:=List.eq_nil_of_length_eq_zero hxl
  refine (Any2.slices_Insert_int_end_grow Tryz.insertI none 0 0 gl 0 1 1 [] [.int .i64 q] w (by omega) (by omega) (by omega) (by omega) rfl rfl (fun _=>rfl) (fun a h=>by cases h) hvs h1v).mono ?_
  rintro e w' ⟨rfl,rfl⟩
  have hge:=grownCap_ge w (0+1) 0 (Tryz.insertI_ren.t 3)
  have hle:=grownCap_le_maxLen w (0+1) 0 (Tryz.insertI_ren.t 3) (by unfold maxLen;omega)
  refine ⟨_,rfl,InsOK.of (n:=0) (i:=0) (xs:=[]) (Blk.new _ _ _) ?_ hle rfl (Nat.le_refl _) hge ?_ (grown_alloc_none _ _ _) (.inr (Nat.le_refl _))⟩
  ·simp only [Array.size_append,zeros_size,List.size_toArray,List.length_append,List.length_cons,List.length_nil]
   omega
  ·intro j hj
   obtain rfl:j=0:=by omega
   rw [arr_left (by simp)]
   rfl
 ·have hbl:Blk w g 3 cur:=hh
  obtain ⟨cs,hb1,hs1,_,_,_,hv1⟩:=own_cells ho
  obtain rfl:cs=cur:=by unfold Blk at hb1;rw [hh] at hb1;cases hb1;rfl
  have hgl:gl ≠ g:=fun e=>hne (by simp [Value.ownBlock,e])
  have hcs:∀ j u,(I64 xs)[j]?=some u→w.cell? ⟨g,0+j,none⟩=some u:=fun j u hj=>by
   have hjl:j<n:=by have:=(List.getElem?_eq_some_iff.1 hj).1;rw [I64_len] at this;omega
   rw [Nat.zero_add,hbl.cell,hv1 j hjl,← hj,i64_at (by omega)]
  have h1c:∀ u ∈ I64 xs,u.oneCell'=true:=I64_one xs
  have hcell:∀ j,j<cap→(w.cell? ⟨g,0+j,none⟩).isSome=true:=fun j hj=>by rw [Nat.zero_add,hbl.cell,Array.getElem?_eq_getElem (by omega)];rfl
  by_cases hin:i=n
  ·subst hin
   by_cases hroom:i+1≤cap
   ·refine (Any2.slices_Insert_int_end_room Tryz.insertI g 0 i cap gl 0 1 1 [.int .i64 q] w (by omega) (by omega) (by unfold maxLen at h2;omega) rfl (fun j hj=>by have:=hcell (i+j) (by omega);simpa [Nat.add_assoc] using this) (fun j hj=>hbl.frozen _) hvs h1v).mono ?_
    rintro e w' ⟨rfl,rfl⟩
    refine ⟨_,rfl,InsOK.of (hbl.sets_ [.int .i64 q] (0+i)) (by rw [sets_size];exact hs1) h2 hxl (Nat.le_refl _) hroom ?_ (grown_sets _) (.inl rfl)⟩
    intro j hj
    have:=(sets_ins (q:=q) hxl (Nat.le_refl i) hs1 hroom (fun j hj=>hv1 j hj)).2 j hj
    rw [show (I64 xs).drop i=[] from List.drop_eq_nil_of_le (by rw [I64_len];omega)] at this
    rw [Nat.zero_add]
    exact this
   ·refine (Any2.slices_Insert_int_end_grow Tryz.insertI (some ⟨g,0,none⟩) i cap gl 0 1 1 (I64 xs) [.int .i64 q] w (by omega) h1 (by omega) (by omega) (by rw [I64_len];exact hxl) rfl (fun h=>by cases h) (fun a e j u hj=>by cases e;rw [Go.WideShapes.add_plain];exact hcs j u hj) hvs h1v).mono ?_
    rintro e w' ⟨rfl,rfl⟩
    have hge:=grownCap_ge w (i+1) cap (Tryz.insertI_ren.t 3)
    have hle:=grownCap_le_maxLen w (i+1) cap (Tryz.insertI_ren.t 3) (by unfold maxLen;omega)
    refine ⟨_,rfl,InsOK.of (n:=i) (i:=i) (xs:=xs) (Blk.new _ _ _) ?_ hle hxl (Nat.le_refl _) hge ?_ (grown_alloc_none _ _ _) (.inr (Nat.le_refl _))⟩
    ·simp only [Array.size_append,zeros_size,List.size_toArray,List.length_append,I64_len,hxl,List.length_cons,List.length_nil]
     omega
    ·intro j hj
     rw [insI_getD (by omega),arr_left (by simp [I64_len,hxl];omega)]
     by_cases h1:j<i
     ·rw [if_pos h1,List.getElem?_append_left (by rw [I64_len];omega),i64_at (by omega)]
     ·obtain rfl:j=i:=by omega
      rw [if_neg h1,if_pos rfl,List.getElem?_append_right (by rw [I64_len];omega),I64_len,hxl,Nat.sub_self]
      rfl
  ·have hilt:i<n:=by omega
   by_cases hroom:n+1≤cap
   ·refine (Any2.slices_Insert_int_shift Tryz.insertI g 0 n cap i gl 0 1 1 (I64 xs) [.int .i64 q] w hilt (by omega) hroom (by unfold maxLen at h2;omega) hgl (by rw [I64_len];exact hxl) rfl hcs (fun j hj=>hcell j (by omega)) (fun j hj=>hbl.frozen _) hvs h1c h1v _ _ _ _ (shape_blk hb) (shape_blk hbl) (by omega) (hb.frozen _) (hb.frozen _)).mono ?_
    rintro e w' ⟨rfl,rfl⟩
    have hb2:Blk w.drew g 3 cs:=hbl
    refine ⟨_,rfl,InsOK.of ((hb2.sets_ ((I64 xs).drop i) (0+(i+1))).sets_ [.int .i64 q] (0+i)) (by rw [sets_size,sets_size];exact hs1) h2 hxl hi hroom ?_ (((grown_drw0 w _).trans (grown_sets _)).trans (grown_sets _)) (.inl rfl)⟩
    intro j hj
    rw [Nat.zero_add,Nat.zero_add]
    exact (sets_ins (q:=q) hxl hi hs1 hroom (fun j hj=>hv1 j (by omega))).1 j hj
   ·refine (Any2.slices_Insert_int_grow Tryz.insertI g 0 n cap i gl 0 1 1 (I64 xs) [.int .i64 q] w hilt (by omega) h1 (by omega) (by omega) (by rw [I64_len];exact hxl) rfl hcs hvs h1c h1v).mono ?_
    rintro e w' ⟨rfl,rfl⟩
    have hge:=grownCap_ge w (n+1) cap (Tryz.insertI_ren.t 3)
    have hle:=grownCap_le_maxLen w (n+1) cap (Tryz.insertI_ren.t 3) (by unfold maxLen;omega)
    generalize hA0:((I64 xs).take i).toArray ++ Builtin.zeroCells (Value.int .i64 0).cells (n+1 - i) ++ Builtin.zeroCells (Value.int .i64 0).cells (grownCap w (n+1) cap (Tryz.insertI_ren.t 3) - (n+1))=A0
    have hA0s:A0.size=grownCap w (n+1) cap (Tryz.insertI_ren.t 3):=by
     rw [← hA0]
     simp only [Array.size_append,zeros_size,List.size_toArray,List.length_take,I64_len,hxl]
     omega
    have hA0v:∀ j,j<i→A0[j]?=some (.int .i64 (xs.getD j 0)):=fun j hj=>by
     rw [← hA0,Array.append_assoc,arr_left (by rw [List.length_take,I64_len];omega),List.getElem?_take,if_pos hj,i64_at (by omega)]
    have hbn:Blk (w.alloc (.cells A0 (Tryz.insertI_ren.t 3))).drew w.heap.size 3 A0:=Blk.new w _ A0
    have hbm:Blk (((w.alloc (.cells A0 (Tryz.insertI_ren.t 3))).drew.setCells w.heap.size i [.int .i64 q]).drew) w.heap.size 3 (sets A0 i [.int .i64 q]):=hbn.sets_ [.int .i64 q] i
    have hgr:w.grownBy ((((w.alloc (.cells A0 (Tryz.insertI_ren.t 3))).drew.setCells w.heap.size i [.int .i64 q]).drew).setCells w.heap.size (i+1) ((I64 xs).drop i)) (some w.heap.size) :=
     (((((World.grownBy_alloc w _ _)).trans (grown_drw0 _ _)).trans (grown_sets _)).trans (grown_drw0 _ _)).trans (grown_sets _)
    refine ⟨_,rfl,InsOK.of (hbm.sets_ ((I64 xs).drop i) (i+1)) (by rw [sets_size,sets_size];exact hA0s) hle hxl hi hge ?_ ⟨hgr.os,hgr.tape,hgr.output,hgr.size,fun k hk _=>hgr.block k hk (fun e=>by cases e;omega)⟩ (.inr (Nat.le_refl _))⟩
    exact (sets_ins (q:=q) hxl hi hA0s hge hA0v).2
theorem bs_any (v:Value) (n:Nat) (xs:List Int) (q:Int) (w:World) (ho:w.ownsRow 0 3 1 v n (I64 xs)) (hr:xs.Pairwise (·<·)) (hn:n≤1000) :
  Calls Tryz.prog 190 #[v,.int .i64 q] w fun e w'=>e=.returned (.tuple #[.int .i64 (xs.countP (·<q):Nat),.bool (xs.contains q)])∧∃ k,w'=w.drewN k:=by
 have hxl:xs.length=n:=by have:=ho.1;rw [I64_len] at this;omega
 have hv:=ho.2
 rcases hv with ⟨rfl,rfl⟩ | ⟨g,cap,cur,rfl,_,hh,h1,h2,h3,h4⟩
 ·obtain rfl:xs=[]:=List.eq_nil_of_length_eq_zero hxl
  refine (Tryz.slices_BinarySearch_int_empty none 0 q w).mono ?_
  rintro e w' ⟨rfl,rfl⟩
  exact ⟨by simp,0,rfl⟩
 ·obtain ⟨cs,hb1,hs1,_,_,_,hv1⟩:=own_cells ho
  refine (Tryz.slices_BinarySearch_int g 0 n cap xs q w (by omega) (by omega) (fun j hj=>by rw [Nat.zero_add,hb1.cell,hv1 j (by omega)]) ?_).mono ?_
  ·exact (hr.imp (fun h=>Int.le_of_lt h)).sublist (List.take_sublist n xs)
  ·rintro e w' ⟨rfl,hw⟩
   rw [List.take_of_length_le (by omega)]
   exact ⟨rfl,hw⟩
theorem grown_drewN (w:World) (r:Option Nat):∀ k,w.grownBy (w.drewN k) r:=fun _=>⟨rfl,rfl,rfl,Nat.le_refl _,fun _ _ _=>rfl⟩
set_option maxRecDepth 100000 in
set_option maxHeartbeats 4000000 in
theorem with_any (v:Value) (n:Nat) (xs:List Int) (q:Int) (w:World) (ho:w.ownsRow 0 3 1 v n (I64 xs)) (hr:xs.Pairwise (·<·)) (hn:n≤1000) (hlt:∀ g,v.ownBlock=some g→g<w.heap.size) :
  Calls Tryz.prog 121 #[v,.int .i64 q] w fun e w'=>∃ v',e=.returned v'∧InsOK w w' v v' (withI xs q):=by
 have HBS:=Lib.hid (bs_any v n xs q w ho hr hn)
 have hxl:xs.length=n:=by have:=ho.1;rw [I64_len] at this;omega
 have hcl:xs.countP (·<q)≤n:=hxl ▸ List.countP_le_length
 have HO:=Lib.hid ho
 have HIN:=Lib.hid (fun k=>insert_any v n (xs.countP (·<q)) xs q w.heap.size ((w.drewN k).alloc (.cells #[.int .i64 q] 3)) (own_at ho fun g hg=>by
  have:=hlt g hg
  show (w.heap.push _)[g]?=w.heap[g]?
  rw [Array.getElem?_push,if_neg (by omega)]) hcl hn (Blk.new _ _ _) (fun e=>by have:=hlt _ e;omega))
 have HW:Hid (withI xs q=if xs.contains q=true then xs else xs.take (xs.countP (·<q)) ++ q :: xs.drop (xs.countP (·<q))):=Lib.hid rfl
 have HL:=Lib.hid hxl
 clear ho hr hn hlt hcl hxl
 generalize xs.countP (·<q)=ix at *
 cases hc:xs.contains q with
 | true =>
  rw [hc,if_pos rfl] at HW
  rw [hc] at HBS
  go_enter Tryz.func121,Tryz.ntmps121
  go_wp2_with (go_at_call 190;refine HBS.out.mono ?_;rintro e w1 ⟨rfl,k,rfl⟩)
  go_ret
  refine ⟨v,rfl,?_⟩
  rw [HW.out]
  exact ⟨by rw [HL.out];exact own_at HO.out fun _ _=>rfl,grown_drewN _ _ _,fun g hg=>.inl hg⟩
 | false =>
  rw [hc,if_neg (by simp)] at HW
  rw [hc] at HBS
  go_enter Tryz.func121,Tryz.ntmps121
  go_wp2_with (first | (go_at_call 190;refine HBS.out.mono ?_;rintro e w1 ⟨rfl,k,rfl⟩) | (go_at_call 191;refine (HIN.out k).mono ?_;rintro e w1 ⟨v',rfl,hi⟩;have HI:=Lib.hid hi;clear hi))
  go_ret
  refine ⟨v',rfl,?_⟩
  rw [HW.out]
  refine ⟨HI.out.own,((grown_drewN w _ k).trans (World.grownBy_alloc _ _ _)).trans HI.out.grown,fun g hg=>?_⟩
  rcases HI.out.loc g hg with h | h
  ·exact .inl h
  ·refine .inr ?_
   have e:((w.drewN k).alloc (.cells #[.int .i64 q] 3)).heap.size=w.heap.size+1:=Array.size_push ..
   omega
end Go.Proofs.YtfidicbknjoafaaGreatDoor
