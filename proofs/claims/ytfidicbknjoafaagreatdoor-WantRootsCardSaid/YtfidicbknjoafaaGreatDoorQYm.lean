/- A map of keys to rows of numbers, as it lies in memory; a key looked up; a row stored at a key; maps. -/
import Derived.Test.YtfidicbknjoafaaGreatDoorQYo
import Derived.Test.YtfidicbknjoafaaGreatDoorQYw
import Derived.Test.YtfidicbknjoafaaGreatDoorQStrb
import Derived.Test.YtfidicbknjoafaaGreatDoorQTab
import Derived.Test.YtfidicbknjoafaaGreatDoorQSort
namespace Go.Proofs.YtfidicbknjoafaaGreatDoor
open Go.RowKit Lx Sm Go.Maps
theorem cmp_riseI {d:Array Int} (hs:∀i j,i≤j→j<d.size→d[i]!≤d[j]!):∀m,m≤d.size→(Lib.compactUpTo d m).Pairwise (·<·)∧∀a,a∈Lib.compactUpTo d m ↔ ∃j,j<m∧d[j]! = a
 | 0,_=>⟨by simp[Lib.compactUpTo],fun a=>by simp[Lib.compactUpTo]⟩
 | m+1,hm=>by
  obtain⟨h1,h2⟩:=cmp_riseI hs m (by omega)
  rw[Lib.compactUpTo_succ]
  by_cases hk:Lib.keeps d m=true
  ·rw[if_pos hk]
   have hne:m=0∨d[m]! ≠ d[m - 1]!:=by simpa [Lib.keeps] using hk
   refine⟨List.pairwise_append.2 ⟨h1,List.pairwise_singleton _ _,fun x hx y hy=>?_⟩,fun a=>?_⟩
   ·obtain⟨j,hj,rfl⟩:=(h2 x).1 hx
    obtain rfl:y=d[m]!:=by simpa using hy
    have h3:=hs j (m - 1) (by omega) (by omega)
    have h4:=hs (m - 1) m (by omega) (by omega)
    rcases hne with h0|h0
    ·omega
    ·omega
   ·rw[List.mem_append,h2,List.mem_singleton]
    constructor
    ·rintro (⟨j,hj,e⟩|rfl)
     ·exact⟨j,by omega,e⟩
     ·exact⟨m,by omega,rfl⟩
    ·rintro ⟨j,hj,e⟩
     rcases Nat.lt_or_ge j m with h|h
     ·exact .inl ⟨j,h,e⟩
     ·obtain rfl:j=m:=by omega
      exact .inr e.symm
  ·rw[if_neg hk,List.append_nil]
   refine⟨h1,fun a=>?_⟩
   have hne:¬ (m=0∨d[m]! ≠ d[m - 1]!):=by simpa [Lib.keeps] using hk
   have h0:m ≠ 0:=fun e=>hne (.inl e)
   have he:d[m]! = d[m - 1]!:=Classical.not_not.1 fun e=>hne (.inr e)
   rw[h2]
   constructor
   ·rintro ⟨j,hj,e⟩
    exact⟨j,by omega,e⟩
   ·rintro ⟨j,hj,e⟩
    rcases Nat.lt_or_ge j m with h|h
    ·exact⟨j,h,e⟩
    ·obtain rfl:j=m:=by omega
     exact⟨j - 1,by omega,by rw[←he];exact e⟩
theorem butI_out (q:Int) (l m:List Int):butI q (l++m)=outP q l m:=by
 generalize hX:l++m=X
 have hp:(X.mergeSort fun x y=>decide (x≤y)).Perm X:=List.mergeSort_perm _ _
 have hsrt:(X.mergeSort fun x y=>decide (x≤y)).Pairwise fun a b=>decide (a≤b)=true:=List.pairwise_mergeSort (fun a b c h1 h2=>by simp at *;omega) (fun a b=>by simp;omega) X
 have hcs:(Lib.compact (X.mergeSort fun x y=>decide (x≤y))).Pairwise (·<·)∧∀a,a∈Lib.compact (X.mergeSort fun x y=>decide (x≤y)) ↔ a∈X:=by
  generalize X.mergeSort (fun x y=>decide (x≤y))=S at hp hsrt
  unfold Lib.compact
  have hget:∀i (hi:i<S.length),S.toArray[i]! = S[i]:=fun i hi=>by simp[hi]
  have hs:∀i j,i≤j→j<S.toArray.size→S.toArray[i]!≤S.toArray[j]!:=by
   intro i j hij hj
   have hj':j<S.length:=by simpa using hj
   rw[hget i (by omega),hget j hj']
   rcases Nat.lt_or_ge i j with h|h
   ·have:=List.pairwise_iff_getElem.1 hsrt i j (by omega) hj' h
    simpa using this
   ·obtain rfl:i=j:=by omega
    exact Int.le_refl _
  obtain⟨h1,h2⟩:=cmp_riseI hs S.length (by simp)
  refine⟨h1,fun a=>?_⟩
  rw[h2,←hp.mem_iff,List.mem_iff_getElem]
  constructor
  ·rintro ⟨j,hj,e⟩
   exact⟨j,hj,by rw[←hget j hj];exact e⟩
  ·rintro ⟨j,hj,e⟩
   exact⟨j,hj,by rw[hget j hj];exact e⟩
 refine rises_one (hcs.1.filter _) (outP_rises q l m) fun a=>?_
 unfold butI at *
 rw[List.mem_filter,hcs.2,outP_mem,←hX,List.mem_append]
 simp
end Go.Proofs.YtfidicbknjoafaaGreatDoor
namespace Go.Proofs.YtfidicbknjoafaaGreatDoor
open Go.RowKit Go.Maps Go.Sort Go.Shelf Lx Sm Go.MapKept Go.ChangeMaps
open Go.WideElems (Fit)
theorem zeroRk (w:World):(zeroValue 52).run Tryz.prog w=.ok (.slice none 0 0) w:=by kernel_rfl
structure KI (w:World) (F:Nat→Prop) (b:Nat) (L:Tr.Row) (es:Array MapEntry) (clock:Nat):Prop where
 own:F b
 block:w.heap[b]?=some (.map es clock)
 fit:Fit Tryz.prog 57 R0 es clock
 size:es.size=L.length
 each:∀ (j:Nat) e x,es.toList[j]?=some e→L[j]?=some x→e.key=kv x.1∧UK x.1∧w.ownsRow 0 3 1 e.val x.2.length (I64 x.2)∧∀g,e.val.ownBlock=some g→F g
 apart:∀ (i j:Nat) e f,i ≠ j→es.toList[i]?=some e→es.toList[j]?=some f→e.val.ownBlock=none∨e.val.ownBlock ≠ f.val.ownBlock
def KR (w:World) (F:Nat→Prop) (b:Nat) (L:Tr.Row):Prop:=∃es clock,KI w F b L es clock
section
variable {w w':World} {F F':Nat→Prop} {b:Nat} {L:Tr.Row} {es:Array MapEntry} {clock:Nat} {p:Tr.Pf}
theorem KI.kept (h:KI w F b L es clock) (hk:∀i,F i→w'.heap[i]?=w.heap[i]?) (hF:∀i,F i→F' i):KI w' F' b L es clock :=
 ⟨hF _ h.own,(hk _ h.own).trans h.block,h.fit,h.size,fun j e x he hx=>by
  obtain⟨h1,h2,h3,h4⟩:=h.each j e x he hx
  exact⟨h1,h2,own_at h3 (fun g hg=>hk g (h4 g hg)),fun g hg=>hF g (h4 g hg)⟩,h.apart⟩
theorem KI.at_ (h:KI w F b L es clock) {j:Nat} {e:MapEntry} (he:es.toList[j]?=some e):∃x,L[j]?=some x∧e.key=kv x.1∧UK x.1∧w.ownsRow 0 3 1 e.val x.2.length (I64 x.2)∧∀g,e.val.ownBlock=some g→F g:=by
 have hj:j<L.length:=by
  have:=(List.getElem?_eq_some_iff.1 he).1
  rw[←h.size];simpa using this
 exact⟨L[j],by simp[hj],h.each j e L[j] he (by simp[hj])⟩
theorem KI.back (h:KI w F b L es clock) {j:Nat} {x:Tr.Pf × List Int} (hx:L[j]?=some x):∃e,es.toList[j]?=some e:=by
 have hj:=(List.getElem?_eq_some_iff.1 hx).1
 rw[←h.size]at hj
 exact⟨es[j],by simp[hj]⟩
theorem KI.apartL (h:KI w F b L es clock):Tr.Apart L:=by
 have hn:=h.fit.stamped.2.2
 unfold Tr.Apart
 have e:es.toList.map (·.key)=(L.map (·.1)).map kv:=by
  apply List.ext_getElem?
  intro j
  rw[List.map_map,List.getElem?_map,List.getElem?_map]
  cases hl:L[j]? with
  | none =>
   have:es.toList[j]?=none:=by
    rw[List.getElem?_eq_none_iff]at hl ⊢
    rw[←h.size]at hl
    simpa using hl
   rw[this];rfl
  | some x =>
   obtain⟨e,he⟩:=h.back hl
   rw[he]
   simp[(h.each j e x he hl).1]
 rw[e]at hn
 unfold List.Nodup at hn ⊢
 rw[List.pairwise_map]at hn
 exact hn.imp fun h e=>h (congrArg kv e)
theorem KI.find (h:KI w F b L es clock) (hp:UK p):((∀x∈es.toList,x.key ≠ kv p)∧Tr.get L p=none)∨∃ (j:Nat) (e:MapEntry) (xs:List Int),es.toList[j]?=some e∧e.key=kv p∧L[j]?=some (p,xs)∧Tr.get L p=some xs:=by
 by_cases hx:∃x∈es.toList,x.key=kv p
 ·obtain⟨e,he,hk⟩:=hx
  obtain⟨j,hj⟩:=List.getElem?_of_mem he
  obtain⟨⟨q,xs⟩,hL,h1,_⟩:=h.at_ hj
  obtain rfl:q=p:=kv_inj (h1.symm.trans hk)
  exact .inr ⟨j,e,xs,hj,hk,hL,Tr.get_at h.apartL hL⟩
 ·refine .inl ⟨fun x hx' e=>hx ⟨x,hx',e⟩,Tr.get_none.2 fun x hx' e=>?_⟩
  obtain⟨j,hj⟩:=List.getElem?_of_mem hx'
  obtain⟨en,he⟩:=h.back hj
  exact hx ⟨en,List.mem_of_getElem? he,by rw[(h.each j en x he hj).1,e]⟩
theorem KI.same (h:KI w F b L es clock) {i j:Nat} {e f:MapEntry} (he:es.toList[i]?=some e) (hf:es.toList[j]?=some f) (hk:e.key=f.key):i=j∧e=f:=by
 have hnd:=h.fit.stamped.2.2
 have h1:(es.toList.map (·.key))[i]?=some f.key:=by rw[List.getElem?_map,he];simp[hk]
 have h2:(es.toList.map (·.key))[j]?=some f.key:=by rw[List.getElem?_map,hf];rfl
 obtain rfl:i=j:=(List.getElem?_inj (List.getElem?_eq_some_iff.1 h1).1 hnd).1 (h1.trans h2.symm)
 rw[he]at hf
 exact⟨rfl,Option.some.inj hf⟩
theorem KR.look (h:KR w F b L) (hp:UK p):∃v,(∀W:World,W.heap[b]?=w.heap[b]?→(Instr.lookup 150 (.map (some b)) (kv p) true).run Tryz.prog W=.ok (.tuple #[v,.bool (Tr.get L p).isSome]) W) ∧
  w.ownsRow 0 3 1 v ((Tr.get L p).getD []).length (I64 ((Tr.get L p).getD []))∧∀g,v.ownBlock=some g→F g:=by
 obtain⟨es,clock,h⟩:=h
 obtain⟨kl,hkl⟩:=kv_key' hp
 have look:=fun (W:World) (hW:W.heap[b]?=w.heap[b]?)=>Maps.fit_look true (Maps.Keyed.of_law lawK) Tryz.underlying150 (zeroRk W) (hW.trans h.block) h.fit hkl
 rcases h.find hp with ⟨hn,hg⟩|⟨j,e,xs,he,hk,hL,hg⟩
 ·refine⟨.slice none 0 0,fun W hW=>?_,by rw[hg];exact World.ownsRow_nil _ _ _ _,fun g hg=>by simp[Value.ownBlock]at hg⟩
  rcases look W hW with ⟨hr,_⟩|⟨e0,y,hm,hk,hr,_⟩
  ·rw[hg];exact hr
  ·exact absurd hk (hn e0 hm)
 ·obtain⟨_,_,h3,h4⟩:=h.each j e _ he hL
  refine⟨e.val,fun W hW=>?_,by rw[hg];exact h3,h4⟩
  rcases look W hW with ⟨hr,hn,_⟩|⟨e0,y,hm,hk',hr,_⟩
  ·exact absurd hk (hn e (List.mem_of_getElem? he))
  ·obtain⟨i,hi⟩:=List.getElem?_of_mem hm
   obtain⟨_,rfl⟩:=h.same he hi (hk.trans hk'.symm)
   rw[hg];exact hr
def LK (es:Array MapEntry) (L:Tr.Row) (p:Tr.Pf) (v:Value) (ys:List Int):Prop :=
 (v=.slice none 0 0∧ys=[]∧Tr.get L p=none)∨∃ (j:Nat) (e:MapEntry),es.toList[j]?=some e∧e.key=kv p∧L[j]?=some (p,ys)∧v=e.val∧Tr.get L p=some ys
theorem KI.look (h:KI w F b L es clock) (hp:UK p):∃v ys,LK es L p v ys∧ys=(Tr.get L p).getD []∧(∀W:World,W.heap[b]?=w.heap[b]?→(Instr.lookup 150 (.map (some b)) (kv p) false).run Tryz.prog W=.ok v W) ∧
  w.ownsRow 0 3 1 v ys.length (I64 ys)∧∀g,v.ownBlock=some g→F g:=by
 obtain⟨kl,hkl⟩:=kv_key' hp
 have look:=fun (W:World) (hW:W.heap[b]?=w.heap[b]?)=>Maps.fit_look false (Maps.Keyed.of_law lawK) Tryz.underlying150 (zeroRk W) (hW.trans h.block) h.fit hkl
 rcases h.find hp with ⟨hn,hg⟩|⟨j,e,xs,he,hk,hL,hg⟩
 ·refine⟨.slice none 0 0,[],.inl ⟨rfl,rfl,hg⟩,by rw[hg];rfl,fun W hW=>?_,World.ownsRow_nil _ _ _ _,fun g hg=>by simp[Value.ownBlock]at hg⟩
  rcases look W hW with ⟨hr,_⟩|⟨e0,y,hm,hk,hr,_⟩
  ·exact hr
  ·exact absurd hk (hn e0 hm)
 ·obtain⟨_,_,h3,h4⟩:=h.each j e _ he hL
  refine⟨e.val,xs,.inr ⟨j,e,he,hk,hL,rfl,hg⟩,by rw[hg];rfl,fun W hW=>?_,h3,h4⟩
  rcases look W hW with ⟨hr,hn,_⟩|⟨e0,y,hm,hk',hr,_⟩
  ·exact absurd hk (hn e (List.mem_of_getElem? he))
  ·obtain⟨i,hi⟩:=List.getElem?_of_mem hm
   obtain⟨_,rfl⟩:=h.same he hi (hk.trans hk'.symm)
   exact hr
theorem get_app {L:Tr.Row} (p q:Tr.Pf) (ys:List Int) (h:Tr.get L p=none):Tr.get (L++[(p,ys)]) q=if p=q then some ys else Tr.get L q:=by
 induction L with
 | nil=>simp[Tr.get]
 | cons x r ih =>
  obtain⟨s,zs⟩:=x
  simp only[Tr.get]at h
  split at h
  ·cases h
  ·rename_i hs
   simp only[List.cons_append,Tr.get]
   by_cases h2:s=q
   ·rw[if_pos h2,if_pos h2,if_neg (fun e=>hs (h2.trans e.symm))]
   ·rw[if_neg h2,if_neg h2,ih h]
theorem get_set {L:Tr.Row} (ha:Tr.Apart L) {p:Tr.Pf} {j:Nat} {xs:List Int} (hj:L[j]?=some (p,xs)) (q:Tr.Pf) (ys:List Int):Tr.get (L.set j (p,ys)) q=if p=q then some ys else Tr.get L q:=by
 induction L generalizing j with
 | nil=>simp at hj
 | cons x r ih =>
  obtain⟨s,zs⟩:=x
  unfold Tr.Apart at ha
  simp only[List.map_cons,List.nodup_cons]at ha
  cases j with
  | zero =>
   simp only[List.getElem?_cons_zero,Option.some.injEq,Prod.mk.injEq]at hj
   obtain⟨rfl,rfl⟩:=hj
   simp only[List.set_cons_zero,Tr.get]
   by_cases h2:s=q
   ·rw[if_pos h2,if_pos h2]
   ·rw[if_neg h2,if_neg h2,if_neg h2]
  | succ j =>
   simp only[List.getElem?_cons_succ]at hj
   have hne:s ≠ p:=fun e=>ha.1 (e ▸ List.mem_map.2 ⟨(p,xs),List.mem_of_getElem? hj,rfl⟩)
   simp only[List.set_cons_succ,Tr.get]
   by_cases h2:s=q
   ·rw[if_pos h2,if_pos h2,if_neg (fun e=>hne (h2.trans e.symm))]
   ·rw[if_neg h2,if_neg h2,ih ha.2 hj]
theorem KI.row_ne (h:KI w F b L es clock) {v:Value} {k n:Nat} {t:TypeId} {ys:List Value} {W:World} (hb:W.heap[b]?=w.heap[b]?) (ho:W.ownsRow 0 t k v n ys):v.ownBlock ≠ some b:=fun hg=>by
 rcases ho.2 with ⟨hv,_⟩|⟨g',cap,cur,hv,_,hh,_⟩
 ·rw[hv]at hg;simp[Value.ownBlock]at hg
 ·rw[hv]at hg;simp[Value.ownBlock]at hg;subst hg;rw[hb,h.block]at hh;cases hh
set_option maxHeartbeats 1000000 in
theorem KI.put (h:KI w F b L es clock) (hp:UK p) {W:World} {v v':Value} {ys0 ys:List Int} (hl:LK es L p v ys0) (hv:∀g,v.ownBlock=some g→F g) (hvo:v.ownBlock ≠ some b) (hg:w.grownBy W v.ownBlock) (ho:W.ownsRow 0 3 1 v' ys.length (I64 ys))
  (hb':∀g,v'.ownBlock=some g→v.ownBlock=some g∨w.heap.size≤g) (hroom:L.length<maxLen) :
  ∃W2 L' es' clock',(Instr.mapUpdate 150 (.map (some b)) (kv p) v').run Tryz.prog W=.ok () W2∧W.grownBy W2 (some b)∧W2.heap.size=W.heap.size ∧
   KI W2 (fun i=>F i∨w.heap.size≤i) b L' es' clock'∧(∀q,Tr.get L' q=if p=q then some ys else Tr.get L q)∧L'.length≤L.length+1:=by
 obtain⟨kl,hkl⟩:=kv_key' hp
 have hbl:b<w.heap.size:=(Array.getElem?_eq_some_iff.1 h.block).1
 have hb:W.heap[b]?=some (.map es clock):=(hg.block b hbl (fun e=>hvo e.symm)).trans h.block
 have K:=lawK
 have hgrow:∀o,W.grownBy (ChangeMaps.setBlock W b o) (some b):=fun o=>⟨rfl,rfl,rfl,by simp[ChangeMaps.setBlock],fun i _ hi=>heap_setBlock_other hb o (fun e1=>hi (by rw[e1]))⟩
 have hvb':v'.ownBlock ≠ some b:=fun e=>by
  rcases hb' b e with h1|h1
  ·exact hvo h1
  ·omega
 -- the rows of other entries are as they were
 have hold:∀o (j:Nat) e x,es.toList[j]?=some e→L[j]?=some x→(e.val.ownBlock=none∨e.val.ownBlock ≠ v.ownBlock)→(ChangeMaps.setBlock W b o).ownsRow 0 3 1 e.val x.2.length (I64 x.2):=fun o j e x he hx hne=>by
  obtain⟨_,_,a3,_⟩:=h.each j e x he hx
  refine own_at a3 (fun g hgv=>?_)
  have hgb:g ≠ b:=fun e1=>(h.row_ne rfl a3) (by rw[hgv,e1])
  rw[heap_setBlock_other hb _ hgb]
  refine hg.block g (by
   rcases a3.2 with ⟨hv,_⟩|⟨g',cap,cur,hv,_,hh,_⟩
   ·rw[hv]at hgv;simp[Value.ownBlock]at hgv
   ·rw[hv]at hgv;simp[Value.ownBlock]at hgv;subst hgv;exact (Array.getElem?_eq_some_iff.1 hh).1) (fun e1=>?_)
  rcases hne with h1|h1
  ·rw[h1]at hgv;cases hgv
  ·exact h1 (by rw[hgv,e1])
 have hmine:∀o,(ChangeMaps.setBlock W b o).ownsRow 0 3 1 v' ys.length (I64 ys):=fun o=>own_at ho (fun g hgv=>heap_setBlock_other hb _ (fun e1=>hvb' (by rw[hgv,e1])))
 have hvF:∀g,v'.ownBlock=some g→F g∨w.heap.size≤g:=fun g hgv=>(hb' g hgv).imp (fun h1=>hv g h1) id
 have hfar:∀ (j:Nat) e x,es.toList[j]?=some e→L[j]?=some x→(e.val.ownBlock=none∨e.val.ownBlock ≠ v.ownBlock)→e.val.ownBlock=none∨e.val.ownBlock ≠ v'.ownBlock:=fun j e x he hx hne=>by
  obtain⟨_,_,a3,a4⟩:=h.each j e x he hx
  cases hbk:e.val.ownBlock with
  | none=>exact .inl rfl
  | some g =>
   right
   intro e1
   rcases hb' g e1.symm with h1|h1
   ·rcases hne with h2|h2
    ·rw[hbk]at h2;cases h2
    ·exact h2 (by rw[hbk,h1])
   ·rcases a3.2 with ⟨hv,_⟩|⟨g',cap,cur,hv,_,hh,_⟩
    ·rw[hv]at hbk;simp[Value.ownBlock]at hbk
    ·rw[hv]at hbk;simp[Value.ownBlock]at hbk;subst hbk
     have:=(Array.getElem?_eq_some_iff.1 hh).1
     omega
 rcases hl with ⟨rfl,rfl,hg0⟩|⟨j,e,he,hk,hL,rfl,hg0⟩
 ·have hnk:∀x∈es.toList,x.key ≠ kv p:=by
   rcases h.find hp with ⟨hn,_⟩|⟨j,e,xs,_,_,_,hg1⟩
   ·exact hn
   ·rw[hg0]at hg1;cases hg1
  have hnone:∀ (j:Nat) e x,es.toList[j]?=some e→L[j]?=some x→(e.val.ownBlock=none∨e.val.ownBlock ≠ (Value.slice none 0 0).ownBlock):=fun j e x _ _=>by cases e.val.ownBlock <;> simp[Value.ownBlock]
  rcases K.find W hkl es.toList h.fit.keys with ⟨h1,h2⟩|⟨j,e0,h1,h2,h3⟩
  ·refine⟨ChangeMaps.setBlock W b (.map (es.push ⟨kv p,v',clock⟩) (clock+1)),L++[(p,ys)],_,_,?_,hgrow _,by simp[ChangeMaps.setBlock],⟨.inl h.own,heap_setBlock_same hb _,⟨by have:=h.size;simp;omega,stamped_push h.fit.stamped h2,?_⟩,by simp[h.size],?_,?_⟩,fun q=>get_app p q ys hg0,by simp⟩
   ·simp[Instr.mapUpdate,run_underlying Tryz.underlying150,MapKept.run_getObj_map hb,K.check W false hkl,h1,MapKept.run_setObj_map _ hb,Result.andThen,ChangeMaps.setBlock]
   ·intro x hx
    simp only[Array.toList_push,List.mem_append,List.mem_singleton]at hx
    rcases hx with hx|rfl
    ·exact h.fit.reads x hx
    ·exact⟨_,WideElems.rd_mk hkl rfl⟩
   ·intro j e x he hx
    rw[Array.toList_push]at he
    rcases Nat.lt_or_ge j L.length with hj|hj
    ·rw[List.getElem?_append_left (by simpa [h.size] using hj)]at he
     rw[List.getElem?_append_left hj]at hx
     obtain⟨a1,a2,_,a4⟩:=h.each j e x he hx
     exact⟨a1,a2,hold _ j e x he hx (hnone j e x he hx),fun g hg=>.inl (a4 g hg)⟩
    ·rw[List.getElem?_append_right (by simpa [h.size] using hj)]at he
     rw[List.getElem?_append_right hj]at hx
     have e0:j - L.length=0:=by
      have:=(List.getElem?_eq_some_iff.1 hx).1
      simpa using this
     have e1:es.toList.length=L.length:=by simp[h.size]
     rw[e1,e0]at he
     rw[e0]at hx
     simp at he hx
     subst he;subst hx
     exact⟨rfl,hp,hmine _,hvF⟩
   ·intro i j e f hij he hf
    rw[Array.toList_push]at he hf
    have elen:es.toList.length=L.length:=by simp[h.size]
    rcases Nat.lt_or_ge i es.toList.length with hi|hi
    ·rw[List.getElem?_append_left hi]at he
     obtain⟨x,hx,_⟩:=h.at_ he
     rcases Nat.lt_or_ge j es.toList.length with hj|hj
     ·rw[List.getElem?_append_left hj]at hf
      exact h.apart i j e f hij he hf
     ·rw[List.getElem?_append_right hj]at hf
      have e0:j - es.toList.length=0:=by
       have:=(List.getElem?_eq_some_iff.1 hf).1
       simpa using this
      rw[e0]at hf
      simp at hf
      subst hf
      exact hfar i e x he hx (hnone i e x he hx)
    ·rw[List.getElem?_append_right hi]at he
     have e0:i - es.toList.length=0:=by
      have:=(List.getElem?_eq_some_iff.1 he).1
      simpa using this
     rw[e0]at he
     simp at he
     subst he
     have hj:j<es.toList.length:=by
      have h1:=(List.getElem?_eq_some_iff.1 hf).1
      simp only[List.length_append,List.length_cons,List.length_nil]at h1
      omega
     rw[List.getElem?_append_left hj]at hf
     obtain⟨x,hx,_⟩:=h.at_ hf
     rcases hfar j f x hf hx (hnone j f x hf hx) with h5|h5
     ·by_cases h0:v'.ownBlock=none
      ·exact .inl h0
      ·exact .inr (by rw[h5];exact h0)
     ·exact .inr (fun e1=>h5 e1.symm)
  ·exact absurd h3 (hnk e0 (List.mem_of_getElem? h2))
 ·rcases K.find W hkl es.toList h.fit.keys with ⟨h1,h2⟩|⟨i0,e0,h1,h2,h3⟩
  ·exact absurd hk (h2 e (List.mem_of_getElem? he))
  ·obtain⟨rfl,rfl⟩:=h.same he h2 (hk.trans h3.symm)
   have hj:es[j]?=some e:=by simpa using he
   obtain⟨k1,k2,k3,k4⟩:=h.each j e _ he hL
   have hjl:j<es.toList.length:=(List.getElem?_eq_some_iff.1 he).1
   have hmod:es.modify j (fun e=>{ e with key:=kv p,val:=v' })=es.modify j (fun e=>{ e with val:=v' }):=by
    apply Array.ext'
    rw[Array.toList_modify,Array.toList_modify,ChangeMaps.modify_eq_set _ _ _ _ he,ChangeMaps.modify_eq_set _ _ _ _ he]
    have:({ e with key:=kv p,val:=v' }:MapEntry)={ e with val:=v' }:=by rw[←hk]
    rw[this]
   have hlist:(es.modify j (fun e=>{ e with val:=v' })).toList=es.toList.set j { e with val:=v' }:=by rw[Array.toList_modify,ChangeMaps.modify_eq_set _ _ _ _ he]
   have hap:∀ (i:Nat) f,i ≠ j→es.toList[i]?=some f→f.val.ownBlock=none∨f.val.ownBlock ≠ e.val.ownBlock:=fun i f hij hf=>h.apart i j f e hij hf he
   refine⟨ChangeMaps.setBlock W b (.map (es.modify j (fun e=>{ e with val:=v' })) clock),L.set j (p,ys),_,_,?_,hgrow _,by simp[ChangeMaps.setBlock],⟨.inl h.own,heap_setBlock_same hb _,⟨by simpa using h.fit.size,stamped_modify h.fit.stamped _ _ (fun _ _=>rfl) (fun _ _ _=>rfl),?_⟩,by simp[h.size],?_,?_⟩,fun q=>get_set h.apartL hL q ys,by simp⟩
   ·rw[←hmod]
    simp[Instr.mapUpdate,run_underlying Tryz.underlying150,MapKept.run_getObj_map hb,K.check W false hkl,h1,hj,h3,K.stays W hkl,MapKept.run_setObj_map _ hb,Result.andThen,ChangeMaps.setBlock]
   ·intro x hx
    rw[hlist]at hx
    obtain⟨i,hi,ex⟩:=List.getElem_of_mem hx
    rw[List.getElem_set]at ex
    split at ex
    ·subst ex
     obtain⟨y,hy⟩:=h.fit.reads e (List.mem_of_getElem? he)
     exact⟨_,WideElems.rd_mk (WideElems.rd_key hy) rfl⟩
    ·exact ex ▸ h.fit.reads _ (List.getElem_mem _)
   ·intro i f x hi hx
    rw[hlist,List.getElem?_set]at hi
    rw[List.getElem?_set]at hx
    by_cases hij:j=i
    ·subst hij
     have hjL:j<L.length:=by rw[←h.size];simpa using hjl
     simp only[if_true,hjl,hjL]at hi hx
     cases hi;cases hx
     exact⟨k1,k2,hmine _,hvF⟩
    ·simp only[hij,if_false]at hi hx
     obtain⟨a1,a2,_,a4⟩:=h.each i f x hi hx
     exact⟨a1,a2,hold _ i f x hi hx (hap i f (fun e=>hij e.symm) hi),fun g hg'=>.inl (a4 g hg')⟩
   ·intro i k f f2 hik hi hkk
    rw[hlist,List.getElem?_set]at hi hkk
    by_cases hij:j=i
    ·subst hij
     simp only[hik,if_false]at hkk
     simp only[if_true,hjl]at hi
     cases hi
     obtain⟨x,hx,_⟩:=h.at_ hkk
     rcases hfar k f2 x hkk hx (hap k f2 (fun e=>hik e.symm) hkk) with h5|h5
     ·by_cases h0:v'.ownBlock=none
      ·exact .inl h0
      ·exact .inr (by rw[h5];exact h0)
     ·exact .inr (fun e=>h5 e.symm)
    ·simp only[hij,if_false]at hi
     by_cases hkj:j=k
     ·subst hkj
      simp only[if_true,hjl]at hkk
      cases hkk
      obtain⟨x,hx,_⟩:=h.at_ hi
      exact hfar i f x hi hx (hap i f (fun e=>hij e.symm) hi)
     ·simp only[hkj,if_false]at hkk
      exact h.apart i k f f2 hik hi hkk
end
end Go.Proofs.YtfidicbknjoafaaGreatDoor
