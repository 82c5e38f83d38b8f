/- Plain tries: rows of prefixes, each with what was put there, in the order in which they came. -/
import Derived.Test.YtfidicbknjoafaaGreatDoorQStrb
import Derived.Test.YtfidicbknjoafaaGreatDoorQKit
import Derived.Test.YtfidicbknjoafaaGreatDoorQOn
import Derived.Test.YtfidicbknjoafaaGreatDoorProg
import Derived.Test.YtfidicbknjoafaaGreatDoorQAddr
import Derived.Test.YtfidicbknjoafaaGreatDoorQCf
import Derived.Maps.OwnRows
import Derived.WideKeyEntry
import Derived.DeepKeys4
import Derived.WalkKit
import Derived.BigQuiet
import Derived.Deep.QuietTactic
import Derived.Deep.RegionHeld3
import Derived.Deep.DeepAppendRoom
import Derived.Lib.SliceRun
import Derived.WalkSpells
import Derived.Outline
import Derived.Maps.OwnSet
import Derived.Deep.RegionLaw
namespace Go.Proofs.YtfidicbknjoafaaGreatDoor
namespace Tr
abbrev Pf:=Int × Int
abbrev Row:=List (Pf × List Int)
def get:Row→Pf→Option (List Int)
 | [],_=>none
 | (q,xs) :: r,p=>if q=p then some xs else get r p
def put:Row→Pf→Int→Row
 | [],p,n=>[(p,[n])]
 | (q,xs) :: r,p,n=>if q=p then (q,xs++[n]) :: r else (q,xs) :: put r p n
def Apart (L:Row):Prop:=(L.map (·.1)).Nodup
theorem get_none {L:Row} {p:Pf}:get L p=none ↔ ∀x∈L,x.1 ≠ p:=by
 induction L with
 | nil=>simp[get]
 | cons x r ih =>
  obtain⟨q,xs⟩:=x
  unfold get
  by_cases h:q=p
  ·simp[h]
  ·rw[if_neg h,ih];simp[h]
theorem get_at {L:Row} (ha:Apart L) {j:Nat} {p:Pf} {xs:List Int} (h:L[j]?=some (p,xs)):get L p=some xs:=by
 induction L generalizing j with
 | nil=>simp at h
 | cons x r ih =>
  obtain⟨q,ys⟩:=x
  unfold Apart at ha
  simp only[List.map_cons,List.nodup_cons]at ha
  cases j with
  | zero =>
   simp only[List.getElem?_cons_zero,Option.some.injEq,Prod.mk.injEq]at h
   obtain⟨rfl,rfl⟩:=h
   simp[get]
  | succ j =>
   simp only[List.getElem?_cons_succ]at h
   have hne:q ≠ p:=fun e=>ha.1 (e ▸ List.mem_map.2 ⟨(p,xs),List.mem_of_getElem? h,rfl⟩)
   unfold get
   rw[if_neg hne]
   exact ih ha.2 h
theorem put_new {L:Row} {p:Pf} (n:Int) (h:∀x∈L,x.1 ≠ p):put L p n=L++[(p,[n])]:=by
 induction L with
 | nil=>rfl
 | cons x r ih =>
  obtain⟨q,ys⟩:=x
  have h1:q ≠ p:=h (q,ys) (by simp)
  unfold put
  rw[if_neg h1,ih (fun x hx=>h x (by simp[hx]))]
  rfl
theorem put_old {L:Row} (ha:Apart L) {p:Pf} (n:Int) {j:Nat} {xs:List Int} (h:L[j]?=some (p,xs)):put L p n=L.set j (p,xs++[n]):=by
 induction L generalizing j with
 | nil=>simp at h
 | cons x r ih =>
  obtain⟨q,ys⟩:=x
  unfold Apart at ha
  simp only[List.map_cons,List.nodup_cons]at ha
  cases j with
  | zero =>
   simp only[List.getElem?_cons_zero,Option.some.injEq,Prod.mk.injEq]at h
   obtain⟨rfl,rfl⟩:=h
   simp[put]
  | succ j =>
   simp only[List.getElem?_cons_succ]at h
   have hne:q ≠ p:=fun e=>ha.1 (e ▸ List.mem_map.2 ⟨(p,xs),List.mem_of_getElem? h,rfl⟩)
   unfold put
   rw[if_neg hne,ih ha.2 h]
   rfl
theorem get_put (L:Row) (p q:Pf) (n:Int):get (put L p n) q=if p=q then some ((get L p).getD []++[n]) else get L q:=by
 induction L with
 | nil=>by_cases h:p=q <;> simp[put,get,h]
 | cons x r ih =>
  obtain⟨s,ys⟩:=x
  unfold put
  by_cases h:s=p
  ·subst h
   rw[if_pos rfl]
   by_cases h2:s=q
   ·simp[get,h2]
   ·simp[get,h2]
  ·rw[if_neg h]
   by_cases h2:s=q
   ·have h3:p ≠ q:=fun e=>h (h2.trans e.symm)
    simp[get,h2,h3]
   ·simp only[get,h2,h,if_false,ih]
theorem put_len (L:Row) (p:Pf) (n:Int):(put L p n).length=if (get L p).isSome then L.length else L.length+1:=by
 induction L with
 | nil=>simp[put,get]
 | cons x r ih =>
  obtain⟨s,ys⟩:=x
  unfold put get
  by_cases h:s=p
  ·simp[h]
  ·simp only[h,if_false,List.length_cons,ih]
   split <;> rfl
end Tr
end Go.Proofs.YtfidicbknjoafaaGreatDoor
namespace Go.Proofs.YtfidicbknjoafaaGreatDoor
open Go.RowKit Go.MapKept Go.ChangeMaps
open Go.WideElems (Fit)
structure Off (F:Nat→Prop) (w w':World):Prop where
 os:w'.os=w.os
 tape:w'.tape=w.tape
 output:w'.output=w.output
 size:w.heap.size≤w'.heap.size
 block:∀i,i<w.heap.size→¬ F i→w'.heap[i]?=w.heap[i]?
section
variable {F G:Nat→Prop} {w w1 w2:World}
theorem Off.refl (F:Nat→Prop) (w:World):Off F w w:=⟨rfl,rfl,rfl,Nat.le_refl _,fun _ _ _=>rfl⟩
theorem Off.of_below (F:Nat→Prop) (h:Below w.heap.size w w1):Off F w w1:=⟨h.os,h.tape,h.output,h.size,fun i hi _=>h.block i hi⟩
theorem Off.of_grown {row:Option Nat} (h:w.grownBy w1 row) (hf:∀g,row=some g→F g):Off F w w1 :=
 ⟨h.os,h.tape,h.output,h.size,fun i hi hn=>h.block i hi (fun e=>hn (hf i e.symm))⟩
theorem Off.trans (h:Off F w w1) (g:Off G w1 w2) (hs:∀i,i<w.heap.size→G i→F i):Off F w w2 :=
 ⟨g.os.trans h.os,g.tape.trans h.tape,g.output.trans h.output,Nat.le_trans h.size g.size,
  fun i hi hn=>(g.block i (Nat.lt_of_lt_of_le hi h.size) (fun e=>hn (hs i hi e))).trans (h.block i hi hn)⟩
theorem Off.below {B:Nat} (h:Off F w w1) (hF:∀i,F i→B≤i) (hB:B≤w.heap.size):Below B w w1 :=
 ⟨h.os,h.tape,h.output,h.size,fun i hi=>h.block i (Nat.lt_of_lt_of_le hi hB) (fun e=>by have:=hF i e;omega)⟩
end
def pv (p:Tr.Pf):Value:=.agg #[.int .u32 p.1,.int .i64 p.2]
def wfP (p:Tr.Pf):Prop:=(0≤p.1∧p.1≤4294967295)∧(-9223372036854775808≤p.2∧p.2≤9223372036854775807)
theorem pv_inj {p q:Tr.Pf} (h:pv p=pv q):p=q:=by
 unfold pv at h
 simp at h
 exact Prod.ext h.1 h.2
theorem laid7:laidOutB Tryz.prog=true:=by kernel_rfl
theorem lawP:WideMaps.KeyLaw Tryz.prog 125:=deep_law_laid laid7 (m:=2) (by omega) (of_decide_eq_true (by kernel_rfl)) (by kernel_rfl) (by kernel_rfl)
theorem keyT:Tryz.prog.keyType 125=true:=by kernel_rfl
theorem cellsP:Tryz.prog.cellsOf 125=2:=by kernel_rfl
theorem cellsA:Tryz.prog.cellsOf 42=1:=by kernel_rfl
theorem cellsI:Tryz.prog.cellsOf 3=1:=by kernel_rfl
theorem zeroR (w:World):(zeroValue 52).run Tryz.prog w=.ok (.slice none 0 0) w:=by kernel_rfl
theorem pv_key {p:Tr.Pf} (h:wfP p):∃kl,keyOf Tryz.prog 125 (pv p)=some kl:=by
 obtain⟨⟨h0,h1⟩,h2,h3⟩:=h
 have wa:(Lit.int .u32 p.1).wf=true:=by simp[Lit.wf,IntKind.min,IntKind.max,IntKind.signed,IntKind.bits];omega
 have wb:(Lit.int .i64 p.2).wf=true:=by simp[Lit.wf,IntKind.min,IntKind.max,IntKind.signed,IntKind.bits];omega
 have hf:(pv p).formed Tryz.prog 125=true:=by simp[pv,Value.formed,Tryz.underlying125,cellsP]
 unfold keyOf
 simp only[Tryz.underlying125,keyT,hf,Bool.and_self,if_true]
 have hl:∀n,∃ls,Tryz.prog.keyLits (n+2) 125 (pv p).cells.toList=some ls:=by
  intro n
  simp[Program.keyLits,pv,Value.cells,Tryz.underlying125,Tryz.underlying42,Tryz.underlying3,cellsP,cellsA,cellsI,wa,wb]
 have hs:∃n,Tryz.prog.types.size+1=n+2:=⟨Tryz.prog.types.size - 1,by
  have:1≤Tryz.prog.types.size:=of_decide_eq_true (by kernel_rfl)
  omega⟩
 obtain⟨n,hn⟩:=hs
 obtain⟨ls,hls⟩:=hl n
 rw[hn,hls]
 exact⟨_,rfl⟩
def R0 (_:Value):Option (DataW Unit × List MemPlace):=some (.nil,[])
structure MI (w:World) (F:Nat→Prop) (b:Nat) (L:Tr.Row) (es:Array MapEntry) (clock:Nat):Prop where
 own:F b
 block:w.heap[b]?=some (.map es clock)
 fit:Fit Tryz.prog 125 R0 es clock
 size:es.size=L.length
 each:∀ (j:Nat) e x,es.toList[j]?=some e→L[j]?=some x→e.key=pv x.1∧wfP x.1∧w.ownsRow 0 3 1 e.val x.2.length (I64 x.2)∧∀g,e.val.ownBlock=some g→F g
 apart:∀ (i j:Nat) e f,i ≠ j→es.toList[i]?=some e→es.toList[j]?=some f→e.val.ownBlock=none∨e.val.ownBlock ≠ f.val.ownBlock
def MR (w:World) (F:Nat→Prop) (b:Nat) (L:Tr.Row):Prop:=∃es clock,MI w F b L es clock
section
variable {w w':World} {F F':Nat→Prop} {b:Nat} {L:Tr.Row} {es:Array MapEntry} {clock:Nat} {p:Tr.Pf}
theorem MI.kept (h:MI w F b L es clock) (hk:∀i,F i→w'.heap[i]?=w.heap[i]?) (hF:∀i,F i→F' i):MI w' F' b L es clock :=
 ⟨hF _ h.own,(hk _ h.own).trans h.block,h.fit,h.size,fun j e x he hx=>by
  obtain⟨h1,h2,h3,h4⟩:=h.each j e x he hx
  exact⟨h1,h2,own_at h3 (fun g hg=>hk g (h4 g hg)),fun g hg=>hF g (h4 g hg)⟩,h.apart⟩
theorem MI.at_ (h:MI w F b L es clock) {j:Nat} {e:MapEntry} (he:es.toList[j]?=some e):∃x,L[j]?=some x∧e.key=pv x.1∧wfP x.1∧w.ownsRow 0 3 1 e.val x.2.length (I64 x.2)∧∀g,e.val.ownBlock=some g→F g:=by
 have hj:j<L.length:=by
  have:=(List.getElem?_eq_some_iff.1 he).1
  rw[←h.size];simpa using this
 exact⟨L[j],by simp[hj],h.each j e L[j] he (by simp[hj])⟩
theorem MI.back (h:MI w F b L es clock) {j:Nat} {x:Tr.Pf × List Int} (hx:L[j]?=some x):∃e,es.toList[j]?=some e:=by
 have hj:=(List.getElem?_eq_some_iff.1 hx).1
 rw[←h.size]at hj
 exact⟨es[j],by simp[hj]⟩
theorem MI.apartL (h:MI w F b L es clock):Tr.Apart L:=by
 have hn:=h.fit.stamped.2.2
 unfold Tr.Apart
 have e:es.toList.map (·.key)=(L.map (·.1)).map pv:=by
  apply List.ext_getElem?
  intro j
  rw[List.map_map,List.getElem?_map,List.getElem?_map]
  cases hl:L[j]? with
  | none =>
   have:es.toList[j]?=none:=by
    rw[List.getElem?_eq_none_iff]at hl ⊢
    rw[←h.size]at hl
    simpa using hl
   rw[this];rfl
  | some x =>
   obtain⟨e,he⟩:=h.back hl
   rw[he]
   simp[(h.each j e x he hl).1]
 rw[e]at hn
 unfold List.Nodup at hn ⊢
 rw[List.pairwise_map]at hn
 exact hn.imp fun h e=>h (congrArg pv e)
theorem MI.find (h:MI w F b L es clock) (hp:wfP p):((∀x∈es.toList,x.key ≠ pv p)∧Tr.get L p=none)∨∃ (j:Nat) (e:MapEntry) (xs:List Int),es.toList[j]?=some e∧e.key=pv p∧L[j]?=some (p,xs)∧Tr.get L p=some xs:=by
 by_cases hx:∃x∈es.toList,x.key=pv p
 ·obtain⟨e,he,hk⟩:=hx
  obtain⟨j,hj⟩:=List.getElem?_of_mem he
  obtain⟨⟨q,xs⟩,hL,h1,_⟩:=h.at_ hj
  obtain rfl:q=p:=pv_inj (h1.symm.trans hk)
  exact .inr ⟨j,e,xs,hj,hk,hL,Tr.get_at h.apartL hL⟩
 ·refine .inl ⟨fun x hx' e=>hx ⟨x,hx',e⟩,Tr.get_none.2 fun x hx' e=>?_⟩
  obtain⟨j,hj⟩:=List.getElem?_of_mem hx'
  obtain⟨en,he⟩:=h.back hj
  exact hx ⟨en,List.mem_of_getElem? he,by rw[(h.each j en x he hj).1,e]⟩
theorem MI.same (h:MI w F b L es clock) {i j:Nat} {e f:MapEntry} (he:es.toList[i]?=some e) (hf:es.toList[j]?=some f) (hk:e.key=f.key):i=j∧e=f:=by
 have hnd:=h.fit.stamped.2.2
 have h1:(es.toList.map (·.key))[i]?=some f.key:=by rw[List.getElem?_map,he];simp[hk]
 have h2:(es.toList.map (·.key))[j]?=some f.key:=by rw[List.getElem?_map,hf];rfl
 obtain rfl:i=j:=(List.getElem?_inj (List.getElem?_eq_some_iff.1 h1).1 hnd).1 (h1.trans h2.symm)
 rw[he]at hf
 exact⟨rfl,Option.some.inj hf⟩
theorem MR.look (h:MR w F b L) (hp:wfP p):∃v,(∀W:World,W.heap[b]?=w.heap[b]?→(Instr.lookup 192 (.map (some b)) (pv p) true).run Tryz.prog W=.ok (.tuple #[v,.bool (Tr.get L p).isSome]) W) ∧
  w.ownsRow 0 3 1 v ((Tr.get L p).getD []).length (I64 ((Tr.get L p).getD []))∧∀g,v.ownBlock=some g→F g:=by
 obtain⟨es,clock,h⟩:=h
 obtain⟨kl,hkl⟩:=pv_key hp
 have look:=fun (W:World) (hW:W.heap[b]?=w.heap[b]?)=>Maps.fit_look true (Maps.Keyed.of_law lawP) Tryz.underlying192 (zeroR W) (hW.trans h.block) h.fit hkl
 rcases h.find hp with ⟨hn,hg⟩|⟨j,e,xs,he,hk,hL,hg⟩
 ·refine⟨.slice none 0 0,fun W hW=>?_,by rw[hg];exact World.ownsRow_nil _ _ _ _,fun g hg=>by simp[Value.ownBlock]at hg⟩
  rcases look W hW with ⟨hr,_⟩|⟨e0,y,hm,hk,hr,_⟩
  ·rw[hg];exact hr
  ·exact absurd hk (hn e0 hm)
 ·obtain⟨_,_,h3,h4⟩:=h.each j e _ he hL
  refine⟨e.val,fun W hW=>?_,by rw[hg];exact h3,h4⟩
  rcases look W hW with ⟨hr,hn,_⟩|⟨e0,y,hm,hk',hr,_⟩
  ·exact absurd hk (hn e (List.mem_of_getElem? he))
  ·obtain⟨i,hi⟩:=List.getElem?_of_mem hm
   obtain⟨_,rfl⟩:=h.same he hi (hk.trans hk'.symm)
   rw[hg];exact hr
def ent (L:Tr.Row) (p:Tr.Pf):Tr.Row:=if (Tr.get L p).isSome then L else L++[(p,[])]
theorem put_ent {L:Tr.Row} (ha:Tr.Apart L) {p:Tr.Pf} {j:Nat} {xs:List Int} (hj:(ent L p)[j]?=some (p,xs)) (n:Int):Tr.put L p n=(ent L p).set j (p,xs++[n])∧(Tr.get L p).getD []=xs:=by
 unfold ent at hj ⊢
 cases hg:Tr.get L p with
 | some ys =>
  simp only[hg,Option.isSome_some,if_true]at hj ⊢
  have:=Tr.get_at ha hj
  rw[hg]at this
  cases this
  exact⟨Tr.put_old ha n hj,rfl⟩
 | none =>
  simp only[hg,Option.isSome_none,Bool.false_eq_true,if_false]at hj ⊢
  have hne:=Tr.get_none.1 hg
  have hjl:j=L.length∧xs=[]:=by
   rcases Nat.lt_trichotomy j L.length with h|h|h
   ·rw[List.getElem?_append_left h]at hj
    exact absurd rfl (hne _ (List.mem_of_getElem? hj))
   ·subst h;simp at hj;exact⟨rfl,by first|exact hj|exact hj.symm⟩
   ·rw[List.getElem?_eq_none (by simp;omega)]at hj;cases hj
  obtain⟨rfl,rfl⟩:=hjl
  rw[Tr.put_new n hne]
  simp
def ME (w:World) (F:Nat→Prop) (b:Nat) (L:Tr.Row) (p:Tr.Pf) (v0:Value) (st:Nat) (xs:List Int):Prop :=
 ∃es clock,MI w F b L es clock∧∃ (j:Nat) (e0:MapEntry),es.toList[j]?=some e0∧L[j]?=some (p,xs)∧e0.val=v0∧e0.born=st
theorem ME.kept {v0:Value} {st:Nat} {xs:List Int} (h:ME w F b L p v0 st xs) (hk:∀i,F i→w'.heap[i]?=w.heap[i]?) (hF:∀i,F i→F' i):ME w' F' b L p v0 st xs:=by
 obtain⟨es,clock,h1,h2⟩:=h
 exact⟨es,clock,h1.kept hk hF,h2⟩
theorem ME.own {v0:Value} {st:Nat} {xs:List Int} (h:ME w F b L p v0 st xs):w.ownsRow 0 3 1 v0 xs.length (I64 xs)∧∀g,v0.ownBlock=some g→F g:=by
 obtain⟨es,clock,h1,j,e0,he,hL,rfl,rfl⟩:=h
 obtain⟨_,_,h3,h4⟩:=h1.each j e0 _ he hL
 exact⟨h3,h4⟩
theorem MR.entry (h:MR w F b L) (hp:wfP p) (hroom:L.length<maxLen):∃ (v0:Value) (st:Nat) (w1:World) (xs:List Int),(Instr.mapEntry 192 (.map (some b)) (pv p)).run Tryz.prog w=.ok (.tuple #[v0,goInt st]) w1 ∧
  ME w1 F b (ent L p) p v0 st xs∧w.grownBy w1 (some b)∧w1.heap.size=w.heap.size:=by
 obtain⟨es,clock,h⟩:=h
 obtain⟨kl,hkl⟩:=pv_key hp
 have hb:=h.block
 have hbl:b<w.heap.size:=(Array.getElem?_eq_some_iff.1 hb).1
 have K:=lawP
 have hgrow:∀o,w.grownBy (ChangeMaps.setBlock w b o) (some b):=fun o=>⟨rfl,rfl,rfl,by simp[ChangeMaps.setBlock],fun i _ hi=>heap_setBlock_other hb o (fun e1=>hi (by rw[e1]))⟩
 rcases K.find w hkl es.toList h.fit.keys with ⟨h1,h2⟩|⟨j,e0,h1,h2,h3⟩
 ·rcases h.find hp with ⟨_,hg⟩|⟨j,e,xs,he,hk,_⟩
  ·refine⟨.slice none 0 0,clock,ChangeMaps.setBlock w b (.map (es.push ⟨pv p,.slice none 0 0,clock⟩) (clock+1)),[],?_,?_,hgrow _,by simp[ChangeMaps.setBlock]⟩
   ·simp[Instr.mapEntry,run_underlying Tryz.underlying192,MapKept.run_getObj_map hb,K.check w false hkl,h1,MapKept.run_setObj_map _ hb,Result.andThen,ChangeMaps.setBlock]
   ·have hent:ent L p=L++[(p,[])]:=by unfold ent;rw[hg];rfl
    rw[hent]
    refine⟨_,_,⟨h.own,heap_setBlock_same hb _,⟨by have:=h.size;simp;omega,stamped_push h.fit.stamped h2,?_⟩,by simp[h.size],?_,?_⟩,L.length,⟨pv p,.slice none 0 0,clock⟩,by simp[←h.size],by simp,rfl,rfl⟩
    ·intro x hx
     simp only[Array.toList_push,List.mem_append,List.mem_singleton]at hx
     rcases hx with hx|rfl
     ·exact h.fit.reads x hx
     ·exact⟨_,WideElems.rd_mk hkl rfl⟩
    ·intro j e x he hx
     rw[Array.toList_push]at he
     rcases Nat.lt_or_ge j L.length with hj|hj
     ·rw[List.getElem?_append_left (by simpa [h.size] using hj)]at he
      rw[List.getElem?_append_left hj]at hx
      obtain⟨a1,a2,a3,a4⟩:=h.each j e x he hx
      refine⟨a1,a2,own_at a3 (fun g hg=>?_),a4⟩
      refine heap_setBlock_other hb _ (fun e1=>?_)
      subst e1
      rcases a3.2 with ⟨hv,_⟩|⟨g',cap,cur,hv,_,hh,_⟩
      ·rw[hv]at hg;simp[Value.ownBlock]at hg
      ·rw[hv]at hg;simp[Value.ownBlock]at hg;subst hg;rw[hb]at hh;cases hh
     ·rw[List.getElem?_append_right (by simpa [h.size] using hj)]at he
      rw[List.getElem?_append_right hj]at hx
      have e0:j - L.length=0:=by
       have:=(List.getElem?_eq_some_iff.1 hx).1
       simpa using this
      have e1:es.toList.length=L.length:=by simp[h.size]
      rw[e1,e0]at he
      rw[e0]at hx
      simp at he hx
      subst he;subst hx
      exact⟨rfl,hp,World.ownsRow_nil _ _ _ _,fun g hg=>by simp[Value.ownBlock]at hg⟩
    ·intro i j e f hij he hf
     rw[Array.toList_push]at he hf
     rcases Nat.lt_or_ge i es.toList.length with hi|hi
     ·rw[List.getElem?_append_left hi]at he
      rcases Nat.lt_or_ge j es.toList.length with hj|hj
      ·rw[List.getElem?_append_left hj]at hf
       exact h.apart i j e f hij he hf
      ·rw[List.getElem?_append_right hj]at hf
       have e0:j - es.toList.length=0:=by
        have:=(List.getElem?_eq_some_iff.1 hf).1
        simpa using this
       rw[e0]at hf
       simp at hf
       subst hf
       cases e.val.ownBlock <;> simp[Value.ownBlock]
     ·rw[List.getElem?_append_right hi]at he
      have e0:i - es.toList.length=0:=by
       have:=(List.getElem?_eq_some_iff.1 he).1
       simpa using this
      rw[e0]at he
      simp at he
      subst he
      exact .inl rfl
  ·exact absurd hk (h2 e (List.mem_of_getElem? he))
 ·rcases h.find hp with ⟨hn,_⟩|⟨i,e,xs,he,hk',hL,hg⟩
  ·exact absurd h3 (hn e0 (List.mem_of_getElem? h2))
  ·obtain⟨rfl,rfl⟩:=h.same he h2 (hk'.trans h3.symm)
   have hj:es[i]?=some e:=by simpa using h2
   have hsame:es.modify i (fun e=>{ e with key:=pv p })=es:=by
    apply Array.ext'
    rw[Array.toList_modify,ChangeMaps.modify_eq_set _ _ _ _ h2]
    have:({ e with key:=pv p }:MapEntry)=e:=by rw[←h3]
    rw[this]
    exact WideElems.set_self _ _ _ h2
   have hself:ChangeMaps.setBlock w b (.map es clock)=ChangeMaps.setBlock w b (.map es clock):=rfl
   refine⟨e.val,e.born,ChangeMaps.setBlock w b (.map es clock),xs,?_,?_,hgrow _,by simp[ChangeMaps.setBlock]⟩
   ·simp[Instr.mapEntry,run_underlying Tryz.underlying192,MapKept.run_getObj_map hb,K.check w false hkl,h1,hj,h3,K.stays w hkl,hsame,MapKept.run_setObj_map _ hb,Result.andThen,ChangeMaps.setBlock]
   ·have hent:ent L p=L:=by unfold ent;rw[hg];rfl
    rw[hent]
    refine⟨es,clock,h.kept (fun k _=>?_) (fun _ hk=>hk),i,e,he,hL,rfl,rfl⟩
    by_cases hkb:k=b
    ·subst hkb;rw[heap_setBlock_same hb,hb]
    ·exact heap_setBlock_other hb _ hkb
theorem ME.store {v0 v':Value} {st:Nat} {xs:List Int} {n:Int} (h:ME w F b L p v0 st xs) (hg:w.grownBy w' v0.ownBlock) (hv:w'.ownsRow 0 3 1 v' (xs.length+1) (I64 (xs++[n])))
  (hloc:v'.ownBlock=v0.ownBlock∨∃g,v'.ownBlock=some g∧w.heap.size≤g) (hlt:∀i,F i→i<w.heap.size) (hF:∀i,F i→F' i) (hF':∀i,w.heap.size≤i→i<w'.heap.size→F' i) :
  ∃w2,(Instr.entryStore 192 (.map (some b)) (goInt st) v').run Tryz.prog w'=.ok () w2∧(∃j:Nat,L[j]?=some (p,xs)∧MR w2 F' b (L.set j (p,xs++[n])))∧w'.grownBy w2 (some b)∧w2.heap.size=w'.heap.size:=by
 obtain⟨es,clock,h,j,e0,he,hL,rfl,rfl⟩:=h
 have hb:=h.block
 have notb:∀ {u:Value} {m:Nat} {ys:List Value},w.ownsRow 0 3 1 u m ys→u.ownBlock ≠ some b:=fun {u m ys} ho e1=>by
  rcases ho.2 with ⟨hv,_⟩|⟨g',cap,cur,hv,_,hh,_⟩
  ·rw[hv]at e1;simp[Value.ownBlock]at e1
  ·rw[hv]at e1;simp[Value.ownBlock]at e1;subst e1;rw[hb]at hh;cases hh
 obtain⟨k1,k2,k3,k4⟩:=h.each j e0 _ he hL
 have hblt:b<w.heap.size:=(Array.getElem?_eq_some_iff.1 hb).1
 have hb':w'.heap[b]?=some (.map es clock):=(hg.block b hblt (fun e1=>notb k3 e1.symm)).trans hb
 have hidx:es.findIdx? (fun e=>((e.born:Nat):Int)==((e0.born:Nat):Int))=some j:=by
  rw[WideElems.findIdx_arr]
  exact WideElems.findIdx_born h.fit.stamped.2.1 he
 have hgrow:∀o,w'.grownBy (ChangeMaps.setBlock w' b o) (some b):=fun o=>⟨rfl,rfl,rfl,by simp[ChangeMaps.setBlock],fun i _ hi=>heap_setBlock_other hb' o (fun e1=>hi (by rw[e1]))⟩
 have hlist:(es.modify j (fun e=>{ e with val:=v' })).toList=es.toList.set j { e0 with val:=v' }:=by rw[Array.toList_modify,ChangeMaps.modify_eq_set _ _ _ _ he]
 have hjl:j<es.toList.length:=(List.getElem?_eq_some_iff.1 he).1
 refine⟨ChangeMaps.setBlock w' b (.map (es.modify j (fun e=>{ e with val:=v' })) clock),?_,⟨j,hL,?_⟩,hgrow _,by simp[ChangeMaps.setBlock]⟩
 ·simp[Instr.entryStore,MapKept.run_getObj_map hb',asInt,asIntOf,goInt,hidx,MapKept.run_setObj_map _ hb',Result.andThen,ChangeMaps.setBlock]
 -- what another entry's row is behind all that
 have other:∀ (i:Nat) e x,i ≠ j→es.toList[i]?=some e→L[i]?=some x→(ChangeMaps.setBlock w' b (.map (es.modify j (fun e=>{ e with val:=v' })) clock)).ownsRow 0 3 1 e.val x.2.length (I64 x.2):=by
  intro i e x hij hi hx
  obtain⟨a1,a2,a3,a4⟩:=h.each i e x hi hx
  refine own_at a3 (fun g hg'=>?_)
  have hne:g ≠ b:=fun e1=>notb a3 (by rw[hg',e1])
  rw[heap_setBlock_other hb' _ hne]
  refine hg.block g (hlt g (a4 g hg')) (fun e1=>?_)
  rcases h.apart i j e e0 hij hi he with h|h
  ·rw[h]at hg';cases hg'
  ·exact h (hg'.trans e1)
 have notb':v'.ownBlock ≠ some b:=by
  rcases hloc with e1|⟨g,e1,e2⟩
  ·rw[e1];exact notb k3
  ·rw[e1];intro e3;cases e3;omega
 refine⟨_,_,⟨hF _ h.own,heap_setBlock_same hb' _,⟨by simpa using h.fit.size,stamped_modify h.fit.stamped _ _ (fun _ _=>rfl) (fun _ _ _=>rfl),?_⟩,by simp[h.size],?_,?_⟩⟩
 ·intro x hx
  rw[hlist]at hx
  obtain⟨i,hi,ex⟩:=List.getElem_of_mem hx
  rw[List.getElem_set]at ex
  split at ex
  ·subst ex
   obtain⟨y,hy⟩:=h.fit.reads e0 (List.mem_of_getElem? he)
   exact⟨_,WideElems.rd_mk (WideElems.rd_key hy) rfl⟩
  ·exact ex ▸ h.fit.reads _ (List.getElem_mem _)
 ·intro i e x hi hx
  rw[hlist,List.getElem?_set]at hi
  rw[List.getElem?_set]at hx
  by_cases hij:j=i
  ·subst hij
   have hjL:j<L.length:=by rw[←h.size];simpa using hjl
   simp only[if_true,hjl,hjL]at hi hx
   cases hi;cases hx
   refine⟨k1,k2,?_,fun g hg'=>?_⟩
   ·have:(xs++[n]).length=xs.length+1:=by simp
    simp only[this]
    refine own_at hv (fun g hg'=>heap_setBlock_other hb' _ (fun e1=>notb' (by rw[hg',e1])))
   ·rcases hloc with e1|⟨g',e1,e2⟩
    ·exact hF g (k4 g (e1 ▸ hg'))
    ·obtain rfl:g=g':=by rw[e1]at hg';cases hg';rfl
     exact hF' g e2 (hv.lt g hg').2
  ·simp only[hij,if_false]at hi hx
   obtain⟨a1,a2,a3,a4⟩:=h.each i e x hi hx
   exact⟨a1,a2,other i e x (fun e=>hij e.symm) hi hx,fun g hg'=>hF g (a4 g hg')⟩
 ·intro i k e f hik hi hk
  rw[hlist,List.getElem?_set]at hi hk
  have newold:∀ (i:Nat) e,i ≠ j→es.toList[i]?=some e→e.val.ownBlock=none∨e.val.ownBlock ≠ v'.ownBlock:=by
   intro i e hij hi
   rcases hloc with e1|⟨g,e1,e2⟩
   ·rw[e1];exact h.apart i j e e0 hij hi he
   ·obtain⟨x,_,_,_,_,a4⟩:=h.at_ hi
    cases hv':e.val.ownBlock with
    | none=>exact .inl rfl
    | some g'=>refine .inr (fun e3=>?_);rw[e1]at e3;cases e3;have:=hlt _ (a4 _ hv');omega
  by_cases hij:j=i
  ·subst hij
   simp only[hik,if_false]at hk
   simp only[if_true,hjl]at hi
   cases hi
   rcases newold k f (fun e=>hik e.symm) hk with h|h
   ·by_cases h0:v'.ownBlock=none
    ·exact .inl h0
    ·exact .inr (by rw[h];exact h0)
   ·exact .inr (fun e=>h e.symm)
  ·simp only[hij,if_false]at hi
   by_cases hkj:j=k
   ·subst hkj
    simp only[if_true,hjl]at hk
    cases hk
    exact newold i e (fun e=>hij e.symm) hi
   ·simp only[hkj,if_false]at hk
    exact h.apart i k e f hik hi hk
end
end Go.Proofs.YtfidicbknjoafaaGreatDoor
namespace Go.Proofs.YtfidicbknjoafaaGreatDoor
open Go.RowKit
structure TR (w:World) (F:Nat→Prop) (N:Nat) (L:Tr.Row):Prop where
 own:F N
 lt:∀i,F i→i<w.heap.size
 var:∃m,Blk w N 194 #[m]∧((m=.map none∧L=[])∨∃b,m=.map (some b)∧b ≠ N∧MR w F b L)
theorem TR.kept {w w':World} {F:Nat→Prop} {N:Nat} {L:Tr.Row} (h:TR w F N L) (hk:∀i,F i→w'.heap[i]?=w.heap[i]?) (hz:w.heap.size≤w'.heap.size):TR w' F N L:=by
 obtain⟨h1,h2,m,h3,h4⟩:=h
 refine⟨h1,fun i hi=>Nat.lt_of_lt_of_le (h2 i hi) hz,m,(hk N h1).trans h3,?_⟩
 rcases h4 with h4|⟨b,e,hn,es,clock,h4⟩
 ·exact .inl h4
 ·exact .inr ⟨b,e,hn,es,clock,h4.kept hk (fun _ h=>h)⟩
theorem TR.next {w w':World} {F:Nat→Prop} {N:Nat} {L:Tr.Row} (h:TR w F N L) (hb:Below w.heap.size w w'):TR w' F N L :=
 h.kept (fun i hi=>hb.block i (h.lt i hi)) hb.size
theorem TR.new (w:World):TR (w.alloc (.cells #[.map none] 194)) (·=w.heap.size) w.heap.size [] :=
 ⟨rfl,fun i hi=>by subst hi;simp,_,Blk.new _ _ _,.inl ⟨rfl,rfl⟩⟩
theorem tclone_any (v:Value) (xs:List Int) (w:World) (h:w.ownsRow 0 3 1 v xs.length (I64 xs)) (hn:xs.length≤1048576) :
  Calls Tryz.prog 223 #[v] w fun e w'=>∃v',e=.returned v'∧w'.ownsRow w.heap.size 3 1 v' xs.length (I64 xs)∧Below w.heap.size w w':=by
 obtain⟨i0,hi,hz0,hz1,hz2⟩:=info_parts info_int
 have q22:∀ (w:World) (a:Option Addr) (n c n' c':Nat),(binOp .eql 52 (.slice a n c) (.slice none n' c')).run Tryz.prog w=.ok (.bool a.isNone) w:=fun w a n c n' c'=>Lib.run_eql_slice_nil w _ _ a n c n' c' Tryz.underlying52
 have h0:=h
 rcases h.2 with ⟨rfl,hl⟩|⟨g,cap,cur,rfl,_,hg,hnc,hcm,_⟩
 ·obtain rfl:xs=[]:=List.eq_nil_of_length_eq_zero hl
  clear h h0 hl
  go_enter Tryz.func223,Tryz.ntmps223
  go_wp2
  go_ret
  exact⟨_,rfl,World.ownsRow_nil _ _ _ _,Below.refl _ _⟩
 ·have hc:∀j u,(I64 xs)[j]?=some u→w.cell? ((⟨g,0,none⟩:Addr).add j)=some u:=h0.cells rfl
  have A:=Lib.hid hc
  generalize hm:xs.length=m at *
  have hl:(I64 xs).length=m*1:=by rw[I64_len];omega
  have hmm:=Lib.hid hm
  clear hc h h0 hg hm
  go_enter Tryz.func223,Tryz.ntmps223
  go_wp2_with (at_builtin;refine wpList_append_own _ rfl _ _ 52 rfl w.heap.size 3 i0 (.int .i64 0) 1 8 Tryz.underlying52 hi hz0 hz1 hz2 rfl (by decide) _ _ _ rfl (World.ownsRow_made w #[] 0 (Nat.le_refl _) (Nat.zero_le _) rfl) ⟨g,0,none⟩ m cap (I64 xs) rfl hl (fun j u hj=>Lib.cell?_alloc_some _ (A.out j u hj)) (I64_one xs) (by unfold maxLen;omega) (by omega) (by simp) ?_;intro v' w1 hown hgrow hnil)
  go_wp2
  go_ret
  rw[Nat.zero_add,List.nil_append]at hown
  have hb:Below w.heap.size w w1:=((Below.refl _ w).alloc (Nat.le_refl _) _).grown hgrow (by simp) (by intro k hk;have e:w.heap.size=k:=Option.some.inj hk;omega)
  exact⟨v',rfl,hown,hb⟩
theorem TR.look {w:World} {F:Nat→Prop} {N:Nat} {L:Tr.Row} {p:Tr.Pf} (h:TR w F N L) (hp:wfP p):∃m v,(∀W,Below w.heap.size w W→W.cell? ⟨N,0,none⟩=some m) ∧
  (∀W,Below w.heap.size w W→(Instr.lookup 192 m (pv p) true).run Tryz.prog W=.ok (.tuple #[v,.bool (Tr.get L p).isSome]) W) ∧
  w.ownsRow 0 3 1 v ((Tr.get L p).getD []).length (I64 ((Tr.get L p).getD [])):=by
 obtain⟨h1,h2,m,h3,h4⟩:=h
 have hc:=h3.cell 0
 simp at hc
 have hcc:∀W,Below w.heap.size w W→W.cell? ⟨N,0,none⟩=some m:=fun W hW=>(hW.cell (p:=⟨N,0,none⟩) (h2 N h1)).trans hc
 rcases h4 with ⟨rfl,rfl⟩|⟨b,rfl,hn,h4⟩
 ·obtain⟨kl,hkl⟩:=pv_key hp
  refine⟨_,.slice none 0 0,hcc,fun W _=>?_,World.ownsRow_nil _ _ _ _⟩
  rcases lawP.find W hkl [] (by simp) with ⟨f1,_⟩|⟨j,e0,_,f2,_⟩
  ·simp[Instr.lookup,run_underlying Tryz.underlying192,lawP.check W _ hkl,f1,Result.andThen,Tr.get]
  ·simp at f2
 ·obtain⟨v,hr,h5,h6⟩:=h4.look hp
  obtain⟨es,clock,hI⟩:=h4
  exact⟨_,v,hcc,fun W hW=>hr W (hW.block b (h2 b hI.own)),h5⟩
theorem get_any (w:World) (F:Nat→Prop) (N:Nat) (L:Tr.Row) (p:Tr.Pf) (h:TR w F N L) (hp:wfP p) (hn:((Tr.get L p).getD []).length≤1048576) :
  Calls Tryz.prog 187 #[.pointer (some ⟨N,0,none⟩),pv p] w fun e w'=>∃v,e=.returned (.tuple #[v,.bool (Tr.get L p).isSome])∧w'.ownsRow w.heap.size 3 1 v ((Tr.get L p).getD []).length (I64 ((Tr.get L p).getD []))∧Below w.heap.size w w':=by
 obtain⟨m,v,hc,hr,hown⟩:=h.look hp
 have hB1:Below w.heap.size w (w.alloc (.cells #[.int .u32 p.1,.int .i64 p.2] 125)):=(Below.refl _ _).alloc (Nat.le_refl _) _
 unfold pv at hr ⊢
 have c0:=hc _ hB1
 have c1:=hr _ hB1
 have c2:=fun n=>hr _ (below_drewN hB1 n)
 have HO:=Lib.hid hown
 have HB:=Lib.hid hB1
 generalize (Tr.get L p).getD []=xs at *
 generalize (Tr.get L p).isSome=is at *
 clear h hown hB1 hc hr
 go_enter Tryz.func187,Tryz.ntmps187
 go_wp2_with fail
 go_quiet (fail)
 go_wp2_with fail
 have hB2:=below_drewN HB.out nq
 refine (tclone_any v xs _ (own_next HO.out hB2) hn).mono ?_
 rintro e w1 ⟨v1,rfl,hown1,hb1⟩
 go_wp2
 go_ret2
 exact⟨v1,rfl,own_up hown1 (by simp),hB2.trans (hb1.mono (by simp))⟩
end Go.Proofs.YtfidicbknjoafaaGreatDoor
namespace Go.Proofs.YtfidicbknjoafaaGreatDoor
open Go.RowKit
def Rest (F:Nat→Prop) (N:Nat) (i:Nat):Prop:=F i∧i ≠ N
theorem Off.drew {F:Nat→Prop} {w w':World} (h:Off F w w'):Off F w w'.drew:=⟨h.os,h.tape,h.output,h.size,h.block⟩
theorem Off.alloc {F:Nat→Prop} {w w':World} (h:Off F w w') (o:Obj):Off F w (w'.alloc o) :=
 ⟨h.os,h.tape,h.output,Nat.le_trans h.size (by simp),fun i hi hn=>(Below.heap_alloc _ _ _ (Nat.lt_of_lt_of_le hi h.size)).trans (h.block i hi hn)⟩
theorem Off.cell {F:Nat→Prop} {w w':World} (h:Off F w w') {p:Addr} (hp:p.block<w.heap.size) (hn:¬ F p.block):w'.cell? p=w.cell? p:=World.cell?_of_block (h.block _ hp hn)
def Tr.putv (L:Tr.Row) (p:Tr.Pf) (x:Int):Tr.Row:=if Ad.valid p.1 p.2=true then Tr.put L p x else L
def PutPost (w:World) (F:Nat→Prop) (N:Nat) (L:Tr.Row) (w':World):Prop:=∃F',TR w' F' N L∧Off F w w'∧∀i,F' i→F i∨w.heap.size≤i
theorem PutPost.after {w w1 w2:World} {F F1:Nat→Prop} {N:Nat} {L:Tr.Row} (h:PutPost w1 F1 N L w2) (h0:Off F w w1) (hF:∀i,F1 i→F i∨w.heap.size≤i):PutPost w F N L w2:=by
 obtain⟨F',h1,h2,h3⟩:=h
 refine⟨F',h1,h0.trans h2 (fun i hi h=>(hF i h).resolve_right (by omega)),fun i hi=>?_⟩
 rcases h3 i hi with h|h
 ·exact hF i h
 ·exact .inr (Nat.le_trans h0.size h)
structure PB (w1:World) (F:Nat→Prop) (N b:Nat) (L:Tr.Row) (p:Tr.Pf):Prop where
 own:F N
 lt:∀i,F i→i<w1.heap.size
 var:Blk w1 N 194 #[.map (some b)]
 ne:b ≠ N
 map:MR w1 F b L
 wf:wfP p
 few:L.length≤1000000
 short:((Tr.get L p).getD []).length≤1000000
section
variable {w1 W:World} {F:Nat→Prop} {N b:Nat} {L:Tr.Row} {p:Tr.Pf} {x:Int} {ops:Array Oper} {o:Oper} {a:Act} {K:Act→World→Prop} {Q:Exit→Act→World→Prop} {E:Prop}
theorem PB.inb (B:PB w1 F N b L p):F b:=by obtain⟨_,_,h⟩:=B.map;exact h.own
theorem PB.apart (B:PB w1 F N b L p):Tr.Apart L:=by obtain⟨_,_,h⟩:=B.map;exact h.apartL
theorem PB.next {w2:World} (B:PB w1 F N b L p) (hb:Below w1.heap.size w1 w2):PB w2 F N b L p:=by
 obtain⟨h1,h2,h3,h4,⟨es,clock,h5⟩,h6,h7,h8⟩:=B
 exact⟨h1,fun i hi=>Nat.lt_of_lt_of_le (h2 i hi) hb.size,h3.next hb,h4,⟨es,clock,h5.kept (fun i hi=>hb.block i (h2 i hi)) (fun _ h=>h)⟩,h6,h7,h8⟩
theorem PB.entry (B:PB w1 F N b L p) (hW:Below w1.heap.size w1 W):∃ (v0:Value) (st:Nat) (w2:World) (xs:List Int),(Instr.mapEntry 192 (.map (some b)) (pv p)).run Tryz.prog W=.ok (.tuple #[v0,.int .i64 st]) w2 ∧
  ME w2 F b (ent L p) p v0 st xs∧Off (Rest F N) w1 w2∧W.grownBy w2 (some b)∧w2.heap.size=W.heap.size:=by
 obtain⟨v0,st,w2,xs,hrun,hME,hgr,hsz⟩:=(B.next hW).map.entry B.wf (by have:=B.few;unfold maxLen;omega)
 exact⟨v0,st,w2,xs,hrun,hME,(Off.of_below (Rest F N) hW).trans (Off.of_grown (F:=Rest F N) hgr (fun g hg=>by cases hg;exact⟨B.inb,B.ne⟩)) (fun _ _ h=>h),hgr,hsz⟩
structure AP (w1 W W':World) (F:Nat→Prop) (N:Nat) (v0 v':Value) (xs:List Int) (x:Int):Prop where
 row:W'.ownsRow 0 3 1 v' (xs.length+1) (I64 (xs++[x]))
 grown:W.grownBy W' v0.ownBlock
 loc:v'.ownBlock=v0.ownBlock∨∃g,v'.ownBlock=some g∧W.heap.size≤g
 off:Off (Rest F N) w1 W'
theorem PB.short_ent (B:PB w1 F N b L p) {w2:World} {v0:Value} {st:Nat} {xs:List Int} (h:ME w2 F b (ent L p) p v0 st xs):xs.length≤1000000∧∃j:Nat,(ent L p)[j]?=some (p,xs):=by
 obtain⟨es,clock,h1,j,e0,he,hL,_⟩:=h
 exact⟨by rw[← (put_ent B.apart hL 0).2];exact B.short,j,hL⟩
theorem step_appT (B:PB w1 F N b L p) {v0:Value} {st:Nat} {xs:List Int} (hME:ME W F b (ent L p) p v0 st xs) (hS:Off (Rest F N) w1 W) (hgd:o.guard=none) (s y:Operand)
  (ho:o.op=.call { callee:=.builtin .append,args:=#[s,y],argTypes:=#[52,52] }) (hs:a.eval s=v0) (g c:Nat) (hy:a.eval y=.slice (some ⟨g,0,none⟩) 1 c)
  (hc:W.cell? ⟨g,0,none⟩=some (.int .i64 x))
  (h:∀v' W',AP w1 W W' F N v0 v' xs x→K (a.put o.dst v') W') :
  if Region.wanted o (yielded ops a.tmps)=true then Oper.wp Tryz.prog o a W K Q else E:=by
 rw[if_pos (by simp[Region.wanted,hgd])]
 obtain⟨i0,hi,hz0,hz1,hz2⟩:=info_parts info_int
 obtain⟨hrow,hF⟩:=hME.own
 have hsh:=(B.short_ent hME).1
 obtain⟨v',W',hr,h2,h3,_,h5⟩:=run_append_own_at (P:=Tryz.prog) W 0 52 o.type 3 i0 (.int .i64 0) 1 8 Tryz.underlying52 hi hz0 hz1 hz2 rfl (by decide) v0 xs.length (I64 xs) hrow ⟨g,0,none⟩ 1 c [.int .i64 x] rfl
  (fun j u hj=>by
   match j,hj with
   | 0,hj=>simp at hj;subst hj;simpa [Addr.add] using hc) (by intro u hu;simp at hu;subst hu;rfl) (by unfold maxLen;omega) (by omega) (Nat.zero_le _)
 have hk:=h v' W' ⟨by rw[I64_app];exact h2,h3,h5.imp_right (fun e=>⟨_,e,Nat.le_refl _⟩),hS.trans (Off.of_grown (F:=Rest F N) h3 (fun g hg=>⟨hF g hg,fun e=>?_⟩)) (fun _ _ h=>h)⟩
 ·simp only[Oper.wp,execOp,ho,resolve,invoke,builtin,Sem.run_bind,Sem.run_pure,Result.andThen_ok,List.map_toArray,List.map_cons,List.map_nil,hs,hy,hr]
  exact hk
 ·subst e
  have hN:W.heap[g]?=w1.heap[g]?:=hS.block g (B.lt g B.own) (fun h=>h.2 rfl)
  rcases hrow.2 with ⟨hv,_⟩|⟨g',cap,cur,hv,_,hh,_⟩
  ·rw[hv]at hg;simp[Value.ownBlock]at hg
  ·rw[hv]at hg
   simp[Value.ownBlock]at hg
   subst hg
   have hV:=B.var
   unfold Blk at hV
   rw[hN,hV]at hh
   simp at hh
noncomputable def stw (b st:Nat) (v':Value) (W:World):World:=match (Instr.entryStore 192 (.map (some b)) (.int .i64 st) v').run Tryz.prog W with | .ok _ w=>w | _=>W
theorem PB.store (B:PB w1 F N b L p) {W0:World} {v0 v':Value} {st:Nat} {xs:List Int} (hME:ME W0 F b (ent L p) p v0 st xs) (hS:Off (Rest F N) w1 W0) (hA:AP w1 W0 W F N v0 v' xs x) :
  (Instr.entryStore 192 (.map (some b)) (.int .i64 st) v').run Tryz.prog W=.ok () (stw b st v' W)∧Off (Rest F N) w1 (stw b st v' W)∧PutPost w1 F N (Tr.put L p x) (stw b st v' W):=by
 have hlt:∀i,F i→i<W0.heap.size:=fun i hi=>Nat.lt_of_lt_of_le (B.lt i hi) hS.size
 obtain⟨W',hrun,⟨j,hj,hM⟩,hgr,hsz⟩:=hME.store (F':=fun i=>F i∨(w1.heap.size≤i∧i<W.heap.size)) hA.grown hA.row hA.loc hlt (fun i h=>.inl h) (fun i h h2=>.inr ⟨Nat.le_trans hS.size h,h2⟩)
 rw[← (put_ent B.apart hj x).1]at hM
 have hrun':(Instr.entryStore 192 (.map (some b)) (.int .i64 st) v').run Tryz.prog W=.ok () W':=hrun
 have he:stw b st v' W=W':=by unfold stw;rw[hrun']
 rw[he]
 have hO:Off (Rest F N) w1 W':=hA.off.trans (Off.of_grown (F:=Rest F N) hgr (fun g hg=>by cases hg;exact⟨B.inb,B.ne⟩)) (fun _ _ h=>h)
 refine⟨hrun',hO,_,⟨.inl B.own,?_,_,?_,.inr ⟨b,rfl,B.ne,hM⟩⟩,?_,?_⟩
 ·intro i hi
  rw[hsz]
  rcases hi with hi|hi
  ·exact Nat.lt_of_lt_of_le (B.lt i hi) hA.off.size
  ·exact hi.2
 ·exact (hO.block N (B.lt N B.own) (fun h=>h.2 rfl)).trans B.var
 ·exact⟨hO.os,hO.tape,hO.output,hO.size,fun i hi hn=>hO.block i hi (fun h=>hn h.1)⟩
 ·intro i hi
  rcases hi with hi|hi
  ·exact .inl hi
  ·exact .inr hi.1
end
theorem PB.fresh {w w1:World} {F:Nat→Prop} {N:Nat} {p:Tr.Pf} (h:TR w F N []) (hv:Blk w N 194 #[.map none]) (hb:Below w.heap.size w w1) (hp:wfP p) :
  PB ((w1.setCell ⟨N,0,none⟩ (.map (some w1.heap.size))).alloc (.map #[] 0)) (fun i=>F i∨i=w1.heap.size) N w1.heap.size [] p∧Off F w ((w1.setCell ⟨N,0,none⟩ (.map (some w1.heap.size))).alloc (.map #[] 0)):=by
 have hN:N<w1.heap.size:=Nat.lt_of_lt_of_le (h.lt N h.own) hb.size
 have hne:w1.heap.size ≠ N:=by omega
 have hz:((w1.setCell ⟨N,0,none⟩ (.map (some w1.heap.size))).alloc (.map #[] 0)).heap.size=w1.heap.size+1:=by simp
 refine⟨⟨.inl h.own,fun i hi=>?_,((hv.next hb).set_to 0 _ rfl).alloc _,hne,⟨#[],0,.inr rfl,?_,⟨by simp,MapKept.stamped_empty 0,by simp⟩,rfl,by simp,by simp⟩,hp,by simp,by simp[Tr.get]⟩,?_⟩
 ·rw[hz]
  rcases hi with hi|hi
  ·have:=h.lt i hi;have:=hb.size;omega
  ·omega
 ·have:=(MapKept.heap_alloc (w1.setCell ⟨N,0,none⟩ (.map (some w1.heap.size))) (.map #[] 0)).1
  simpa using this
 ·exact⟨hb.os,hb.tape,hb.output,by rw[hz];have:=hb.size;omega,fun i hi hn=>by
   rw[Below.heap_alloc _ _ _ (by have:=hb.size;simp;omega),Below.heap_setCell _ _ _ _ (by simp;intro e;exact hn (e ▸ h.own))]
   exact hb.block i hi⟩
set_option maxHeartbeats 1000000 in
theorem put_any (w:World) (F:Nat→Prop) (N:Nat) (L:Tr.Row) (a n x:Int) (h:TR w F N L) (hp:wfP (a,n)) (hL:L.length≤1000000) (hx:((Tr.get L (a,n)).getD []).length≤1000000) :
    Calls Tryz.prog 115 #[.pointer (some ⟨N,0,none⟩),.agg #[.int .u32 a,.int .i64 n],.int .i64 x] w fun e w'=>e=.returned (.bool (Ad.valid a n))∧PutPost w F N (Tr.putv L (a,n) x) w':=by
  have q29:=fun (w:World) (r:Option Nat)=>Go.run_eql_map_nil w 192 125 52 r Tryz.underlying192
  have g1:=hp.1
  have hB1:Below w.heap.size w (w.alloc (.cells #[.int .u32 a,.int .i64 n] 125)):=(Below.refl _ _).alloc (Nat.le_refl _) _
  by_cases hv:Ad.valid a n=true
  · have HV := Lib.hid hv
    obtain⟨m,hm,hcase⟩:=h.var
    have HL:=Lib.hid (show Tr.putv L (a,n) x=Tr.put L (a,n) x by unfold Tr.putv;rw[if_pos hv])
    have HH:=Lib.hid h
    have HB:=Lib.hid hB1
    have HBn:Hid (∀w1,Below (w.alloc (.cells #[.int .u32 a,.int .i64 n] 125)).heap.size (w.alloc (.cells #[.int .u32 a,.int .i64 n] 125)) w1→w.heap.size<w1.heap.size∧w1.cell? ⟨w.heap.size,0,none⟩=some (.int .u32 a)∧w1.cell? ⟨w.heap.size,1,none⟩=some (.int .i64 n)∧Below w.heap.size w w1) :=
      Lib.hid fun w1 hb=>⟨by have:=hb.size;simp at this;omega,(hb.cell (p:=⟨w.heap.size,0,none⟩) (by simp)).trans (by go_simp),(hb.cell (p:=⟨w.heap.size,1,none⟩) (by simp)).trans (by go_simp),hB1.trans (hb.mono hB1.size)⟩
    clear hv hB1
    rcases hcase with ⟨rfl,rfl⟩|⟨b,rfl,hbN,hM⟩
    · clear h
      go_enter Tryz.func115,Tryz.ntmps115
      go_wp2_with fail
      refine (valid_any a n _ g1.1 g1.2).mono ?_
      rintro e w1 ⟨rfl,hb1⟩
      rw[HV.out]
      obtain⟨hw1,d1,d2,hB2⟩:=HBn.out w1 hb1
      obtain⟨B,hO⟩:=PB.fresh HH.out hm hB2 hp
      have e0:w1.cell? ⟨N,0,none⟩=some (.map none):=by simpa using (hm.next hB2).cell 0
      have e1:=(hm.next hB2).frozen 0
      have hN:N<w1.heap.size:=(hm.next hB2).lt
      have hmm:=@run_makeMap Tryz.prog
      have hz:w1.heap.size<((w1.setCell ⟨N,0,none⟩ (.map (some w1.heap.size))).alloc (.map #[] 0)).heap.size:=by simp
      have d1':((w1.setCell ⟨N,0,none⟩ (.map (some w1.heap.size))).alloc (.map #[] 0)).cell? ⟨w.heap.size,0,none⟩=some (.int .u32 a):=by
        have:=HH.out.lt N HH.out.own
        go_simp
      have d2':((w1.setCell ⟨N,0,none⟩ (.map (some w1.heap.size))).alloc (.map #[] 0)).cell? ⟨w.heap.size,1,none⟩=some (.int .i64 n):=by
        have:=HH.out.lt N HH.out.own
        go_simp
      clear d1 d2 hm
      go_wp2_with fail
      obtain⟨F1,hF1⟩:∃F1:Nat→Prop,F1=fun i=>F i∨i=w1.heap.size:=⟨_,rfl⟩
      have hsub:∀i,F1 i→F i∨w.heap.size≤i:=fun i h=>by
        rw[hF1]at h
        exact h.imp_right (by omega)
      have hnF:¬ Rest F1 N w.heap.size:=fun h=>by
        have h:=h.1
        rw[hF1]at h
        rcases h with h|h
        · have := HH.out.lt _ h; omega
        · omega
      rw[←hF1]at B
      have hw3:=Nat.lt_trans hw1 hz
      clear hw1 hz hN e0 e1 hmm hb1 hB2 hF1
      generalize ((w1.setCell ⟨N,0,none⟩ (.map (some w1.heap.size))).alloc (.map #[] 0))=w3 at *
      generalize w1.heap.size=b at *
      have d1:=d1'
      have d2:=d2'
      clear d1' d2'
      have c0:∀W,Off (Rest F1 N) w3 W→W.cell? ⟨N,0,none⟩=some (.map (some b)):=fun W hW=>(hW.cell (B.lt N B.own) (fun h=>h.2 rfl)).trans (by simpa using B.var.cell 0)
      have c1:∀W,Off (Rest F1 N) w3 W→W.cell? ⟨w.heap.size,0,none⟩=some (.int .u32 a):=fun W hW=>(hW.cell hw3 hnF).trans d1
      have c2:∀W,Off (Rest F1 N) w3 W→W.cell? ⟨w.heap.size,1,none⟩=some (.int .i64 n):=fun W hW=>(hW.cell hw3 hnF).trans d2
      have hS:=Off.refl (Rest F1 N) w3
      have hb3:Below w3.heap.size w3 (w3.alloc (.cells #[.int .i64 x] 3)).drew:=((Below.refl _ _).alloc (Nat.le_refl _) _).drew
      obtain⟨v0,st,w2,xs,hrun,hME,hS2,hgr,hsz⟩:=B.entry hb3
      have hx2:w2.cell? ⟨w3.heap.size,0,none⟩=some (.int .i64 x):=hgr.cell (by go_simp) (fun e=>by have:=B.lt _ B.inb;simp at e;omega)
      have hst:∀W v',AP w3 w2 W F1 N v0 v' xs x→(Instr.entryStore 192 (.map (some b)) (.int .i64 st) v').run Tryz.prog W=.ok () (stw b st v' W):=fun W v' h=>(B.store hME hS2 h).1
      have HM:=Lib.hid hME
      unfold pv at hrun
      clear hnF hw3 d1 d2 hb3 hgr hsz hME
      go_wp2_with fail
      go_region_held3 (fun W' => Off (Rest F1 N) w3 W') (first | exact hS.drew | with_reducible assumption | exact Off.drew (Off.alloc (by with_reducible assumption) _) | exact (B.store HM.out hS2 hAP).2.1)
       (first
        | (refine step_appT B HM.out (by with_reducible assumption) (by rfl) _ _ (by rfl) (by rfl) _ _ (by rfl) hx2 ?_;intro v1 w3 hAP;have hS3:=hAP.off))
      go_wp2
      go_ret
      rw[HV.out,HL.out]
      exact⟨rfl,((B.store HM.out hS2 hAP).2.2).after hO hsub⟩
    · have HP : Hid (∀ w1, Below w.heap.size w w1 → PB w1 F N b L (a, n)) := Lib.hid fun w1 hb => (PB.mk h.own h.lt hm hbN hM hp hL hx : PB w F N b L (a, n)).next hb
      clear hm h hM
      go_enter Tryz.func115,Tryz.ntmps115
      go_wp2_with fail
      refine (valid_any a n _ g1.1 g1.2).mono ?_
      rintro e w1 ⟨rfl,hb1⟩
      rw[HV.out]
      obtain⟨hw1,d1,d2,hB2⟩:=HBn.out w1 hb1
      have B:=HP.out w1 hB2
      have c0:∀W,Off (Rest F N) w1 W→W.cell? ⟨N,0,none⟩=some (.map (some b)):=fun W hW=>(hW.cell (B.lt N B.own) (fun h=>h.2 rfl)).trans (by simpa using B.var.cell 0)
      have hnF:¬ Rest F N w.heap.size:=fun h=>by have:=HH.out.lt _ h.1;omega
      have c1:∀W,Off (Rest F N) w1 W→W.cell? ⟨w.heap.size,0,none⟩=some (.int .u32 a):=fun W hW=>(hW.cell hw1 hnF).trans d1
      have c2:∀W,Off (Rest F N) w1 W→W.cell? ⟨w.heap.size,1,none⟩=some (.int .i64 n):=fun W hW=>(hW.cell hw1 hnF).trans d2
      have hS:=Off.refl (Rest F N) w1
      have hb3:Below w1.heap.size w1 (w1.alloc (.cells #[.int .i64 x] 3)).drew:=((Below.refl _ _).alloc (Nat.le_refl _) _).drew
      obtain⟨v0,st,w2,xs,hrun,hME,hS2,hgr,hsz⟩:=B.entry hb3
      have hx2:w2.cell? ⟨w1.heap.size,0,none⟩=some (.int .i64 x):=hgr.cell (by go_simp) (fun e=>by have:=B.lt _ B.inb;simp at e;omega)
      have hst:∀W v',AP w1 w2 W F N v0 v' xs x→(Instr.entryStore 192 (.map (some b)) (.int .i64 st) v').run Tryz.prog W=.ok () (stw b st v' W):=fun W v' h=>(B.store hME hS2 h).1
      have HM:=Lib.hid hME
      unfold pv at hrun
      clear hnF hw1 d1 d2 hb1 hb3 hgr hsz hME
      go_wp2_with fail
      go_region_held3 (fun W' => Off (Rest F N) w1 W') (first | exact hS.drew | with_reducible assumption | exact Off.drew (Off.alloc (by with_reducible assumption) _) | exact (B.store HM.out hS2 hAP).2.1)
       (first
        | (refine step_appT B HM.out (by with_reducible assumption) (by rfl) _ _ (by rfl) (by rfl) _ _ (by rfl) hx2 ?_;intro v1 w3 hAP;have hS3:=hAP.off))
      go_wp2
      go_ret
      rw[HV.out,HL.out]
      exact⟨rfl,((B.store HM.out hS2 hAP).2.2).after (Off.of_below F hB2) (fun i h=>.inl h)⟩
  · have hv' : Ad.valid a n = false := by simpa using hv
    have HV:=Lib.hid hv'
    have HL:=Lib.hid (show Tr.putv L (a,n) x=L by unfold Tr.putv;rw[if_neg hv])
    have HH:=Lib.hid h
    have HB:=Lib.hid hB1
    clear hv hv' h hB1
    go_enter Tryz.func115,Tryz.ntmps115
    go_wp2_with fail
    refine (valid_any a n _ g1.1 g1.2).mono ?_
    rintro e w1 ⟨rfl,hb1⟩
    rw[HV.out]
    go_wp2
    go_ret
    have hb:=HB.out.trans (hb1.mono HB.out.size)
    rw[HL.out,HV.out]
    exact⟨rfl,F,HH.out.next hb,Off.of_below F hb,fun i hi=>.inl hi⟩
end Go.Proofs.YtfidicbknjoafaaGreatDoor
namespace Go.Proofs.YtfidicbknjoafaaGreatDoor
open Go.RowKit
namespace Tr
def ar (a:Int) (k:Nat):Int:=a - a % 2 ^ (32 - k)
def lk (L:Row) (a:Int):Nat→Option (Nat × List Int)
 | 0=>none
 | k+1=>match get L (ar a k,(k:Int)) with
  | some xs=>some (k,xs)
  | none=>lk L a k
def look (L:Row) (a:Int):Option (Nat × List Int):=lk L a 33
end Tr
theorem ar_shift (a:Int) (k:Nat) (_hk:k≤32) (h0:0≤a) (h1:a≤4294967295):a / 2 ^ (32 - k)*2 ^ (32 - k) % 4294967296=Tr.ar a k:=by
 unfold Tr.ar
 have hp:=Ad.two_pos (32 - k)
 have e:=Int.mul_ediv_add_emod a (2 ^ (32 - k))
 have l:=Int.emod_nonneg a (show (2:Int) ^ (32 - k) ≠ 0 by omega)
 have hd:=Int.ediv_nonneg h0 (show (0:Int)≤2 ^ (32 - k) by omega)
 have hm:=Int.mul_nonneg hd (show (0:Int)≤2 ^ (32 - k) by omega)
 rw[Int.mul_comm]at e
 rw[Int.emod_eq_of_lt hm (by omega)]
 omega
theorem ar_bd (a:Int) (k:Nat) (h0:0≤a) (h1:a≤4294967295):0≤Tr.ar a k∧Tr.ar a k≤4294967295:=by
 unfold Tr.ar
 have hp:=Ad.two_pos (32 - k)
 have l:=Int.emod_nonneg a (show (2:Int) ^ (32 - k) ≠ 0 by omega)
 have e:=Int.mul_ediv_add_emod a (2 ^ (32 - k))
 have hd:=Int.ediv_nonneg h0 (show (0:Int)≤2 ^ (32 - k) by omega)
 have hm:=Int.mul_nonneg (show (0:Int)≤2 ^ (32 - k) by omega) hd
 omega
theorem around_any (a:Int) (k:Nat) (w:World) (hk:k≤32) (h0:0≤a) (h1:a≤4294967295) :
  Calls Tryz.prog 186 #[.int .u32 a,.int .i64 (k:Int)] w fun e w'=>e=.returned (.agg #[.int .u32 (Tr.ar a k),.int .i64 (k:Int)])∧Below w.heap.size w w':=by
 have H:=Lib.hid (ar_shift a k hk h0 h1)
 have e1:((32:Int) - (k:Int)).toNat=32 - k:=by omega
 have e2:0≤(32:Int) - (k:Int):=by omega
 have e3:((32:Int) - (k:Int))<33:=by omega
 go_enter Tryz.func186,Tryz.ntmps186
 go_wp2
 simp only[H.out]
 refine bodyPost_ret (v:=.agg #[.int .u32 (Tr.ar a k),.int .i64 (k:Int)]) ?_ rfl ⟨rfl,?_⟩
 ·simp[results,Tryz.results186,go_sem]
 ·exact (Below.refl _ _).alloc (Nat.le_refl _) _
theorem nat_sub (k:Nat):((k+1:Nat):Int) - 1=(k:Int):=by omega
set_option maxHeartbeats 1000000 in
theorem tlook_any (w:World) (F:Nat→Prop) (N:Nat) (L:Tr.Row) (a:Int) (h:TR w F N L) (h0:0≤a) (h1:a≤4294967295) (hn:∀p,((Tr.get L p).getD []).length≤1000000) :
    Calls Tryz.prog 116 #[.pointer (some ⟨N,0,none⟩),.int .u32 a] w fun e w'=>Below w.heap.size w w' ∧
      ((Tr.look L a = none ∧ e = .returned (.tuple #[.agg #[.int .u32 0, .int .i64 0], .slice none 0 0, .bool false])) ∨
       ∃ (k:Nat) (xs:List Int) (v:Value),Tr.look L a=some (k,xs)∧e=.returned (.tuple #[.agg #[.int .u32 (Tr.ar a k),.int .i64 (k:Int)],v,.bool true])∧w'.ownsRow w.heap.size 3 1 v xs.length (I64 xs)):=by
  have HT:Hid (∀W,Below w.heap.size w W→TR W F N L):=Lib.hid fun W hW=>h.next hW
  have HN:=Lib.hid hn
  have HB0:=Lib.hid ((Below.refl w.heap.size w).alloc (Nat.le_refl _) (.cells #[.int .u32 0,.int .i64 0] 125))
  have HK:Hid (Blk (w.alloc (.cells #[.int .u32 0,.int .i64 0] 125)) w.heap.size 125 #[.int .u32 0,.int .i64 0]):=Lib.hid (Blk.new _ _ _)
  clear h hn
  go_enter Tryz.func116,Tryz.ntmps116
  go_wp2
  generalize hW0:w.alloc (.cells #[.int .u32 0,.int .i64 0] 125)=W0 at *
  have hz0:W0.heap.size=w.heap.size+1:=by rw[←hW0];simp
  clear hW0
  go_loopw [7] (fun i wr=>∃k:Nat,k≤33∧i=.int .i64 ((k:Int) - 1)∧Below W0.heap.size W0 wr∧Tr.look L a=Tr.lk L a k) (fun i _=>(intOf i+1).toNat)
  case atStart=>exact⟨33,by omega,rfl,Below.refl _ _,rfl⟩
  case round =>
    obtain⟨k,hk,rfl,hb,hl⟩:=hrel
    have hbw:Below w.heap.size w wr:=HB0.out.trans (hb.mono (by omega))
    have hBk:=(HK.out.next hb)
    have hlt:=hBk.lt
    rcases k with _|k
    · have e0 : ((0 : Nat) : Int) - 1 = -1 := rfl
      rw[e0]
      have c0:wr.cell? ⟨w.heap.size,0,none⟩=some (.int .u32 0):=by simpa using hBk.cell 0
      have c1:wr.cell? ⟨w.heap.size,1,none⟩=some (.int .i64 0):=by simpa using hBk.cell 1
      have f0:=hBk.frozen 0
      have f1:=hBk.frozen 1
      have HL:=Lib.hid (hl.trans rfl:Tr.look L a=none)
      have HBw:=Lib.hid hbw
      have HR:Hid (∀u v:Value,((wr.setCell ⟨w.heap.size,0,none⟩ u).setCell ⟨w.heap.size,1,none⟩ v).cell? ⟨w.heap.size,0,none⟩=some u∧((wr.setCell ⟨w.heap.size,0,none⟩ u).setCell ⟨w.heap.size,1,none⟩ v).cell? ⟨w.heap.size,1,none⟩=some v) :=
        Lib.hid fun u v=>⟨by simpa using ((hBk.set_ 0 u).set_ 1 v).cell 0,by simpa using ((hBk.set_ 0 u).set_ 1 v).cell 1⟩
      clear hl hb hbw hBk e0
      go_wp2
      refine bodyPost_ret (v:=.tuple #[.agg #[.int .u32 0,.int .i64 0],.slice none 0 0,.bool false]) ?_ rfl ⟨?_,.inl ⟨HL.out,rfl⟩⟩
      · simp [results, Tryz.results116, go_sem, (HR.out _ _).1, (HR.out _ _).2]
      · exact (HBw.out.setCell (Nat.le_refl _) _).setCell (Nat.le_refl _) _
    · rw [nat_sub]
      have hg0:(0:Int)≤(k:Int):=by omega
      have HBw:=Lib.hid hbw
      have HL:=Lib.hid hl
      have HBk:=Lib.hid hBk
      have Hb:=Lib.hid hb
      clear hl hb hbw hBk
      go_wp2_with fail
      refine (around_any a k _ (by omega) h0 h1).mono ?_
      rintro e w2 ⟨rfl,hb2⟩
      have hB2:Below w.heap.size w (w2.alloc (.cells #[.int .u32 (Tr.ar a k),.int .i64 (k:Int)] 125)):=(HBw.out.trans (hb2.mono HBw.out.size)).alloc (Nat.le_trans HBw.out.size hb2.size) _
      have g0:Below W0.heap.size W0 (w2.alloc (.cells #[.int .u32 (Tr.ar a k),.int .i64 (k:Int)] 125)):=(Hb.out.trans (hb2.mono Hb.out.size)).alloc (Nat.le_trans Hb.out.size hb2.size) _
      have HB2:=Lib.hid hB2
      have G0:=Lib.hid g0
      have hz2:=hb2.size
      have hw:wfP (Tr.ar a k,(k:Int)):=⟨ar_bd a k h0 h1,by omega⟩
      have HW:=Lib.hid hw
      clear hB2 hb2 g0 hw
      go_wp2_with fail
      refine (get_any _ F N L (Tr.ar a k,(k:Int)) (HT.out _ HB2.out) HW.out (by have:=HN.out (Tr.ar a k,(k:Int));omega)).mono ?_
      rintro e w3 ⟨v,rfl,hown,hb3⟩
      have hb3w:Below w.heap.size w w3:=HB2.out.trans (hb3.mono HB2.out.size)
      have hb3z:Below W0.heap.size W0 w3:=G0.out.trans (hb3.mono G0.out.size)
      have HB3:=Lib.hid hb3w
      have G3:=Lib.hid hb3z
      have HO:=Lib.hid hown
      have hBk3:=HK.out.next hb3z
      have p0:w3.cell? ⟨w2.heap.size,0,none⟩=some (.int .u32 (Tr.ar a k)):=(hb3.cell (p:=⟨w2.heap.size,0,none⟩) (by simp)).trans (by go_simp)
      have p1:w3.cell? ⟨w2.heap.size,1,none⟩=some (.int .i64 (k:Int)):=(hb3.cell (p:=⟨w2.heap.size,1,none⟩) (by simp)).trans (by go_simp)
      cases hg:Tr.get L (Tr.ar a k,(k:Int)) with
      | none =>
        have HE:=Lib.hid (show Tr.look L a=Tr.lk L a k by rw[HL.out];simp[Tr.lk,hg])
        simp only[Option.isSome_none]
        clear hb3w hb3z hown hBk3 hb3 hg
        go_wp2
        go_roundw
        case rel=>exact⟨k,by omega,rfl,G3.out,HE.out⟩
        case measure=>simp[intOf]
      | some xs =>
        have HE:=Lib.hid (show Tr.look L a=some (k,xs) by rw[HL.out];simp[Tr.lk,hg])
        have HO2:=Lib.hid (show w3.ownsRow w.heap.size 3 1 v xs.length (I64 xs) by
          have:=own_up hown HB2.out.size
          rw[hg]at this
          simpa using this)
        simp only[Option.isSome_some]
        have c0:w3.cell? ⟨w.heap.size,0,none⟩=some (.int .u32 0):=by simpa using hBk3.cell 0
        have c1:w3.cell? ⟨w.heap.size,1,none⟩=some (.int .i64 0):=by simpa using hBk3.cell 1
        have f0:=hBk3.frozen 0
        have f1:=hBk3.frozen 1
        have HR:Hid (∀u v:Value,((w3.setCell ⟨w.heap.size,0,none⟩ u).setCell ⟨w.heap.size,1,none⟩ v).cell? ⟨w.heap.size,0,none⟩=some u∧((w3.setCell ⟨w.heap.size,0,none⟩ u).setCell ⟨w.heap.size,1,none⟩ v).cell? ⟨w.heap.size,1,none⟩=some v) :=
          Lib.hid fun u v=>⟨by simpa using ((hBk3.set_ 0 u).set_ 1 v).cell 0,by simpa using ((hBk3.set_ 0 u).set_ 1 v).cell 1⟩
        have HZ:=Lib.hid hBk3
        clear hb3w hb3z hown hBk3 hb3 hg HO
        go_wp2
        refine bodyPost_ret (v:=.tuple #[.agg #[.int .u32 (Tr.ar a k),.int .i64 (k:Int)],v,.bool true]) ?_ rfl ⟨?_,.inr ⟨k,xs,v,HE.out,rfl,?_⟩⟩
        · simp [results, Tryz.results116, go_sem, (HR.out _ _).1, (HR.out _ _).2]
        · exact (HB3.out.setCell (Nat.le_refl _) _).setCell (Nat.le_refl _) _
        · refine own_at HO2.out (fun g hg => ?_)
          have hne:g ≠ w.heap.size:=fun e=>by
            subst e
            rcases HO2.out.2 with ⟨hv,_⟩|⟨g',cap,cur,hv,_,hh,_⟩
            · rw [hv] at hg; simp [Value.ownBlock] at hg
            · rw [hv] at hg
              simp[Value.ownBlock]at hg
              subst hg
              have hV:=HZ.out
              unfold Blk at hV
              rw[hV]at hh
              simp at hh
          rw[Below.heap_setCell _ _ _ _ (by simpa using hne),Below.heap_setCell _ _ _ _ (by simpa using hne)]
end Go.Proofs.YtfidicbknjoafaaGreatDoor
namespace Go.Proofs.YtfidicbknjoafaaGreatDoor
open Go.RowKit
end Go.Proofs.YtfidicbknjoafaaGreatDoor
namespace Go.Proofs.YtfidicbknjoafaaGreatDoor
open Go.RowKit
structure OT (B:Nat) (w:World) (N:Nat) (L:Tr.Row):Prop where
 out:∃F,TR w F N L∧∀i,F i→B≤i
section
variable {B N:Nat} {w w':World} {L:Tr.Row}
theorem OT.new (w:World) (hB:B≤w.heap.size):OT B (w.alloc (.cells #[.map none] 194)) w.heap.size []:=⟨_,TR.new w,fun i hi=>by subst hi;exact hB⟩
theorem OT.next (h:OT B w N L) (hb:Below w.heap.size w w'):OT B w' N L:=by obtain⟨F,h1,h2⟩:=h;exact⟨F,h1.next hb,h2⟩
end
theorem ot_put {B N:Nat} {L:Tr.Row} (w:World) (a n x:Int) (h:OT B w N L) (hB:B≤w.heap.size) (hp:wfP (a,n)) (hL:L.length≤1000000) (hx:((Tr.get L (a,n)).getD []).length≤1000000) :
  Calls Tryz.prog 115 #[.pointer (some ⟨N,0,none⟩),.agg #[.int .u32 a,.int .i64 n],.int .i64 x] w fun e w'=>e=.returned (.bool (Ad.valid a n))∧OT B w' N (Tr.putv L (a,n) x)∧Below B w w':=by
 obtain⟨F,h1,h2⟩:=h
 refine (put_any w F N L a n x h1 hp hL hx).mono ?_
 rintro e w' ⟨rfl,F',g1,g2,g3⟩
 exact⟨rfl,⟨F',g1,fun i hi=>(g3 i hi).elim (h2 i) (fun h=>Nat.le_trans hB h)⟩,g2.below h2 hB⟩
def LookPost (w : World) (L : Tr.Row) (a : Int) (e : Ending) (w' : World) : Prop := Below w.heap.size w w' ∧
      ((Tr.look L a = none ∧ e = .returned (.tuple #[.agg #[.int .u32 0, .int .i64 0], .slice none 0 0, .bool false])) ∨
       ∃ (k:Nat) (xs:List Int) (v:Value),Tr.look L a=some (k,xs)∧e=.returned (.tuple #[.agg #[.int .u32 (Tr.ar a k),.int .i64 (k:Int)],v,.bool true])∧w'.ownsRow w.heap.size 3 1 v xs.length (I64 xs))
theorem ot_look {B N:Nat} {L:Tr.Row} (w:World) (a:Int) (h:OT B w N L) (h0:0≤a) (h1:a≤4294967295) (hn:∀p,((Tr.get L p).getD []).length≤1000000) :
  Calls Tryz.prog 116 #[.pointer (some ⟨N,0,none⟩),.int .u32 a] w (LookPost w L a):=by
 obtain⟨F,g1,g2⟩:=h
 exact tlook_any w F N L a g1 h0 h1 hn
end Go.Proofs.YtfidicbknjoafaaGreatDoor
