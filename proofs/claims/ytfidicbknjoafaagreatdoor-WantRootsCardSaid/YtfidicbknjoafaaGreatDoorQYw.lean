/- A router's rows as plain data: the ports at which a key was heard, the keys of which there is a row, each row. -/
import Derived.Test.YtfidicbknjoafaaGreatDoorQKit
import Derived.Maps.OwnSet
import Derived.Maps.Keyed
import Derived.Maps.Own
import Derived.MapKept
import Derived.WideKeyEntry
import Derived.Test.YtfidicbknjoafaaGreatDoorQOn
import Derived.Test.YtfidicbknjoafaaGreatDoorQMe
import Derived.Test.YtfidicbknjoafaaGreatDoorQNw
import Derived.Test.YtfidicbknjoafaaGreatDoorQGr
import Derived.Test.YtfidicbknjoafaaGreatDoorQTn
import Derived.Test.YtfidicbknjoafaaGreatDoorProg
import Derived.WalkKit
import Derived.BigQuiet
import Derived.Deep.QuietTactic
import Derived.Deep.RegionHeld3
import Derived.Deep.Cut
import Derived.Test.YtfidicbknjoafaaGreatDoorQStrb
import Derived.Test.YtfidicbknjoafaaGreatDoorQShw
import Derived.Test.YtfidicbknjoafaaGreatDoorQCg
import Derived.Test.YtfidicbknjoafaaGreatDoorQYk
namespace Go.Proofs.YtfidicbknjoafaaGreatDoor
open Go.RowKit Go.Maps Go.WideElems Go.ChangeMaps Go.MapKept
theorem map_entry {H:Type} {P:Program} {t k e:TypeId} {w:World} {R:Value→Option (DataW H × List MemPlace)} {b n:Nat} {D:DataW H} (h:w.ownsMap P k R b n D) (K:Keyed P k) (ht:P.underlying t=some (.map k e))
  {key:Value} {kl:Lit} (hkey:keyOf P k key=some kl) {z:Value} (hz:∀W,(zeroValue e).run P W=.ok z W)
  {c:Value} (hlk:(Instr.lookup t (.map (some b)) key false).run P w=.ok c w)
  {val:Value} {w':World} (hup:(Instr.mapUpdate t (.map (some b)) key val).run P w=.ok () w') :
  ∃v0 st w1,(Instr.mapEntry t (.map (some b)) key).run P w=.ok (.tuple #[v0,goInt st]) w1∧w.grownBy w1 (some b)∧w1.heap.size=w.heap.size∧(Instr.lookup t (.map (some b)) key false).run P w1=.ok c w1∧(Instr.entryStore t (.map (some b)) (goInt st) val).run P w1=.ok () w':=by
 obtain⟨es,clock,hb,F,hs,rfl⟩:=h
 have hgrow:∀o,w.grownBy (ChangeMaps.setBlock w b o) (some b):=fun o=>⟨rfl,rfl,rfl,by simp[ChangeMaps.setBlock],fun i _ hi=>heap_setBlock_other hb o (fun e1=>hi (by rw[e1]))⟩
 rcases K.find w hkey es.toList F.keys with ⟨h1,h2⟩|⟨j,e0,h1,h2,h3⟩
 ·have hc:c=z:=by
   simp[Instr.lookup,run_underlying ht,MapKept.run_getObj_map hb,K.check w _ hkey,h1,hz,Result.andThen]at hlk
   exact hlk.symm
  subst hc
  have hw':w'=ChangeMaps.setBlock w b (.map (es.push ⟨key,val,clock⟩) (clock+1)):=by
   simp[Instr.mapUpdate,run_underlying ht,MapKept.run_getObj_map hb,K.check w false hkey,h1,MapKept.run_setObj_map _ hb,Result.andThen]at hup
   rw[←hup];simp[ChangeMaps.setBlock]
  subst hw'
  have hb1:(ChangeMaps.setBlock w b (.map (es.push ⟨key,c,clock⟩) (clock+1))).heap[b]?=some (.map (es.push ⟨key,c,clock⟩) (clock+1)):=heap_setBlock_same hb _
  have hst:Stamped (es.push ⟨key,c,clock⟩) (clock+1):=stamped_push F.stamped h2
  have hat:(es.push ⟨key,c,clock⟩).toList[es.size]?=some ⟨key,c,clock⟩:=by simp
  have hidx:(es.push ⟨key,c,clock⟩).findIdx? (fun e=>((e.born:Nat):Int)==((clock:Nat):Int))=some es.size:=by
   rw[WideElems.findIdx_arr]
   exact WideElems.findIdx_born hst.2.1 hat
  refine⟨c,clock,_,?_,hgrow (.map (es.push ⟨key,c,clock⟩) (clock+1)),by simp[ChangeMaps.setBlock],?_,?_⟩
  ·simp[Instr.mapEntry,run_underlying ht,MapKept.run_getObj_map hb,K.check w false hkey,h1,hz,MapKept.run_setObj_map _ hb,Result.andThen,ChangeMaps.setBlock]
  ·have hk2:∀x∈(es.push ⟨key,c,clock⟩).toList,∃l,keyOf P k x.key=some l:=fun x hx=>by
    simp only[Array.toList_push,List.mem_append,List.mem_singleton]at hx
    rcases hx with hx|rfl
    ·exact F.keys x hx
    ·exact⟨_,hkey⟩
   rcases K.find (ChangeMaps.setBlock w b (.map (es.push ⟨key,c,clock⟩) (clock+1))) hkey (es.push ⟨key,c,clock⟩).toList hk2 with ⟨_,g2⟩|⟨j,e0,g1,g2,g3⟩
   ·exact absurd rfl (g2 ⟨key,c,clock⟩ (by simp))
   ·have he0:e0=⟨key,c,clock⟩:=by
     have hm:=List.mem_of_getElem? g2
     simp only[Array.toList_push,List.mem_append,List.mem_singleton]at hm
     rcases hm with hm|hm
     ·exact absurd g3 (h2 e0 hm)
     ·exact hm
    subst he0
    simp only[Array.toList_push]at g1
    simp[Instr.lookup,run_underlying ht,MapKept.run_getObj_map hb1,K.check _ _ hkey,g1,Result.andThen]
  ·have hm:(es.push ⟨key,c,clock⟩).modify es.size (fun e=>{ e with val:=val })=es.push ⟨key,val,clock⟩:=by
    apply Array.ext'
    rw[Array.toList_modify,ChangeMaps.modify_eq_set _ _ _ _ hat,Array.toList_push,Array.toList_push]
    have:es.size=es.toList.length:=by simp
    rw[this,List.set_append_right _ _ (Nat.le_refl _)]
    simp
   simp[Instr.entryStore,MapKept.run_getObj_map hb1,asInt,asIntOf,goInt,hidx,MapKept.run_setObj_map _ hb1,Result.andThen,hm]
   simp[ChangeMaps.setBlock]
 ·have hj:es[j]?=some e0:=by simpa using h2
  have hsame:es.modify j (fun e=>{ e with key:=key })=es:=by
   apply Array.ext'
   rw[Array.toList_modify,ChangeMaps.modify_eq_set _ _ _ _ h2]
   have:({ e0 with key:=key }:MapEntry)=e0:=by rw[←h3]
   rw[this]
   exact WideElems.set_self _ _ _ h2
  have hself:ChangeMaps.setBlock w b (.map es clock)=w:=by
   have:w.heap.setIfInBounds b (.map es clock)=w.heap:=by
    apply Array.ext'
    rw[Array.toList_setIfInBounds]
    exact WideElems.set_self _ _ _ (by simpa using hb)
   simp[ChangeMaps.setBlock,this]
  have hidx:es.findIdx? (fun e=>((e.born:Nat):Int)==((e0.born:Nat):Int))=some j:=by
   rw[WideElems.findIdx_arr]
   exact WideElems.findIdx_born F.stamped.2.1 h2
  have hmm:es.modify j (fun e'=>{ e' with key:=key,val:=val })=es.modify j (fun e=>{ e with val:=val }):=by
   apply Array.ext'
   rw[Array.toList_modify,Array.toList_modify,ChangeMaps.modify_eq_set _ _ _ _ h2,ChangeMaps.modify_eq_set _ _ _ _ h2]
   rw[←h3]
  have hw':w'=ChangeMaps.setBlock w b (.map (es.modify j (fun e=>{ e with val:=val })) clock):=by
   rw[←hmm]
   simp[Instr.mapUpdate,run_underlying ht,MapKept.run_getObj_map hb,K.check w false hkey,h1,hj,h3,K.stays w hkey,MapKept.run_setObj_map _ hb,Result.andThen]at hup
   rw[←hup];simp[ChangeMaps.setBlock]
  subst hw'
  refine⟨e0.val,e0.born,w,?_,⟨rfl,rfl,rfl,Nat.le_refl _,fun _ _ _=>rfl⟩,rfl,hlk,?_⟩
  ·have hr:(Instr.mapEntry t (.map (some b)) key).run P w=.ok (.tuple #[e0.val,goInt e0.born]) (ChangeMaps.setBlock w b (.map es clock)):=by
    simp[Instr.mapEntry,run_underlying ht,MapKept.run_getObj_map hb,K.check w false hkey,h1,hj,h3,K.stays w hkey,hsame,MapKept.run_setObj_map _ hb,Result.andThen,ChangeMaps.setBlock]
   rw[hself]at hr
   exact hr
  ·simp[Instr.entryStore,MapKept.run_getObj_map hb,asInt,asIntOf,goInt,hidx,MapKept.run_setObj_map _ hb,Result.andThen,ChangeMaps.setBlock]
end Go.Proofs.YtfidicbknjoafaaGreatDoor
namespace Go.Proofs.YtfidicbknjoafaaGreatDoor
open Go.RowKit Lx Sm Go.Maps
structure FrT (t0:TypeId) (W W':World):Prop where
 size:W.heap.size≤W'.heap.size
 old:∀g t cs,Blk W g t cs→t ≠ t0→W'.heap[g]?=W.heap[g]?
section
variable {t0:TypeId} {W W' W'':World} {b:Nat} {M:Cm} {x:Cfg}
theorem FrT.refl (t0:TypeId) (W:World):FrT t0 W W:=⟨Nat.le_refl _,fun _ _ _ _ _=>rfl⟩
theorem FrT.trans (h:FrT t0 W W') (k:FrT t0 W' W''):FrT t0 W W'':=⟨Nat.le_trans h.size k.size,fun g t cs hb h1=>(k.old g t cs ((h.old g t cs hb h1).trans hb) h1).trans (h.old g t cs hb h1)⟩
theorem FrT.below (h:Below W.heap.size W W'):FrT t0 W W':=⟨h.size,fun g _ _ hb _=>h.block g hb.lt⟩
theorem FrT.blk {g:Nat} {t:TypeId} {cs:Array Value} (h:FrT t0 W W') (hb:Blk W g t cs) (h1:t ≠ t0):Blk W' g t cs:=(h.old g t cs hb h1).trans hb
theorem FrT.own {t:TypeId} {k n:Nat} {v:Value} {ys:List Value} (h:FrT t0 W W') (ho:W.ownsRow b t k v n ys) (h1:t ≠ t0):W'.ownsRow b t k v n ys:=by
 refine⟨ho.1,?_⟩
 rcases ho.2 with hn|⟨g,cap,cur,rfl,hbg,hh,rest⟩
 ·exact .inl hn
 ·exact .inr ⟨g,cap,cur,rfl,hbg,(h.old g t cur hh h1).trans hh,rest⟩
theorem FrT.grown {b' k n:Nat} {v:Value} {ys:List Value} (ho:W.ownsRow b' t0 k v n ys) (hg:W.grownBy W' v.ownBlock):FrT t0 W W':=by
 refine⟨hg.size,fun g t cs hb ht=>hg.block g hb.lt fun e=>?_⟩
 rcases ho.2 with ⟨rfl,_⟩|⟨g2,cap,cur,rfl,_,hh,_⟩
 ·cases e
 ·have:g=g2:=by cases e;rfl
  subst this
  have hb':W.heap[g]?=some (.cells cs t (0,0)):=hb
  rw[hb']at hh
  cases hh
  exact ht rfl
end
end Go.Proofs.YtfidicbknjoafaaGreatDoor
namespace Go.Proofs.YtfidicbknjoafaaGreatDoor
open Go.ChangeShapes Go.WideShapes Go.ChangeAt Go.RowKit Go.Maps
theorem skey_any (a b c d:Int) (w:World) :
  Calls Tryz.prog 38 #[.agg #[.int .u32 a,.int .u32 b],.agg #[.int .u32 c,.int .u32 d]] w fun e w'=>e=.returned (.bool ((a==c)&&(b==d)))∧Below w.heap.size w w':=by
 obtain⟨b1,e1⟩:∃r,(a==c)=r:=⟨_,rfl⟩
 obtain⟨b2,e2⟩:∃r,(b==d)=r:=⟨_,rfl⟩
 rw[e1,e2]
 cases b1
 all_goals
  go_enter Tryz.func38,Tryz.ntmps38
  go_wp2
  go_ret
  exact⟨ret_bool (by simp),((Below.refl _ _).alloc (Nat.le_refl _) _).alloc (by simp) _⟩
end Go.Proofs.YtfidicbknjoafaaGreatDoor
namespace Go.Proofs.YtfidicbknjoafaaGreatDoor
open Go.RowKit Sm Go.Maps Go.Sort Go.Shelf
theorem grown_trK {w w1 w2:World} {b:Nat} (h1:w.grownBy w1 (some b)) (h2:w1.grownBy w2 (some b)):w.grownBy w2 (some b) :=
 ⟨h2.os.trans h1.os,h2.tape.trans h1.tape,h2.output.trans h1.output,Nat.le_trans h1.size h2.size,fun k hk hne=>(h2.block k (Nat.lt_of_lt_of_le hk h1.size) hne).trans (h1.block k hk hne)⟩
theorem zeroI (W:World):(zeroValue 3).run Tryz.prog W=.ok (.int .i64 0) W:=by kernel_rfl
set_option maxRecDepth 100000 in
set_option maxHeartbeats 4000000 in
theorem counted_any (A:Option Addr) (n c:Nat) (xs:List (Int × Int)) (w:World) (h:RI CKy 2 w A n xs) (hu:∀k∈xs,UK k) (hn:n≤1000000) :
  Calls Tryz.prog 198 #[.slice A n c] w fun e w'=>∃ (mb:Nat) (D:DataW Unit),e=.returned (.map (some mb))∧CntK D xs∧w'.ownsMap Tryz.prog 57 (plainElem (H:=Unit) Tryz.prog 3) mb n D∧Below w.heap.size w w':=by
 have H:=Lib.hid h
 have HU:=Lib.hid hu
 have HN:=Lib.hid h.len
 have hmm:=@run_makeMap Tryz.prog
 clear h hu
 go_enter Tryz.func198,Tryz.ntmps198
 go_upto_region 2 with fail
 have hown:(w.alloc (.map #[] 0)).ownsMap Tryz.prog 57 (plainElem (H:=Unit) Tryz.prog 3) w.heap.size 0 (.map []):=by
  have:=World.ownsMap_made w Tryz.prog 57 (plainElem (H:=Unit) Tryz.prog 3)
  simpa using this
 have HB1:=Lib.hid ((Below.refl w.heap.size w).alloc (Nat.le_refl _) (.map #[] 0))
 clear hmm
 generalize w.alloc (.map #[] 0)=W1 at *
 have HO:=Lib.hid hown
 have bwr:∀ {wr:World},W1.grownBy wr (some w.heap.size)→Below w.heap.size w wr:=fun hg=>HB1.out.grown hg HB1.out.size (by intro j hj;cases hj;exact Nat.le_refl _)
 generalize hmb:w.heap.size=mb at *
 clear hown
 go_wp2_with fail
 go_loopw [9] (fun iv wr=>∃ (k:Nat) (D:DataW Unit),k≤n∧iv=.int .i64 k∧Hid (CntK D (xs.take k)∧wr.ownsMap Tryz.prog 57 (plainElem (H:=Unit) Tryz.prog 3) mb k D∧W1.grownBy wr (some mb))) (fun iv _=>n - (intOf iv).toNat)
 case atStart=>exact⟨0,.map [],Nat.zero_le _,rfl,Lib.hid ⟨cntk_nil,HO.out,⟨rfl,rfl,rfl,Nat.le_refl _,fun _ _ _=>rfl⟩⟩⟩
 case round =>
  obtain⟨k,D,hk,rfl,HI⟩:=hrel
  have HBw:=Lib.hid (bwr HI.out.2.2)
  rcases Nat.lt_or_ge k n with hlt|hge
  ·have HR:Hid (RI CKy 2 wr A n xs):=Lib.hid (H.out.next (by rw[hmb];exact HBw.out))
   obtain⟨b,o,⟨s1,g1⟩,rfl,hbl,hx,hcell⟩:=HR.out.at_ hlt
   have qd0:wr.cell? ⟨b,o+k*2,none⟩=some (.int .u32 s1):=hcell 0 _ rfl
   have qd1:wr.cell? ⟨b,o+k*2+1,none⟩=some (.int .u32 g1):=hcell 1 _ rfl
   have hi0:(k:Int)<(n:Int):=by omega
   have hi1:(0:Int)≤(k:Int):=by omega
   have hu:UK (s1,g1):=HU.out _ (List.mem_of_getElem? hx)
   have HT:Hid (xs.take k++[(s1,g1)]=xs.take (k+1)):=Lib.hid (by rw[List.take_add_one,hx];rfl)
   have hcl:(xs.take k).count (s1,g1)≤k:=Nat.le_trans List.count_le_length (by rw[List.length_take];omega)
   clear hcell hbl hx
   go_upto_region 5 with fail
   have hM:=HI.out.2.1.alloc (.cells #[.int .u32 s1,.int .u32 g1] 57)
   have hG:=grown_trK HI.out.2.2 (World.grownBy_alloc wr (.cells #[.int .u32 s1,.int .u32 g1] 57) _)
   have c0:(wr.alloc (.cells #[.int .u32 s1,.int .u32 g1] 57)).cell? ⟨wr.heap.size,0,none⟩=some (.int .u32 s1):=by go_simp
   have c1:(wr.alloc (.cells #[.int .u32 s1,.int .u32 g1] 57)).cell? ⟨wr.heap.size,1,none⟩=some (.int .u32 g1):=by go_simp
   generalize wr.alloc (.cells #[.int .u32 s1,.int .u32 g1] 57)=W5 at *
   have hM2:W5.drew.ownsMap Tryz.prog 57 (plainElem (H:=Unit) Tryz.prog 3) mb k D:=hM
   obtain⟨cv,hrun,hat,hwc⟩:=hM2.lookup_int keyedPK Tryz.underlying259 Tryz.underlying3 (zeroI _) (kv_key hu)
   rw[(HI.out.1.2 (s1,g1) hu).2]at hat
   simp only[DataW.lit.injEq,Lit.int.injEq,true_and]at hat
   subst hat
   obtain⟨W8,hrun8,hm8,hg8⟩:=hM2.update (val:=.int .i64 ((((xs.take k).count (s1,g1):Nat):Int)+1)) keyedPK Tryz.underlying259 (by unfold maxLen;omega) (kv_key hu) (plainElem_int Tryz.underlying3 (by simp[Lit.wf,IntKind.min,IntKind.max,IntKind.signed,IntKind.bits];omega))
   obtain⟨v0,st,W6,hr1,hg1,hz1,hr2,hr3⟩:=map_entry hM2 keyedPK Tryz.underlying259 (kv_key hu) zeroI hrun hrun8
   have HI8:Hid (CntK (D.put (klit (s1,g1)) (.lit (.int .i64 ((((xs.take k).count (s1,g1):Nat):Int)+1)))) (xs.take (k+1))∧W8.ownsMap Tryz.prog 57 (plainElem (H:=Unit) Tryz.prog 3) mb (k+1) (D.put (klit (s1,g1)) (.lit (.int .i64 ((((xs.take k).count (s1,g1):Nat):Int)+1))))∧W1.grownBy W8 (some mb)) :=
    Lib.hid ⟨HT.out ▸ cntk_put HI.out.1 hu,hm8,grown_trK hG ⟨hg8.os,hg8.tape,hg8.output,hg8.size,hg8.block⟩⟩
   generalize hcc:(((xs.take k).count (s1,g1):Nat):Int)=cc at *
   have hc0:0≤cc:=by omega
   have hc1:cc≤1000000:=by omega
   unfold kv goInt at hr1
   unfold kv at hrun hr2
   unfold goInt at hr3
   clear hm8 hg8 hcl hcc hM hM2 hG hwc hg1 hz1 qd0 qd1 HI hrun8
   go_region
   all_goals
    go_wp2
    go_roundw
    case rel=>exact⟨k+1,_,hlt,by go_num,HI8⟩
    case measure=>simp[intOf];omega
  ·obtain rfl:k=n:=by omega
   have hd:decide ((k:Int)<(k:Int))=false:=by simp
   rw[List.take_of_length_le (by rw[HN.out];exact Nat.le_refl _)]at HI
   have HI2:=Lib.hid HI.out
   clear hd
   go_wp2
   go_ret
   exact⟨mb,D,rfl,HI2.out.1,HI2.out.2.1,by rw[hmb];exact HBw.out⟩
end Go.Proofs.YtfidicbknjoafaaGreatDoor
namespace Go.Proofs.YtfidicbknjoafaaGreatDoor
open Go.RowKit Lx Sm Go.Maps Go.Sort Go.Shelf
theorem elemK:Elem Tryz.prog 152 57 CKy 2 8:=⟨Tryz.underlying152,(by obtain⟨i,hi,hz,hs,hb⟩:=info_parts (show (Tryz.prog.info? 57).map (fun i=>(i.zero,i.size,i.bytes))=some (some (.agg #[.int .u32 0,.int .u32 0]),2,8) by kernel_rfl);exact⟨i,_,hi,hz,hs,hb,rfl⟩),fun _=>rfl,fun x u hu=>by simp[CKy]at hu;rcases hu with rfl|rfl <;> rfl,by omega,by omega⟩
theorem fld_sources (M:Cm) (w:World):(Instr.field 30 (.agg #[.slice M.r.A M.r.n M.r.c,.slice M.l.A M.l.n M.l.c,.slice M.p.A M.p.n M.p.c,.slice M.o.A M.o.n M.o.c,.slice M.g.A M.g.n M.g.c,.slice M.s.A M.s.n M.s.c,.slice M.m.A M.m.n M.m.c]) 5).run Tryz.prog w=.ok (.slice M.s.A M.s.n M.s.c) w:=by kernel_rfl
def sentP (x:Cfg):List (Int × Int):=x.ss.map fun y=>(y.2.1,y.2.2)
theorem sent_take {x:Cfg} {k:Nat} {y:Int × Int × Int} (h:x.ss[k]?=some y):((x.ss.take (k+1)).map fun y=>(y.2.1,y.2.2))=((x.ss.take k).map fun y=>(y.2.1,y.2.2))++[(y.2.1,y.2.2)]:=by
 rw[List.take_add_one,h];simp
section
variable {b:Nat} {T:TP} {x:Cfg} {gs:List Int}
set_option maxRecDepth 100000 in
set_option maxHeartbeats 2000000 in
theorem sent_any (w:World) (h:TW w b T x gs) (k:LtOK x) :
  Calls Tryz.prog 194 #[.pointer (some ⟨T.N,0,none⟩)] w fun e w'=>∃ (v:Value),e=.returned v∧w'.ownsRow w.heap.size 57 2 v (sentP x).length ((sentP x).flatMap CKy)∧Below w.heap.size w w':=by
 have HCF:=Lib.hid (config_any w h k.rn k.ln)
 have HS5:=Lib.hid k.sl
 clear h k
 go_enter Tryz.func194,Tryz.ntmps194
 go_upto_region 2 with fail
 go_wp2_with fail
 refine HCF.out.mono ?_
 rintro e w1 ⟨M,x',rfl,hc,hal,hb1⟩
 have HI:=Lib.hid hc.cw.s
 have HAL:=Lib.hid hal
 have HB1:=Lib.hid hb1
 have hfd:=fld_sources M
 clear hc hal hb1 HCF
 rw[HAL.out.s]at HI
 have hl:=HI.out.len
 have hs5:M.s.n≤5:=by have:=HS5.out;omega
 go_wp2_with fail
 clear hfd
 go_loopw [3,10] (fun v iv wr=>∃k:Nat,k≤M.s.n∧iv=.int .i64 (k:Int)∧Hid (wr.ownsRow w1.heap.size 57 2 v ((x.ss.take k).map fun y=>(y.2.1,y.2.2)).length (((x.ss.take k).map fun y=>(y.2.1,y.2.2)).flatMap CKy))∧Hid (Below w1.heap.size w1 wr)) (fun _ iv _=>M.s.n - (intOf iv).toNat)
 case atStart=>exact⟨0,Nat.zero_le _,rfl,Lib.hid (World.ownsRow_nil _ _ _ _),Lib.hid (Below.refl _ _)⟩
 case round =>
  obtain⟨k,hk,rfl,HO,HB⟩:=hrel
  generalize u3=v3 at *
  rcases Nat.lt_or_ge k M.s.n with hlt|hge
  ·obtain⟨bq,oq,⟨l1,s1,g1⟩,hA,_,hx,c0,c1,c2⟩:=ISource.cells (IR.next HI.out HB.out) hlt
   have hi0:(k:Int)<(M.s.n:Int):=by omega
   have hi1:(0:Int)≤(k:Int):=by omega
   have HT:=Lib.hid (sent_take hx)
   have HLN:Hid (((x.ss.take k).map fun y=>(y.2.1,y.2.2)).length=k):=Lib.hid (by rw[List.length_map,List.length_take];omega)
   have HLN2:Hid (((x.ss.take (k+1)).map fun y=>(y.2.1,y.2.2)).length=k+1):=Lib.hid (by rw[List.length_map,List.length_take];omega)
   rw[HLN.out]at HO
   have HO1:=Lib.hid ((HO.out.alloc (.cells #[.int .i64 l1,.int .u32 s1,.int .u32 g1] 147)).alloc (.cells #[.int .u32 s1,.int .u32 g1] 57))
   have HB2:=Lib.hid ((HB.out.alloc HB.out.size (.cells #[.int .i64 l1,.int .u32 s1,.int .u32 g1] 147)).alloc (by have:=HB.out.size;simp;omega) (.cells #[.int .u32 s1,.int .u32 g1] 57))
   rw[hA]
   clear hx hA HO
   go_wp2_with (at_builtin;refine wpList_items elemK rfl _ _ rfl w1.heap.size v3 k ((x.ss.take k).map fun y=>(y.2.1,y.2.2)) rfl HO1.out _ 1 1 [(s1,g1)] rfl (RI.new _ _ (s1,g1) (by simp) rfl) (by omega) (by omega) HB2.out.size ?_;intro v7 w7 hown7 hb7 _)
   have HO7:Hid (w7.ownsRow w1.heap.size 57 2 v7 ((x.ss.take (k+1)).map fun y=>(y.2.1,y.2.2)).length (((x.ss.take (k+1)).map fun y=>(y.2.1,y.2.2)).flatMap CKy)):=Lib.hid (by rw[HLN2.out,HT.out];exact hown7)
   have HB7:=Lib.hid (HB2.out.trans hb7)
   clear hown7 hb7 HO1 HB2 HB
   go_wp2
   go_roundw
   case rel=>exact⟨k+1,by omega,by go_num,HO7,HB7⟩
   case measure=>simp[intOf];omega
  ·obtain rfl:k=M.s.n:=by omega
   have hd:decide ((M.s.n:Int)<(M.s.n:Int))=false:=by simp
   have HO2:Hid (wr.ownsRow w1.heap.size 57 2 v3 (sentP x).length ((sentP x).flatMap CKy)):=Lib.hid (by have:=HO.out;rw[←hl,List.take_length]at this;exact this)
   go_wp2
   go_ret
   exact⟨v3,rfl,ownk_up HO2.out HB1.out.size,below_next HB1.out HB.out⟩
end
end Go.Proofs.YtfidicbknjoafaaGreatDoor
namespace Go.Proofs.YtfidicbknjoafaaGreatDoor
open Go.RowKit Lx Sm Go.Maps Go.Sort Go.Shelf
section
variable {b:Nat} {T:TP} {x:Cfg} {gs:List Int} {w:World}
theorem sentP_u (h:TW w b T x gs):∀a∈sentP x,UK a:=by
 intro a ha
 obtain⟨y,hy,rfl⟩:=List.mem_map.1 ha
 exact h.net.cw.ok.2.2.2.2.1 y hy
theorem sentP_len (x:Cfg):(sentP x).length=x.ss.length:=by simp[sentP]
end
end Go.Proofs.YtfidicbknjoafaaGreatDoor
namespace Go.Proofs.YtfidicbknjoafaaGreatDoor
open Go.RowKit Lx Sm Go.Maps
end Go.Proofs.YtfidicbknjoafaaGreatDoor
namespace Go.Proofs.YtfidicbknjoafaaGreatDoor
open Go.RowKit Lx Sm Go.Maps
def withI (l:List Int) (q:Int):List Int:=if l.contains q=true then l else l.take (l.countP (·<q))++q :: l.drop (l.countP (·<q))
theorem withI_mem (l:List Int) (q a:Int):a∈withI l q ↔ a∈l∨a=q:=by
 unfold withI
 split
 ·rename_i h
  constructor
  ·exact .inl
  ·rintro (h1|rfl)
   ·exact h1
   ·exact List.contains_iff_mem.1 h
 ·have e:=List.take_append_drop (l.countP (·<q)) l
  constructor
  ·intro h
   rcases List.mem_append.1 h with h|h
   ·exact .inl (List.mem_of_mem_take h)
   ·rcases List.mem_cons.1 h with rfl|h
    ·exact .inr rfl
    ·exact .inl (List.mem_of_mem_drop h)
  ·rintro (h|rfl)
   ·rw[←e]at h
    rcases List.mem_append.1 h with h|h
    ·exact List.mem_append.2 (.inl h)
    ·exact List.mem_append.2 (.inr (List.mem_cons_of_mem _ h))
   ·exact List.mem_append.2 (.inr (List.mem_cons_self ..))
theorem take_less (q:Int):∀ {l:List Int},l.Pairwise (·<·)→l.take (l.countP (·<q))=l.filter (·<q)∧l.drop (l.countP (·<q))=l.filter (fun x=>!decide (x<q))
 | [],_=>⟨rfl,rfl⟩
 | x :: l,h=>by
  obtain⟨h1,h2⟩:=List.pairwise_cons.1 h
  obtain⟨i1,i2⟩:=take_less q h2
  by_cases hx:x<q
  ·rw[List.countP_cons_of_pos (by simpa using hx)]
   simp only[List.take_succ_cons,List.drop_succ_cons,List.filter_cons,hx,decide_true,if_true,i1,i2,Bool.not_true]
   simp
  ·have hall:∀y∈x :: l,¬ y<q:=fun y hy=>by
    rcases List.mem_cons.1 hy with rfl|hy
    ·exact hx
    ·have:=h1 y hy;omega
   have e0:(x :: l).countP (·<q)=0:=by
    rw[List.countP_eq_zero]
    intro y hy;simpa using hall y hy
   rw[e0]
   constructor
   ·rw[List.take_zero];symm;rw[List.filter_eq_nil_iff];intro y hy;simpa using hall y hy
   ·rw[List.drop_zero];symm;rw[List.filter_eq_self];intro y hy;simpa using hall y hy
theorem withI_rises {l:List Int} (h:l.Pairwise (·<·)) (q:Int):(withI l q).Pairwise (·<·):=by
 unfold withI
 split
 ·exact h
 ·rename_i hc
  have hni:q ∉ l:=fun hm=>hc (List.contains_iff_mem.2 hm)
  rw[(take_less q h).1,(take_less q h).2]
  refine List.pairwise_append.2 ⟨h.filter _,List.pairwise_cons.2 ⟨fun y hy=>?_,h.filter _⟩,fun a ha b hb=>?_⟩
  ·obtain⟨hm,hy⟩:=List.mem_filter.1 hy
   have:y ≠ q:=fun e=>hni (e ▸ hm)
   simp at hy;omega
  ·have:=(List.mem_filter.1 ha).2
   simp at this
   rcases List.mem_cons.1 hb with rfl|hb
   ·exact this
   ·have:=(List.mem_filter.1 hb).2
    simp at this;omega
theorem withI_len (l:List Int) (q:Int):(withI l q).length≤l.length+1:=by
 unfold withI
 split
 ·omega
 ·have:=congrArg List.length (List.take_append_drop (l.countP (·<q)) l)
  rw[List.length_append]at this
  simp only[List.length_append,List.length_cons]
  omega
def portsK (own:List Int) (k:Int × Int) (L:List (Int × Int × Int)):List Int:=L.foldl (fun l h=>if own.contains h.1=true∧h.2=k then withI l h.1 else l) []
theorem portsK_snoc (own:List Int) (k:Int × Int) (L:List (Int × Int × Int)) (h:Int × Int × Int):portsK own k (L++[h])=if own.contains h.1=true∧h.2=k then withI (portsK own k L) h.1 else portsK own k L:=by
 simp[portsK,List.foldl_append]
theorem fold_mem (own:List Int) (k:Int × Int) (a:Int):∀ (L:List (Int × Int × Int)) (l0:List Int),a∈L.foldl (fun l h=>if own.contains h.1=true∧h.2=k then withI l h.1 else l) l0 ↔ a∈l0∨(a∈own∧(a,k)∈L)
 | [],l0=>by simp
 | h :: L,l0=>by
  rw[List.foldl_cons,fold_mem own k a L]
  obtain⟨p,q⟩:=h
  dsimp only
  split
  ·rename_i hc
   obtain⟨h1,rfl⟩:=hc
   rw[withI_mem]
   constructor
   ·rintro ((h|rfl)|h)
    ·exact .inl h
    ·exact .inr ⟨List.contains_iff_mem.1 h1,List.mem_cons_self ..⟩
    ·exact .inr ⟨h.1,List.mem_cons_of_mem _ h.2⟩
   ·rintro (h|⟨h2,h3⟩)
    ·exact .inl (.inl h)
    ·rcases List.mem_cons.1 h3 with e|h3
     ·cases e;exact .inl (.inr rfl)
     ·exact .inr ⟨h2,h3⟩
  ·rename_i hc
   constructor
   ·rintro (h|h)
    ·exact .inl h
    ·exact .inr ⟨h.1,List.mem_cons_of_mem _ h.2⟩
   ·rintro (h|⟨h2,h3⟩)
    ·exact .inl h
    ·rcases List.mem_cons.1 h3 with e|h3
     ·cases e;exact absurd ⟨List.contains_iff_mem.2 h2,rfl⟩ hc
     ·exact .inr ⟨h2,h3⟩
theorem portsK_mem {own:List Int} {k:Int × Int} {L:List (Int × Int × Int)} {a:Int}:a∈portsK own k L ↔ a∈own∧(a,k)∈L:=by
 unfold portsK
 rw[fold_mem]
 simp
theorem fold_rises (own:List Int) (k:Int × Int):∀ (L:List (Int × Int × Int)) (l0:List Int),l0.Pairwise (·<·)→(L.foldl (fun l h=>if own.contains h.1=true∧h.2=k then withI l h.1 else l) l0).Pairwise (·<·)
 | [],_,h=>h
 | _ :: L,l0,h=>fold_rises own k L _ (by
  dsimp only
  split
  ·exact withI_rises h _
  ·exact h)
theorem portsK_rises (own:List Int) (k:Int × Int) (L:List (Int × Int × Int)):(portsK own k L).Pairwise (·<·):=fold_rises own k L [] List.Pairwise.nil
theorem fold_len (own:List Int) (k:Int × Int):∀ (L:List (Int × Int × Int)) (l0:List Int),(L.foldl (fun l h=>if own.contains h.1=true∧h.2=k then withI l h.1 else l) l0).length≤l0.length+L.length
 | [],_=>by simp
 | h :: L,l0=>by
  rw[List.foldl_cons]
  refine Nat.le_trans (fold_len own k L _) ?_
  simp only[List.length_cons]
  split
  ·have:=withI_len l0 h.1;omega
  ·omega
theorem portsK_len (own:List Int) (k:Int × Int) (L:List (Int × Int × Int)):(portsK own k L).length≤L.length:=by
 have:=fold_len own k L []
 rw[List.length_nil,Nat.zero_add]at this
 exact this
theorem rises_one:∀ {l m:List Int},l.Pairwise (·<·)→m.Pairwise (·<·)→(∀a,a∈l ↔ a∈m)→l=m
 | [],[],_,_,_=>rfl
 | [],b :: m,_,_,h=>absurd ((h b).2 (List.mem_cons_self ..)) (by simp)
 | a :: l,[],_,_,h=>absurd ((h a).1 (List.mem_cons_self ..)) (by simp)
 | a :: l,b :: m,hl,hm,h=>by
  obtain⟨h1,h2⟩:=List.pairwise_cons.1 hl
  obtain⟨h3,h4⟩:=List.pairwise_cons.1 hm
  have hab:a=b:=by
   rcases List.mem_cons.1 ((h a).1 (List.mem_cons_self ..)) with e|e
   ·exact e
   ·rcases List.mem_cons.1 ((h b).2 (List.mem_cons_self ..)) with e2|e2
    ·exact e2.symm
    ·have:=h3 a e;have:=h1 b e2;omega
  subst hab
  rw[rises_one h2 h4 fun c=>⟨fun hc=>by
   rcases List.mem_cons.1 ((h c).1 (List.mem_cons_of_mem _ hc)) with e|e
   ·have:=h1 c hc;omega
   ·exact e,fun hc=>by
   rcases List.mem_cons.1 ((h c).2 (List.mem_cons_of_mem _ hc)) with e|e
   ·have:=h3 c hc;omega
   ·exact e⟩]
def inUp (x:Cfg) (r:Int) (k:Int × Int):Int × Int:=if (keyA x r k).2=true then ((keyA x r k).1.1,(keyA x r k).1.2.1) else (-1,-1)
def riseI (l:List Int):List Int:=l.foldl withI []
theorem riseF_mem (a:Int):∀ (l l0:List Int),a∈l.foldl withI l0 ↔ a∈l0∨a∈l
 | [],l0=>by simp
 | b :: l,l0=>by
  rw[List.foldl_cons,riseF_mem a l,withI_mem,List.mem_cons]
  constructor
  ·rintro ((h|h)|h)
   ·exact .inl h
   ·exact .inr (.inl h)
   ·exact .inr (.inr h)
  ·rintro (h|h|h)
   ·exact .inl (.inl h)
   ·exact .inl (.inr h)
   ·exact .inr h
theorem riseI_mem {l:List Int} {a:Int}:a∈riseI l ↔ a∈l:=by unfold riseI;rw[riseF_mem];simp
theorem riseF_rises:∀ (l l0:List Int),l0.Pairwise (·<·)→(l.foldl withI l0).Pairwise (·<·)
 | [],_,h=>h
 | b :: l,_,h=>riseF_rises l _ (withI_rises h b)
theorem riseI_rises (l:List Int):(riseI l).Pairwise (·<·):=riseF_rises l [] List.Pairwise.nil
def outP (i:Int) (l m:List Int):List Int:=(riseI (l++m)).filter fun p=>!(p==i)
theorem outP_mem {i:Int} {l m:List Int} {a:Int}:a∈outP i l m ↔ (a∈l∨a∈m)∧a ≠ i:=by
 unfold outP
 rw[List.mem_filter,riseI_mem,List.mem_append]
 simp
theorem outP_rises (i:Int) (l m:List Int):(outP i l m).Pairwise (·<·):=(riseI_rises _).filter _
structure PRow where
 r:Int
 i:Int
 u:Int
 k:Int × Int
 xs:List Int
def rowK (x:Cfg) (r:Int) (own:List Int) (L:List (Int × Int × Int)) (k:Int × Int):PRow:=⟨r,(inUp x r k).1,(inUp x r k).2,k,outP (inUp x r k).1 (portsK own k L) (portsK own (0,k.2) L)⟩
def heardK (own:List Int) (L:List (Int × Int × Int)):List (Int × Int):=(L.filter fun h=>own.contains h.1).map (·.2)
def askK (x:Cfg) (r:Int) (own:List Int) (L:List (Int × Int × Int)):List (Int × Int):=(keysS (sentP x)).filter fun k=>decide (0<(portsK own (0,k.2) L).length)&&(rtrP x k.2==some r)
def rowKeys (x:Cfg) (r:Int) (own:List Int) (L:List (Int × Int × Int)):List (Int × Int):=keysS (heardK own L++askK x r own L)
def rowsP (x:Cfg) (r:Int) (own:List Int) (L:List (Int × Int × Int)):List PRow:=(rowKeys x r own L).map (rowK x r own L)
theorem heardK_mem {own:List Int} {L:List (Int × Int × Int)} {k:Int × Int}:k∈heardK own L ↔ portsK own k L ≠ []:=by
 unfold heardK
 constructor
 ·intro h e
  obtain⟨⟨p,q⟩,h1,rfl⟩:=List.mem_map.1 h
  obtain⟨h2,h3⟩:=List.mem_filter.1 h1
  have:p∈portsK own q L:=portsK_mem.2 ⟨List.contains_iff_mem.1 h3,h2⟩
  dsimp only at e
  rw[e]at this
  cases this
 ·intro h
  obtain⟨p,hp⟩:=List.exists_mem_of_ne_nil _ h
  obtain⟨h1,h2⟩:=portsK_mem.1 hp
  exact List.mem_map.2 ⟨(p,k),List.mem_filter.2 ⟨h2,List.contains_iff_mem.2 h1⟩,rfl⟩
theorem portsK_same {own:List Int} {k:Int × Int} {L M:List (Int × Int × Int)} (h:∀y,y∈L ↔ y∈M):portsK own k L=portsK own k M :=
 rises_one (portsK_rises own k L) (portsK_rises own k M) fun a=>by rw[portsK_mem,portsK_mem,h]
theorem keysS_same {L M:List (Int × Int)} (h:∀y,y∈L ↔ y∈M):keysS L=keysS M :=
 rises_uniqueK (keysS_rises L) (keysS_rises M) fun a=>by rw[keysS_mem,keysS_mem,h]
theorem rowsP_same {x:Cfg} {r:Int} {own:List Int} {L M:List (Int × Int × Int)} (h:∀y,y∈L ↔ y∈M):rowsP x r own L=rowsP x r own M:=by
 have e1:∀k,portsK own k L=portsK own k M:=fun k=>portsK_same h
 have e2:rowK x r own L=rowK x r own M:=by funext k;unfold rowK;rw[e1,e1]
 have e3:rowKeys x r own L=rowKeys x r own M:=by
  unfold rowKeys
  have:askK x r own L=askK x r own M:=by unfold askK;simp only[e1]
  rw[this]
  refine keysS_same fun y=>?_
  rw[List.mem_append,List.mem_append,heardK_mem,heardK_mem,e1]
 unfold rowsP
 rw[e2,e3]
end Go.Proofs.YtfidicbknjoafaaGreatDoor
