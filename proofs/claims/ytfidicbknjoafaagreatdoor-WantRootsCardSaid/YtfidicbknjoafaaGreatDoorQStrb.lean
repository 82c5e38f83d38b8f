/- Plain facts on lines and words: splitting a text, cutting its notes off and splitting by the runes between words gives what one pass over its bytes gives. -/
import Derived.Test.YtfidicbknjoafaaGreatDoorQSort
import Derived.Shelf.SlSortCmp.NoneTotal
import Derived.OwnWalk
import Derived.Handy
import Derived.Carry
import Derived.Test.YtfidicbknjoafaaGreatDoorQCf
import Derived.Test.YtfidicbknjoafaaGreatDoorQKit
import Derived.WalkKit
import Derived.Laws.BitsAllLaws
import Derived.Maps.AppendAt
import Derived.Deep.AppendLies
import Derived.Test.YtfidicbknjoafaaGreatDoorQOn
import Derived.Test.YtfidicbknjoafaaGreatDoorProg
import Derived.Test.YtfidicbknjoafaaGreatDoorQCp
import Derived.BigQuiet
import Derived.Deep.QuietTactic
import Derived.Deep.DeepAppendRoom
import Derived.Lib.SliceRun
import Derived.Lib.FieldsP
import Derived.Lib.SplitLaws
namespace Go.Proofs.YtfidicbknjoafaaGreatDoor
open Go.RowKit Go.Maps Go.Sort Go.Shelf
theorem PF_flatK (l:List (Int × Int)):PFK l=l.flatMap CKy:=by
 unfold PFK CKy;rw[List.flatMap_def]
def ltPK (p q:(Int × Int)):Prop:=p.2<q.2∨(p.2=q.2∧p.1<q.1)
theorem ord_ltK (p q:(Int × Int)):ltOf ordPK p q=true ↔ ltPK p q:=by
 unfold ltOf ordPK orI cmpI ltPK
 obtain⟨a,b⟩:=p
 obtain⟨c,d⟩:=q
 simp only
 by_cases h1:b<d
 ·simp[h1]
 ·by_cases h2:d<b
  ·have h3:¬ b=d:=by omega
   simp[h1,h2,h3]
  ·have h3:b=d:=by omega
   subst h3
   by_cases h4:a<c
   ·simp[h4]
   ·by_cases h5:c<a <;> simp[h4,h5]
theorem ord_geK (p q:(Int × Int)):ltOf ordPK p q=false ↔ ¬ ltPK p q:=by rw[←ord_ltK,Bool.not_eq_true]
theorem swoPK:SWO (ltOf ordPK) where
 irrefl x:=by rw[ord_geK];simp[ltPK]
 trans x y z h1 h2:=by rw[ord_ltK]at *;unfold ltPK at *;omega
 ntrans x y z h1 h2:=by rw[ord_geK]at *;unfold ltPK at *;omega
theorem totalPK (x y:(Int × Int)) (h1:ltOf ordPK x y=false) (h2:ltOf ordPK y x=false):x=y:=by
 rw[ord_geK]at h1 h2
 unfold ltPK at h1 h2
 exact Prod.ext (by omega) (by omega)
def sortKs (ss:List (Int × Int)):List (Int × Int):=ss.mergeSort fun x y=>!ltOf ordPK y x
theorem sortP_permK (ss:List (Int × Int)):(sortKs ss).Perm ss:=List.mergeSort_perm _ _
theorem sortP_risesK {ss:List (Int × Int)} (hn:ss.Nodup):(sortKs ss).Pairwise ltPK:=by
 have tr:∀a b c:(Int × Int),(!ltOf ordPK b a)=true→(!ltOf ordPK c b)=true→(!ltOf ordPK c a)=true:=fun a b c h1 h2=>by
  rw[Bool.not_eq_true',ord_geK]at *;unfold ltPK at *;omega
 have tto:∀a b:(Int × Int),((!ltOf ordPK b a) || (!ltOf ordPK a b))=true:=fun a b=>by
  rw[Bool.or_eq_true,Bool.not_eq_true',Bool.not_eq_true',ord_geK,ord_geK];unfold ltPK;omega
 have h:=List.pairwise_mergeSort (le:=fun x y=>!ltOf ordPK y x) tr tto ss
 have hn':(sortKs ss).Nodup:=(sortP_permK ss).nodup_iff.2 hn
 refine (h.and hn').imp fun {a b} h=>?_
 have h1:=h.1
 have h2:=h.2
 rw[Bool.not_eq_true',ord_geK]at h1
 have h3:¬ (a.1=b.1∧a.2=b.2):=fun e=>h2 (Prod.ext e.1 e.2)
 unfold ltPK at *
 omega
theorem cmpLaysK (blk off size:Nat) (w:World):CmpLays Tryz.prog 199 #[] CKy 2 ordPK blk off size w :=
 fun _ _ _ _ x y=>(korder_any x.1 x.2 y.1 y.2 _).mono fun _ _ ⟨he,hg⟩=>⟨he,hg⟩
theorem grown_sortedK {w:World} {g n:Nat} {os:Array Obj} (d:Array (Int × Int)):w.grownBy (sortWorldK CKy 2 w g 0 n d os) (some g):=by
 refine⟨rfl,rfl,rfl,by simp[sortWorldK,putRowK,putRow,mapBlock,Sort.ahead,Sort.grow],fun k hk hne=>?_⟩
 unfold sortWorldK
 rw[heap_grow_old _ _ (by simpa [putRowK,putRow,mapBlock,Sort.ahead] using hk)]
 have:g ≠ k:=fun e=>hne (by rw[e])
 simp[putRowK,putRow,mapBlock,Sort.ahead,Array.getElem?_modify,this]
theorem holds_ownK {w:World} {base g cap:Nat} {ss:List (Int × Int)} (h:w.ownsRow base 57 2 (.slice (some ⟨g,0,none⟩) ss.length cap) ss.length (PFK ss)):HoldsK CKy 2 w g 0 ss.toArray∧g<w.heap.size:=by
 rcases h.2 with ⟨hv,_⟩|⟨g',cap',cur,hv,_,hh,hnc,_,hsz,ht⟩
 ·cases hv
 ·have hg:g=g':=by cases hv;rfl
  subst hg
  refine⟨fun j hj=>?_,(Array.getElem?_eq_some_iff.1 hh).1⟩
  have hj':j<ss.length*2:=by simpa using hj
  refine⟨?_,by simp[World.frozen?,hh]⟩
  rw[get_flatK _ _ _ _ (by simpa using hj'),Nat.zero_add,cell_of_row w g j cur _ (0,0) hh]
  have h1:(cur.toList.take (ss.length*2))[j]?=(PFK ss)[j]?:=by rw[ht]
  rw[List.getElem?_take_of_lt hj']at h1
  rw[←Array.getElem?_toList,h1]
  have hat:∀ (l:List (Int × Int)) (j:Nat),j<l.length*2→(PFK l)[j]?=some (CKy l.toArray[j / 2]!)[j % 2]!:=by
   intro l
   induction l with
   | nil=>intro j hj;simp at hj
   | cons x r ih =>
    intro j hj
    have e:PFK (x :: r)=[Value.int .u32 x.1,.int .u32 x.2]++PFK r:=rfl
    rw[e]
    match j,hj with
    | 0,_=>simp[CKy]
    | 1,_=>simp[CKy]
    | j+2,hj =>
     rw[List.getElem?_append_right (by simp)]
     simp only[List.length_cons,List.length_nil,Nat.reduceAdd,Nat.add_sub_cancel]
     rw[ih j (by simp at hj;omega),show (j+2) / 2=j / 2+1 by omega,show (j+2) % 2=j % 2 by omega]
     simp
  exact hat ss j hj'
theorem reads_holdsK {w:World} {g:Nat} {ks:List (Int × Int)} (h:HoldsK CKy 2 w g 0 ks.toArray) (hg:g<w.heap.size):RI CKy 2 w (some ⟨g,0,none⟩) ks.length ks:=by
 refine⟨rfl,fun _=>⟨g,0,rfl,hg,fun i x hx j v hv=>?_⟩⟩
 have hi:=(List.getElem?_eq_some_iff.1 hx).1
 have hj:j<2:=by have:=(List.getElem?_eq_some_iff.1 hv).1;simpa [CKy] using this
 have hc:=(HoldsK.cell h (i:=i) (c:=j) (by simpa using hi) hj).1
 rw[hc]
 have e1:ks.toArray[i]! = x:=by
  have:=(List.getElem?_eq_some_iff.1 hx).2
  simp[hi,this]
 rw[e1]
 obtain⟨h1,h2⟩:=List.getElem?_eq_some_iff.1 hv
 rw[getElem!_pos (CKy x) j h1,h2]
theorem sortP_lenK (ss:List (Int × Int)):(sortKs ss).length=ss.length:=(sortP_permK ss).length_eq
theorem eOrderK:∀args w,(callFunc 199 args).run Tryz.prog w=.ok (.enter 199 args) w:=enters_of Tryz.func199 (by kernel_rfl) rfl
theorem eKeysK:∀args w,(callFunc 240 args).run Tryz.prog w=.ok (.enter 240 args) w:=enters_of Tryz.func240 (by kernel_rfl) rfl
theorem sort_someK (g cap base:Nat) (ss:List (Int × Int)) (w:World) (h:w.ownsRow base 57 2 (.slice (some ⟨g,0,none⟩) ss.length cap) ss.length (PFK ss)) (hn:ss.length≤1000000) :
  Calls Tryz.prog 239 #[.slice (some ⟨g,0,none⟩) ss.length cap,.func (.func 199) #[] #[]] w fun e w'=>e=.returned (.tuple #[])∧RI CKy 2 w' (some ⟨g,0,none⟩) ss.length (sortKs ss)∧w.grownBy w' (some g):=by
 obtain⟨hH,hg⟩:=holds_ownK h
 have hcon:=AnyQ.slices_SortFunc_total Tryz.sortKy 2 Tryz.isAgg57 Tryz.sizeOf57 CKy (fun _=>rfl) (fun x v hv=>by simp[CKy]at hv;rcases hv with rfl|rfl <;> rfl) ordPK swoPK 199 #[] g 0 cap ss.toArray w eOrderK (cmpLaysK g 0 ss.toArray.size w) hH hg (by simp;omega) totalPK
 simp only[List.size_toArray]at hcon
 refine hcon.mono ?_
 rintro e w' ⟨rfl,n,os,rfl⟩
 refine⟨rfl,?_,grown_sortedK _⟩
 have hk:HoldsK CKy 2 (sortWorldK CKy 2 w g 0 n (sortKs ss).toArray os) g 0 (sortKs ss).toArray:=by
  unfold sortWorldK
  refine holdsK_grow _ _ _ _ _ _ _ (by simpa [putRowK,putRow,mapBlock,Sort.ahead] using hg) ?_
  exact holdsK_putRowK _ _ _ _ _ ss.toArray _ (holdsK_ahead _ _ _ _ _ _ _ hH) (by simp[sortP_lenK])
 have hr:=reads_holdsK hk (by simp[sortWorldK,putRowK,putRow,mapBlock,Sort.ahead,Sort.grow];omega)
 rw[sortP_lenK]at hr
 exact hr
instance decLtPK (p q:Int × Int):Decidable (ltPK p q):=by unfold ltPK;exact inferInstance
def nubK:List (Int × Int)→List (Int × Int)
 | []=>[]
 | a :: l=>if a∈nubK l then nubK l else a :: nubK l
theorem nubK_mem:∀ (l:List (Int × Int)) (a:Int × Int),a∈nubK l ↔ a∈l
 | [],a=>by simp[nubK]
 | b :: l,a=>by
  unfold nubK
  split
  ·rename_i h
   rw[nubK_mem l a,List.mem_cons]
   exact⟨Or.inr,fun h1=>h1.elim (fun e=>by rw[e];exact (nubK_mem l b).1 h) id⟩
  ·rw[List.mem_cons,List.mem_cons,nubK_mem l a]
theorem nubK_nodup:∀l:List (Int × Int),(nubK l).Nodup
 | []=>List.nodup_nil
 | a :: l=>by
  unfold nubK
  split
  ·exact nubK_nodup l
  ·rename_i h;exact List.nodup_cons.2 ⟨h,nubK_nodup l⟩
theorem nubK_len:∀l:List (Int × Int),(nubK l).length≤l.length
 | []=>Nat.le_refl _
 | a :: l=>by
  have:=nubK_len l
  unfold nubK
  split <;> simp <;> omega
def keysS (L:List (Int × Int)):List (Int × Int):=sortKs (nubK L)
theorem keysS_mem (L:List (Int × Int)) (a:Int × Int):a∈keysS L ↔ a∈L:=by
 unfold keysS
 rw[(sortP_permK _).mem_iff,nubK_mem]
theorem keysS_rises (L:List (Int × Int)):(keysS L).Pairwise ltPK:=sortP_risesK (nubK_nodup L)
theorem keysS_len (L:List (Int × Int)):(keysS L).length≤L.length:=by
 unfold keysS;rw[sortP_lenK];exact nubK_len L
theorem ltPK_irrefl (p:Int × Int):¬ ltPK p p:=by unfold ltPK;omega
theorem ltPK_trans {p q r:Int × Int} (h:ltPK p q) (k:ltPK q r):ltPK p r:=by unfold ltPK at *;omega
theorem rises_uniqueK:∀ {l m:List (Int × Int)},l.Pairwise ltPK→m.Pairwise ltPK→(∀a,a∈l ↔ a∈m)→l=m
 | [],[],_,_,_=>rfl
 | [],b :: m,_,_,h=>by have:=(h b).2 (List.mem_cons_self ..);cases this
 | a :: l,[],_,_,h=>by have:=(h a).1 (List.mem_cons_self ..);cases this
 | a :: l,b :: m,hl,hm,h=>by
  rw[List.pairwise_cons]at hl hm
  have e:a=b:=by
   rcases List.mem_cons.1 ((h a).1 (List.mem_cons_self ..)) with e|h1
   ·exact e
   ·rcases List.mem_cons.1 ((h b).2 (List.mem_cons_self ..)) with e|h2
    ·exact e.symm
    ·exact absurd (ltPK_trans (hm.1 a h1) (hl.1 b h2)) (ltPK_irrefl b)
  subst e
  have:l=m:=rises_uniqueK hl.2 hm.2 fun c=>⟨fun hc=>by
   rcases List.mem_cons.1 ((h c).1 (List.mem_cons_of_mem _ hc)) with e|h1
   ·exact absurd (e ▸ hl.1 c hc) (ltPK_irrefl a)
   ·exact h1,fun hc=>by
   rcases List.mem_cons.1 ((h c).2 (List.mem_cons_of_mem _ hc)) with e|h1
   ·exact absurd (e ▸ hm.1 c hc) (ltPK_irrefl a)
   ·exact h1⟩
  rw[this]
theorem same_onceK {ss l:List (Int × Int)} (h:ss.Nodup) (hm:∀a,a∈ss ↔ a∈l):ss.Perm (nubK l) :=
 (List.perm_ext_iff_of_nodup h (nubK_nodup l)).2 fun a=>(hm a).trans (nubK_mem l a).symm
theorem sortKs_same {xs ys:List (Int × Int)} (hx:xs.Nodup) (h:xs.Perm ys):sortKs xs=sortKs ys :=
 rises_uniqueK (sortP_risesK hx) (sortP_risesK (h.nodup_iff.1 hx)) fun a=>by rw[(sortP_permK _).mem_iff,(sortP_permK _).mem_iff,h.mem_iff]
def CntK (D:DataW Unit) (L:List (Int × Int)):Prop:=IsMap D∧∀a,UK a→Maps.has D (klit a)=decide (a∈L)∧D.atKey (klit a) (.lit (.int .i64 0))=.lit (.int .i64 ((L.count a:Nat):Int))
theorem cntk_nil:CntK (.map []) []:=⟨⟨_,rfl⟩,fun a _=>⟨by simp[Maps.has],by simp[DataW.atKey]⟩⟩
set_option maxRecDepth 100000 in
theorem klit_key {a:Int × Int} (h:UK a):WideAt.IsKeyLit (klit a):=keyedPK.key (kv_key h)
set_option maxRecDepth 100000 in
theorem cntk_put {D:DataW Unit} {L:List (Int × Int)} (h:CntK D L) {a:Int × Int} (ha:UK a):CntK (D.put (klit a) (.lit (.int .i64 (((L.count a:Nat):Int)+1)))) (L++[a]):=by
 refine⟨h.1.put _ _,fun b hb=>?_⟩
 obtain⟨h1,h2⟩:=h.2 b hb
 by_cases e:a=b
 ·subst e
  rw[has_put_same h.1 (klit_key ha),atKey_put_same h.1 (klit_key ha)]
  simp
 ·have hne:klit b ≠ klit a:=fun q=>e (klit_inj ha hb q.symm)
  rw[has_put_other hne,atKey_put_other hne,h1,h2]
  have hc:List.count b [a]=0:=List.count_eq_zero.2 (by simp;exact fun q=>e q.symm)
  rw[List.count_append,hc]
  simp[Ne.symm e]
set_option maxRecDepth 100000 in
theorem met_keys {D:DataW Unit} {L ss:List (Int × Int)} (h:CntK D L) (hu:∀a∈L,UK a) (hm:AllMetK D ss):ss.Perm (nubK L):=by
 obtain⟨left,hm,hl⟩:=hm
 refine same_onceK hm.apart fun a=>⟨fun ha=>?_,fun ha=>?_⟩
 ·obtain⟨kl,hk⟩:=hm.keys a ha
  obtain⟨p,e,hp⟩:=key_kv hk
  obtain rfl:=kv_inj e
  have hk2:=kv_key hp
  have:=((hm.just a _ hk2).1 ha).1
  rw[(h.2 a hp).1]at this
  simpa using this
 ·have hk2:=kv_key (hu a ha)
  exact (hm.just a _ hk2).2 ⟨by rw[(h.2 a (hu a ha)).1];simpa using ha,hl _⟩
end Go.Proofs.YtfidicbknjoafaaGreatDoor
namespace Go.Proofs.YtfidicbknjoafaaGreatDoor
namespace Sm
theorem zero2_len (xs:List Int) (i:Nat):(zero2 xs i).length=xs.length:=by simp[zero2]
theorem put2_len (xs:List Int) (i:Nat) (s:Int):(put2 xs i s).length=xs.length:=by simp[put2]
theorem put_len (xs:List Int) (a:Int):(put xs a).length=xs.length:=by
 unfold put
 split
 ·rw[put2_len,zero2_len]
 ·rfl
end Sm
end Go.Proofs.YtfidicbknjoafaaGreatDoor
namespace Go.Proofs.YtfidicbknjoafaaGreatDoor
open Go.RowKit Sm
section
variable {w w':World} {A:Option Addr} {n:Nat} {xs:List Int}
theorem own_up {base base':Nat} {e:TypeId} {v:Value} {ys:List Value} (h:w.ownsRow base' e 1 v n ys) (hb:base≤base'):w.ownsRow base e 1 v n ys:=by
 refine⟨h.1,?_⟩
 rcases h.2 with hn|⟨g,cap,cur,rfl,hbg,hh,rest⟩
 ·exact .inl hn
 ·exact .inr ⟨g,cap,cur,rfl,Nat.le_trans hb hbg,hh,rest⟩
end
end Go.Proofs.YtfidicbknjoafaaGreatDoor
namespace Go.Proofs.YtfidicbknjoafaaGreatDoor
namespace Sm
end Sm
end Go.Proofs.YtfidicbknjoafaaGreatDoor
namespace Go.Proofs.YtfidicbknjoafaaGreatDoor
namespace Sm
end Sm
end Go.Proofs.YtfidicbknjoafaaGreatDoor
namespace Go.Proofs.YtfidicbknjoafaaGreatDoor
open Go.RowKit Sm
section
variable {w w':World} {A:Option Addr} {n:Nat} {xs:List Int}
end
end Go.Proofs.YtfidicbknjoafaaGreatDoor
namespace Go.Proofs.YtfidicbknjoafaaGreatDoor
open Go.RowKit
theorem I64_len (xs:List Int):(I64 xs).length=xs.length:=by simp[I64]
section
variable {w w':World} {A:Option Addr} {n:Nat} {xs:List Int}
end
end Go.Proofs.YtfidicbknjoafaaGreatDoor
namespace Go.Proofs.YtfidicbknjoafaaGreatDoor
open Go.RowKit Lx
end Go.Proofs.YtfidicbknjoafaaGreatDoor
namespace Go.Proofs.YtfidicbknjoafaaGreatDoor
open Go.RowKit Lx
end Go.Proofs.YtfidicbknjoafaaGreatDoor
namespace Go.Proofs.YtfidicbknjoafaaGreatDoor
namespace Lx
def push (ws:List (List UInt8)) (wd:List UInt8):List (List UInt8):=if wd=[] then ws else ws++[wd]
end Lx
end Go.Proofs.YtfidicbknjoafaaGreatDoor
namespace Go.Proofs.YtfidicbknjoafaaGreatDoor
open Go.RowKit
namespace Lx
end Lx
open Lx
section
variable {w w':World} {A:Option Addr} {n:Nat} {ws:List (List UInt8)}
end
theorem own_nextk {w w':World} {base k n:Nat} {e:TypeId} {v:Value} {ys:List Value} (h:w.ownsRow base e k v n ys) (hb:Below w.heap.size w w'):w'.ownsRow base e k v n ys:=by
 refine⟨h.1,?_⟩
 rcases h.2 with hn|⟨g,cap,cur,rfl,hbg,hh,rest⟩
 ·exact .inl hn
 ·exact .inr ⟨g,cap,cur,rfl,hbg,(hb.block g (Array.getElem?_eq_some_iff.1 hh).1).trans hh,rest⟩
section
variable {w w':World} {tS tL:TypeId}
end
section
variable {w w':World} {A:Option Addr} {n:Nat} {L:List (Nat × List (List UInt8))} {tS tL:TypeId}
end
end Go.Proofs.YtfidicbknjoafaaGreatDoor
