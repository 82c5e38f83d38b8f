/- want. -/
import Derived.Test.YtfidicbknjoafaaGreatDoorQStrb
import Derived.Test.YtfidicbknjoafaaGreatDoorQYw
import Derived.Test.YtfidicbknjoafaaGreatDoorQYm
import Derived.Test.YtfidicbknjoafaaGreatDoorQShw
import Derived.Shelf.Spec.SlicesInsert
import Derived.Shelf.Spec.SlicesInsertGrow
import Derived.Deep.Upon
namespace Go.Proofs.YtfidicbknjoafaaGreatDoor
open Go.RowKit Lx Sm Go.Maps Go.Lib Go.Shelf
def sets (cs:Array Value):Nat→List Value→Array Value
 | _,[]=>cs
 | o,v :: r=>sets (cs.setIfInBounds o v) (o+1) r
theorem sets_size:∀ (vs:List Value) (cs:Array Value) (o:Nat),(sets cs o vs).size=cs.size
 | [],_,_=>rfl
 | v :: r,cs,o=>by unfold sets;rw[sets_size r];simp
theorem sets_at:∀ (vs:List Value) (cs:Array Value) (o i:Nat),o+vs.length≤cs.size→(sets cs o vs)[i]?=if o≤i∧i<o+vs.length then vs[i - o]? else cs[i]?
 | [],cs,o,i,_=>by unfold sets;rw[if_neg (by simp)]
 | v :: r,cs,o,i,h=>by
  simp only[List.length_cons]at h
  unfold sets
  rw[sets_at r _ _ _ (by simp;omega)]
  simp only[List.length_cons]
  by_cases h1:o+1≤i∧i<o+1+r.length
  ·rw[if_pos h1,if_pos (by omega)]
   obtain⟨j,hj⟩:∃j,i - o=j+1:=⟨i - o - 1,by omega⟩
   rw[hj,List.getElem?_cons_succ,show i - (o+1)=j by omega]
  ·rw[if_neg h1]
   by_cases h2:i=o
   ·subst h2
    rw[if_pos (by omega),Nat.sub_self,List.getElem?_cons_zero,Array.getElem?_setIfInBounds]
    simp only[if_true]
    rw[if_pos (by omega)]
   ·rw[if_neg (by omega),Array.getElem?_setIfInBounds_ne (by omega)]
theorem Blk.sets_ {w:World} {g:Nat} {t:TypeId}:∀ (vs:List Value) {cs:Array Value} (o:Nat),Blk w g t cs→Blk (w.setCells g o vs) g t (sets cs o vs)
 | [],_,_,h=>h
 | v :: r,cs,o,h=>by
  unfold World.setCells sets
  exact Blk.sets_ r (o+1) (h.set_ o v)
theorem own_of {w:World} {g cap n:Nat} {cs:Array Value} {ys:List Int} (h:Blk w g 3 cs) (hs:cs.size=cap) (hc:cap≤maxLen) (hl:ys.length=n) (hn:n≤cap) (hv:∀i,i<n→cs[i]?=some (.int .i64 (ys.getD i 0))):w.ownsRow 0 3 1 (.slice (some ⟨g,0,none⟩) n cap) n (I64 ys):=by
 refine⟨by rw[I64_len,hl];omega,.inr ⟨g,cap,cs,rfl,Nat.zero_le _,h,hn,hc,by omega,?_⟩⟩
 apply List.ext_getElem?
 intro i
 rw[List.getElem?_take,Nat.mul_one]
 by_cases hi:i<n
 ·rw[if_pos hi]
  have:=hv i hi
  rw[Array.getElem?_toList,this]
  simp[I64,List.getD,List.getElem?_eq_getElem (show i<ys.length by omega)]
 ·rw[if_neg hi]
  symm
  rw[List.getElem?_eq_none_iff,I64_len]
  omega
theorem own_cells {w:World} {g n cap:Nat} {xs:List Int} (h:w.ownsRow 0 3 1 (.slice (some ⟨g,0,none⟩) n cap) n (I64 xs)):∃cs,Blk w g 3 cs∧cs.size=cap∧n≤cap∧cap≤maxLen∧xs.length=n∧∀i,i<n→cs[i]?=some (.int .i64 (xs.getD i 0)):=by
 have hl:=h.1
 rw[I64_len]at hl
 rcases h.2 with ⟨e,_⟩|⟨g',cap',cur,e,_,hb,h1,h2,h3,h4⟩
 ·cases e
 ·cases e
  refine⟨cur,hb,by omega,h1,h2,by omega,fun i hi=>?_⟩
  have:=congrArg (fun l=>l[i]?) h4
  simp only[Nat.mul_one]at this
  rw[List.getElem?_take,if_pos hi,Array.getElem?_toList]at this
  rw[this]
  simp[I64,List.getD,List.getElem?_eq_getElem (show i<xs.length by omega)]
theorem insI_getD {xs:List Int} {i j:Nat} {q:Int} (hi:i≤xs.length):(xs.take i++q :: xs.drop i).getD j 0=if j<i then xs.getD j 0 else if j=i then q else xs.getD (j - 1) 0:=by
 simp only[List.getD_eq_getElem?_getD]
 by_cases h1:j<i
 ·rw[if_pos h1,List.getElem?_append_left (by simp;omega),List.getElem?_take,if_pos h1]
 ·rw[if_neg h1,List.getElem?_append_right (by simp;omega)]
  have e:(xs.take i).length=i:=by simp;omega
  rw[e]
  by_cases h2:j=i
  ·subst h2;rw[if_pos rfl];simp
  ·rw[if_neg h2]
   obtain⟨m,hm⟩:∃m,j - i=m+1:=⟨j - i - 1,by omega⟩
   rw[hm,List.getElem?_cons_succ,List.getElem?_drop,show i+m=j - 1 by omega]
structure InsOK (w w':World) (v v':Value) (ys:List Int):Prop where
 own:w'.ownsRow 0 3 1 v' ys.length (I64 ys)
 grown:w.grownBy w' v.ownBlock
 loc:∀g,v'.ownBlock=some g→v.ownBlock=some g∨w.heap.size≤g
theorem tape_setCells {g:Nat}:∀ (vs:List Value) (o:Nat) (w:World),(w.setCells g o vs).tape=w.tape
 | [],_,_=>rfl
 | v :: r,o,w=>by unfold World.setCells;rw[tape_setCells r];rfl
theorem grown_sets {w:World} {g o:Nat} (vs:List Value):w.grownBy (w.setCells g o vs) (some g) :=
 ⟨World.os_setCells w g o vs,tape_setCells vs o w,World.output_setCells w g o vs,by simp,fun i hi hne=>World.heap_setCells_other w g o vs hi (fun e=>hne (by rw[e]))⟩
theorem ys_len {xs:List Int} {i n:Nat} {q:Int} (hl:xs.length=n) (hi:i≤n):(xs.take i++q :: xs.drop i).length=n+1:=by
 simp only[List.length_append,List.length_take,List.length_cons,List.length_drop]
 omega
theorem i64_drop {xs:List Int} {i m:Nat} (h:i+m<xs.length):((I64 xs).drop i)[m]?=some (.int .i64 (xs.getD (i+m) 0)):=by
 rw[List.getElem?_drop]
 simp[I64,List.getD,List.getElem?_eq_getElem h]
theorem sets_ins {cs:Array Value} {xs:List Int} {i n cap:Nat} {q:Int} (hl:xs.length=n) (hi:i≤n) (hs:cs.size=cap) (hc:n+1≤cap) (h0:∀j,j<i→cs[j]?=some (.int .i64 (xs.getD j 0))) :
  (∀j,j<n+1→(sets (sets cs (i+1) ((I64 xs).drop i)) i [.int .i64 q])[j]?=some (.int .i64 ((xs.take i++q :: xs.drop i).getD j 0))) ∧
  (∀j,j<n+1→(sets (sets cs i [.int .i64 q]) (i+1) ((I64 xs).drop i))[j]?=some (.int .i64 ((xs.take i++q :: xs.drop i).getD j 0))):=by
 have hd:((I64 xs).drop i).length=n - i:=by rw[List.length_drop,I64_len,hl]
 have e1:∀c:Array Value,c.size=cap→∀j,(sets c (i+1) ((I64 xs).drop i))[j]?=if i+1≤j∧j<i+1+(n - i) then ((I64 xs).drop i)[j - (i+1)]? else c[j]?:=fun c hc2 j=>by
  rw[sets_at _ _ _ _ (by rw[hd];omega),hd]
 have e2:∀c:Array Value,c.size=cap→∀j,(sets c i [.int .i64 q])[j]?=if i≤j∧j<i+1 then some (.int .i64 q) else c[j]?:=fun c hc2 j=>by
  rw[sets_at _ _ _ _ (by simp;omega)]
  simp only[List.length_cons,List.length_nil,Nat.zero_add]
  by_cases h:i≤j∧j<i+1
  ·rw[if_pos h,if_pos h,show j - i=0 by omega];rfl
  ·rw[if_neg h,if_neg h]
 constructor
 ·intro j hj
  rw[e2 _ (by rw[sets_size];exact hs),e1 _ hs,insI_getD (by omega)]
  by_cases h1:j<i
  ·rw[if_neg (by omega),if_neg (by omega),if_pos h1,h0 j h1]
  ·by_cases h2:j=i
   ·rw[if_pos (by omega),if_neg h1,if_pos h2]
   ·rw[if_neg (by omega),if_pos (by omega),if_neg h1,if_neg h2,i64_drop (by omega),show i+(j - (i+1))=j - 1 by omega]
 ·intro j hj
  rw[e1 _ (by rw[sets_size];exact hs),e2 _ hs,insI_getD (by omega)]
  by_cases h1:j<i
  ·rw[if_neg (by omega),if_neg (by omega),if_pos h1,h0 j h1]
  ·by_cases h2:j=i
   ·rw[if_neg (by omega),if_pos (by omega),if_neg h1,if_pos h2]
   ·rw[if_pos (by omega),if_neg h1,if_neg h2,i64_drop (by omega),show i+(j - (i+1))=j - 1 by omega]
theorem zeros_size (k:Nat):(Builtin.zeroCells (Value.int .i64 0).cells k).size=k:=by simp[Builtin.zeroCells,Value.cells]
theorem InsOK.of {w W:World} {v:Value} {g cap n i:Nat} {xs:List Int} {q:Int} {cs:Array Value} (hb:Blk W g 3 cs) (hs:cs.size=cap) (hc:cap≤maxLen) (hl:xs.length=n) (hi:i≤n) (hn:n+1≤cap)
  (hv:∀j,j<n+1→cs[j]?=some (.int .i64 ((xs.take i++q :: xs.drop i).getD j 0))) (hg:w.grownBy W v.ownBlock) (hloc:v.ownBlock=some g∨w.heap.size≤g):InsOK w W v (.slice (some ⟨g,0,none⟩) (n+1) cap) (xs.take i++q :: xs.drop i) :=
 ⟨by rw[ys_len hl hi];exact own_of hb hs hc (ys_len hl hi) hn hv,hg,fun g' e=>by
  have:g'=g:=by simp[Value.ownBlock]at e;exact e.symm
  subst this;exact hloc⟩
theorem grown_alloc_none (w:World) (o:Obj) (r:Option Nat):w.grownBy (w.drew.alloc o) r:=⟨rfl,rfl,rfl,by simp,fun k hk _=>by
 have:=(((Below.refl w.heap.size w).drew).alloc (Nat.le_refl _) o).block k hk
 exact this⟩
theorem arr_left {l:List Value} {z:Array Value} {j:Nat} (h:j<l.length):(l.toArray++z)[j]?=l[j]?:=by
 rw[Array.getElem?_append_left (by simpa using h)]
 simp
theorem shape_blk {w:World} {g:Nat} {t:TypeId} {cs:Array Value} (h:Blk w g t cs):w.shape? g=some (t,cs.size):=by
 unfold Blk at h
 simp[World.shape?,h]
theorem grown_drw0 (w:World) (r:Option Nat):w.grownBy w.drew r:=⟨rfl,rfl,rfl,Nat.le_refl _,fun _ _ _=>rfl⟩
theorem i64_at {xs:List Int} {j:Nat} (h:j<xs.length):(I64 xs)[j]?=some (.int .i64 (xs.getD j 0)):=by
 simp[I64,List.getD,List.getElem?_eq_getElem h]
set_option maxHeartbeats 2000000 in
theorem insert_any (v:Value) (n i:Nat) (xs:List Int) (q:Int) (gl:Nat) (w:World) (ho:w.ownsRow 0 3 1 v n (I64 xs)) (hi:i≤n) (hn:n≤1000) (hb:Blk w gl 3 #[.int .i64 q]) (hne:v.ownBlock ≠ some gl) :
  Calls Tryz.prog 191 #[v,.int .i64 (i:Int),.slice (some ⟨gl,0,none⟩) 1 1] w fun e w'=>∃v',e=.returned v'∧InsOK w w' v v' (xs.take i++q :: xs.drop i):=by
 have hvs:∀j u,([Value.int .i64 q]:List Value)[j]?=some u→w.cell? ⟨gl,0+j,none⟩=some u:=fun j u hj=>by
  cases j with
  | zero=>simp at hj;subst hj;exact hb.cell 0
  | succ j=>simp at hj
 have h1v:∀u∈([Value.int .i64 q]:List Value),u.oneCell'=true:=fun u hu=>by simp at hu;subst hu;rfl
 have hxl:xs.length=n:=by have:=ho.1;rw[I64_len]at this;omega
 rcases ho.2 with ⟨rfl,rfl⟩|⟨g,cap,cur,rfl,_,hh,h1,h2,h3,h4⟩
 ·obtain rfl:i=0:=by omega
  obtain rfl:xs=[]:=List.eq_nil_of_length_eq_zero hxl
  refine (Any2.slices_Insert_int_end_grow Tryz.insertI none 0 0 gl 0 1 1 [] [.int .i64 q] w (by omega) (by omega) (by omega) (by omega) rfl rfl (fun _=>rfl) (fun a h=>by cases h) hvs h1v).mono ?_
  rintro e w' ⟨rfl,rfl⟩
  have hge:=grownCap_ge w (0+1) 0 (Tryz.insertI_ren.t 3)
  have hle:=grownCap_le_maxLen w (0+1) 0 (Tryz.insertI_ren.t 3) (by unfold maxLen;omega)
  refine⟨_,rfl,InsOK.of (n:=0) (i:=0) (xs:=[]) (Blk.new _ _ _) ?_ hle rfl (Nat.le_refl _) hge ?_ (grown_alloc_none _ _ _) (.inr (Nat.le_refl _))⟩
  ·simp only[Array.size_append,zeros_size,List.size_toArray,List.length_append,List.length_cons,List.length_nil]
   omega
  ·intro j hj
   obtain rfl:j=0:=by omega
   rw[arr_left (by simp)]
   rfl
 ·have hbl:Blk w g 3 cur:=hh
  obtain⟨cs,hb1,hs1,_,_,_,hv1⟩:=own_cells ho
  obtain rfl:cs=cur:=by unfold Blk at hb1;rw[hh]at hb1;cases hb1;rfl
  have hgl:gl ≠ g:=fun e=>hne (by simp[Value.ownBlock,e])
  have hcs:∀j u,(I64 xs)[j]?=some u→w.cell? ⟨g,0+j,none⟩=some u:=fun j u hj=>by
   have hjl:j<n:=by have:=(List.getElem?_eq_some_iff.1 hj).1;rw[I64_len]at this;omega
   rw[Nat.zero_add,hbl.cell,hv1 j hjl,←hj,i64_at (by omega)]
  have h1c:∀u∈I64 xs,u.oneCell'=true:=I64_one xs
  have hcell:∀j,j<cap→(w.cell? ⟨g,0+j,none⟩).isSome=true:=fun j hj=>by rw[Nat.zero_add,hbl.cell,Array.getElem?_eq_getElem (by omega)];rfl
  by_cases hin:i=n
  ·subst hin
   by_cases hroom:i+1≤cap
   ·refine (Any2.slices_Insert_int_end_room Tryz.insertI g 0 i cap gl 0 1 1 [.int .i64 q] w (by omega) (by omega) (by unfold maxLen at h2;omega) rfl (fun j hj=>by have:=hcell (i+j) (by omega);simpa [Nat.add_assoc] using this) (fun j hj=>hbl.frozen _) hvs h1v).mono ?_
    rintro e w' ⟨rfl,rfl⟩
    refine⟨_,rfl,InsOK.of (hbl.sets_ [.int .i64 q] (0+i)) (by rw[sets_size];exact hs1) h2 hxl (Nat.le_refl _) hroom ?_ (grown_sets _) (.inl rfl)⟩
    intro j hj
    have:=(sets_ins (q:=q) hxl (Nat.le_refl i) hs1 hroom (fun j hj=>hv1 j hj)).2 j hj
    rw[show (I64 xs).drop i=[] from List.drop_eq_nil_of_le (by rw[I64_len];omega)]at this
    rw[Nat.zero_add]
    exact this
   ·refine (Any2.slices_Insert_int_end_grow Tryz.insertI (some ⟨g,0,none⟩) i cap gl 0 1 1 (I64 xs) [.int .i64 q] w (by omega) h1 (by omega) (by omega) (by rw[I64_len];exact hxl) rfl (fun h=>by cases h) (fun a e j u hj=>by cases e;rw[Go.WideShapes.add_plain];exact hcs j u hj) hvs h1v).mono ?_
    rintro e w' ⟨rfl,rfl⟩
    have hge:=grownCap_ge w (i+1) cap (Tryz.insertI_ren.t 3)
    have hle:=grownCap_le_maxLen w (i+1) cap (Tryz.insertI_ren.t 3) (by unfold maxLen;omega)
    refine⟨_,rfl,InsOK.of (n:=i) (i:=i) (xs:=xs) (Blk.new _ _ _) ?_ hle hxl (Nat.le_refl _) hge ?_ (grown_alloc_none _ _ _) (.inr (Nat.le_refl _))⟩
    ·simp only[Array.size_append,zeros_size,List.size_toArray,List.length_append,I64_len,hxl,List.length_cons,List.length_nil]
     omega
    ·intro j hj
     rw[insI_getD (by omega),arr_left (by simp[I64_len,hxl];omega)]
     by_cases h1:j<i
     ·rw[if_pos h1,List.getElem?_append_left (by rw[I64_len];omega),i64_at (by omega)]
     ·obtain rfl:j=i:=by omega
      rw[if_neg h1,if_pos rfl,List.getElem?_append_right (by rw[I64_len];omega),I64_len,hxl,Nat.sub_self]
      rfl
  ·have hilt:i<n:=by omega
   by_cases hroom:n+1≤cap
   ·refine (Any2.slices_Insert_int_shift Tryz.insertI g 0 n cap i gl 0 1 1 (I64 xs) [.int .i64 q] w hilt (by omega) hroom (by unfold maxLen at h2;omega) hgl (by rw[I64_len];exact hxl) rfl hcs (fun j hj=>hcell j (by omega)) (fun j hj=>hbl.frozen _) hvs h1c h1v _ _ _ _ (shape_blk hb) (shape_blk hbl) (by omega) (hb.frozen _) (hb.frozen _)).mono ?_
    rintro e w' ⟨rfl,rfl⟩
    have hb2:Blk w.drew g 3 cs:=hbl
    refine⟨_,rfl,InsOK.of ((hb2.sets_ ((I64 xs).drop i) (0+(i+1))).sets_ [.int .i64 q] (0+i)) (by rw[sets_size,sets_size];exact hs1) h2 hxl hi hroom ?_ (((grown_drw0 w _).trans (grown_sets _)).trans (grown_sets _)) (.inl rfl)⟩
    intro j hj
    rw[Nat.zero_add,Nat.zero_add]
    exact (sets_ins (q:=q) hxl hi hs1 hroom (fun j hj=>hv1 j (by omega))).1 j hj
   ·refine (Any2.slices_Insert_int_grow Tryz.insertI g 0 n cap i gl 0 1 1 (I64 xs) [.int .i64 q] w hilt (by omega) h1 (by omega) (by omega) (by rw[I64_len];exact hxl) rfl hcs hvs h1c h1v).mono ?_
    rintro e w' ⟨rfl,rfl⟩
    have hge:=grownCap_ge w (n+1) cap (Tryz.insertI_ren.t 3)
    have hle:=grownCap_le_maxLen w (n+1) cap (Tryz.insertI_ren.t 3) (by unfold maxLen;omega)
    generalize hA0:((I64 xs).take i).toArray++Builtin.zeroCells (Value.int .i64 0).cells (n+1 - i)++Builtin.zeroCells (Value.int .i64 0).cells (grownCap w (n+1) cap (Tryz.insertI_ren.t 3) - (n+1))=A0
    have hA0s:A0.size=grownCap w (n+1) cap (Tryz.insertI_ren.t 3):=by
     rw[←hA0]
     simp only[Array.size_append,zeros_size,List.size_toArray,List.length_take,I64_len,hxl]
     omega
    have hA0v:∀j,j<i→A0[j]?=some (.int .i64 (xs.getD j 0)):=fun j hj=>by
     rw[←hA0,Array.append_assoc,arr_left (by rw[List.length_take,I64_len];omega),List.getElem?_take,if_pos hj,i64_at (by omega)]
    have hbn:Blk (w.alloc (.cells A0 (Tryz.insertI_ren.t 3))).drew w.heap.size 3 A0:=Blk.new w _ A0
    have hbm:Blk (((w.alloc (.cells A0 (Tryz.insertI_ren.t 3))).drew.setCells w.heap.size i [.int .i64 q]).drew) w.heap.size 3 (sets A0 i [.int .i64 q]):=hbn.sets_ [.int .i64 q] i
    have hgr:w.grownBy ((((w.alloc (.cells A0 (Tryz.insertI_ren.t 3))).drew.setCells w.heap.size i [.int .i64 q]).drew).setCells w.heap.size (i+1) ((I64 xs).drop i)) (some w.heap.size) :=
     (((((World.grownBy_alloc w _ _)).trans (grown_drw0 _ _)).trans (grown_sets _)).trans (grown_drw0 _ _)).trans (grown_sets _)
    refine⟨_,rfl,InsOK.of (hbm.sets_ ((I64 xs).drop i) (i+1)) (by rw[sets_size,sets_size];exact hA0s) hle hxl hi hge ?_ ⟨hgr.os,hgr.tape,hgr.output,hgr.size,fun k hk _=>hgr.block k hk (fun e=>by cases e;omega)⟩ (.inr (Nat.le_refl _))⟩
    exact (sets_ins (q:=q) hxl hi hA0s hge hA0v).2
theorem bs_any (v:Value) (n:Nat) (xs:List Int) (q:Int) (w:World) (ho:w.ownsRow 0 3 1 v n (I64 xs)) (hr:xs.Pairwise (·<·)) (hn:n≤1000) :
  Calls Tryz.prog 190 #[v,.int .i64 q] w fun e w'=>e=.returned (.tuple #[.int .i64 (xs.countP (·<q):Nat),.bool (xs.contains q)])∧∃k,w'=w.drewN k:=by
 have hxl:xs.length=n:=by have:=ho.1;rw[I64_len]at this;omega
 have hv:=ho.2
 rcases hv with ⟨rfl,rfl⟩|⟨g,cap,cur,rfl,_,hh,h1,h2,h3,h4⟩
 ·obtain rfl:xs=[]:=List.eq_nil_of_length_eq_zero hxl
  refine (Tryz.slices_BinarySearch_int_empty none 0 q w).mono ?_
  rintro e w' ⟨rfl,rfl⟩
  exact⟨by simp,0,rfl⟩
 ·obtain⟨cs,hb1,hs1,_,_,_,hv1⟩:=own_cells ho
  refine (Tryz.slices_BinarySearch_int g 0 n cap xs q w (by omega) (by omega) (fun j hj=>by rw[Nat.zero_add,hb1.cell,hv1 j (by omega)]) ?_).mono ?_
  ·exact (hr.imp (fun h=>Int.le_of_lt h)).sublist (List.take_sublist n xs)
  ·rintro e w' ⟨rfl,hw⟩
   rw[List.take_of_length_le (by omega)]
   exact⟨rfl,hw⟩
theorem grown_drewN (w:World) (r:Option Nat):∀k,w.grownBy (w.drewN k) r:=fun _=>⟨rfl,rfl,rfl,Nat.le_refl _,fun _ _ _=>rfl⟩
set_option maxRecDepth 100000 in
set_option maxHeartbeats 4000000 in
theorem with_any (v:Value) (n:Nat) (xs:List Int) (q:Int) (w:World) (ho:w.ownsRow 0 3 1 v n (I64 xs)) (hr:xs.Pairwise (·<·)) (hn:n≤1000) (hlt:∀g,v.ownBlock=some g→g<w.heap.size) :
  Calls Tryz.prog 121 #[v,.int .i64 q] w fun e w'=>∃v',e=.returned v'∧InsOK w w' v v' (withI xs q):=by
 have HBS:=Lib.hid (bs_any v n xs q w ho hr hn)
 have hxl:xs.length=n:=by have:=ho.1;rw[I64_len]at this;omega
 have hcl:xs.countP (·<q)≤n:=hxl ▸ List.countP_le_length
 have HO:=Lib.hid ho
 have HIN:=Lib.hid (fun k=>insert_any v n (xs.countP (·<q)) xs q w.heap.size ((w.drewN k).alloc (.cells #[.int .i64 q] 3)) (own_at ho fun g hg=>by
  have:=hlt g hg
  show (w.heap.push _)[g]?=w.heap[g]?
  rw[Array.getElem?_push,if_neg (by omega)]) hcl hn (Blk.new _ _ _) (fun e=>by have:=hlt _ e;omega))
 have HW:Hid (withI xs q=if xs.contains q=true then xs else xs.take (xs.countP (·<q))++q :: xs.drop (xs.countP (·<q))):=Lib.hid rfl
 have HL:=Lib.hid hxl
 clear ho hr hn hlt hcl hxl
 generalize xs.countP (·<q)=ix at *
 cases hc:xs.contains q with
 | true =>
  rw[hc,if_pos rfl]at HW
  rw[hc]at HBS
  go_enter Tryz.func121,Tryz.ntmps121
  go_wp2_with (go_at_call 190;refine HBS.out.mono ?_;rintro e w1 ⟨rfl,k,rfl⟩)
  go_ret
  refine⟨v,rfl,?_⟩
  rw[HW.out]
  exact⟨by rw[HL.out];exact own_at HO.out fun _ _=>rfl,grown_drewN _ _ _,fun g hg=>.inl hg⟩
 | false =>
  rw[hc,if_neg (by simp)]at HW
  rw[hc]at HBS
  go_enter Tryz.func121,Tryz.ntmps121
  go_wp2_with (first|(go_at_call 190;refine HBS.out.mono ?_;rintro e w1 ⟨rfl,k,rfl⟩)|(go_at_call 191;refine (HIN.out k).mono ?_;rintro e w1 ⟨v',rfl,hi⟩;have HI:=Lib.hid hi;clear hi))
  go_ret
  refine⟨v',rfl,?_⟩
  rw[HW.out]
  refine⟨HI.out.own,((grown_drewN w _ k).trans (World.grownBy_alloc _ _ _)).trans HI.out.grown,fun g hg=>?_⟩
  rcases HI.out.loc g hg with h|h
  ·exact .inl h
  ·refine .inr ?_
   have e:((w.drewN k).alloc (.cells #[.int .i64 q] 3)).heap.size=w.heap.size+1:=Array.size_push ..
   omega
end Go.Proofs.YtfidicbknjoafaaGreatDoor
