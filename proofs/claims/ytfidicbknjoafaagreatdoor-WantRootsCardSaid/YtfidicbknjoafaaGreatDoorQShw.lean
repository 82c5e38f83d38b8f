/- The contracts of the library functions that this program calls, laid over its own numbers: each one application of a theorem of the library. -/
import Derived.Test.YtfidicbknjoafaaGreatDoorQRb
import Derived.Test.YtfidicbknjoafaaGreatDoorQTn
import Derived.Test.YtfidicbknjoafaaGreatDoorQLi
import Derived.Test.YtfidicbknjoafaaGreatDoorQCg
import Derived.Test.YtfidicbknjoafaaGreatDoorQAddr
import Derived.Test.YtfidicbknjoafaaGreatDoorQRn
import Derived.Test.YtfidicbknjoafaaGreatDoorQKit
import Derived.Lib.AppendIntMem
import Derived.Deep.RegionHeld3
import Derived.Deep.RegionLaw
import Derived.Deep.DeepAppendRoom
import Derived.Maps.AppendAt
import Derived.Test.YtfidicbknjoafaaGreatDoorProg
import Derived.Shelf.Spec.SlicesInsert
import Derived.Shelf.Spec.SlicesGrow
import Derived.Shelf.Small.Bits
import Derived.Shelf.Strconv.Itoa0
import Derived.Shelf.LaysM
import Derived.Shelf.Strconv.Clone
import Derived.Shelf.Sort.Plain
import Derived.Ground.Names2Prog
import Derived.Shelf.Slices.CompactI
import Derived.Shelf.Slices.SearchI
import Derived.Shelf.Slices.In.SortNone
import Derived.Shelf.Slices.Empties
import Derived.Ground.SlgnProg
import Derived.Shelf.SlicesE.Equal
import Derived.Shelf.SlicesE.Compact
import Derived.Ground.SlgfProg
import Derived.Shelf.SlicesE.IndexFunc
import Derived.Shelf.SlicesE.DeleteFunc
namespace Go.Proofs.YtfidicbknjoafaaGreatDoor
open Go.RowKit Lx Sm Go.Maps
theorem portsOf_alike {x x':Cfg} (h:Alike x x') (r:Int):portsOf x' r=portsOf x r:=by
 have ht:∀i k,tabs x' x'.ps.length x'.ps.length k 1 i=tabs x x.ps.length x.ps.length k 1 i:=fun i k=>by unfold tabs;rw[h.p];rfl
 unfold portsOf rowIn
 rw[h.r]
 split
 ·exact ht _ _
 ·rfl
theorem look_same {x x':Cfg} (h:Alike x x') (r:Int):∀ (k:Nat) (a v c:Int),lookP x' r k a v c=lookP x r k a v c:=by
 have hn:∀a,nearP x' r a=nearP x r a:=fun a=>by unfold nearP;rw[preP_alike h,portsOf_alike h]
 have hf:∀a,farP x' r a=farP x r a:=fun a=>by unfold farP routesOf;rw[preO_alike h,h.o]
 intro k
 induction k with
 | zero=>intro a v c;rfl
 | succ k ih=>intro a v c;unfold lookP;rw[hn,hf,h.o];simp only[ih]
theorem lookA_same {x x':Cfg} (h:Alike x x') (r a:Int):lookA x' r a=lookA x r a:=by unfold lookA;rw[look_same h]
theorem RibOK.alike {x x':Cfg} (h:Alike x x') (k:RibOK x):RibOK x':=⟨by rw[h.l];exact k.l,by rw[h.p,h.l];exact k.p,by rw[h.o];exact k.o,by rw[h.o];exact k.c⟩
end Go.Proofs.YtfidicbknjoafaaGreatDoor
namespace Go.Proofs.YtfidicbknjoafaaGreatDoor
open Go.RowKit Lx Sm Go.Maps
end Go.Proofs.YtfidicbknjoafaaGreatDoor
namespace Go.Proofs.YtfidicbknjoafaaGreatDoor
open Go.ChangeShapes Go.WideShapes Go.ChangeAt Go.RowKit
structure Elem {α:Type} (P:Program) (sl e:TypeId) (enc:α→List Value) (k bytes:Nat):Prop where
 under:P.underlying sl=some (.slice e)
 info:∃i z,P.info? e=some i∧i.zero=some z∧i.size=k∧i.bytes=bytes∧z.cells.size=k
 len:∀x,(enc x).length=k
 one:∀x,∀u∈enc x,u.oneCell'=true
 pos:0<k
 by_:bytes≤1000
theorem flat_szG {α:Type} {enc:α→List Value} {k:Nat} (hk:∀x,(enc x).length=k):∀xs:List α,(xs.flatMap enc).length=xs.length*k
 | []=>by simp
 | x :: xs=>by rw[List.flatMap_cons,List.length_append,flat_szG hk xs,hk,List.length_cons,Nat.succ_mul];omega
theorem flat_clG {α:Type} {enc:α→List Value} {k j:Nat} {v:Value} (hk:∀x,(enc x).length=k):∀ (ys:List α) (i:Nat) (x:α),ys[i]?=some x→(enc x)[j]?=some v→(ys.flatMap enc)[i*k+j]?=some v
 | [],i,x,h,_=>by simp at h
 | y :: ys,i,x,h,hj=>by
  rw[List.flatMap_cons]
  cases i with
  | zero =>
   simp at h
   subst h
   have:=(List.getElem?_eq_some_iff.1 hj).1
   rw[Nat.zero_mul,Nat.zero_add,List.getElem?_append_left this]
   exact hj
  | succ i =>
   rw[List.getElem?_append_right (by rw[hk,Nat.succ_mul];omega),hk,show (i+1)*k+j - k=i*k+j by rw[Nat.succ_mul];omega]
   exact flat_clG hk ys i x (by simpa using h) hj
theorem ri_cellsG {α:Type} {enc:α→List Value} {k:Nat} (hk:∀x,(enc x).length=k) (h0:0<k) {w:World} {ad:Addr} {m:Nat} {ys:List α} (h:RI enc k w (some ad) m ys):∀j u,(ys.flatMap enc)[j]?=some u→w.cell? (ad.add j)=some u:=by
 intro j u hj
 have hl:=(List.getElem?_eq_some_iff.1 hj).1
 rw[flat_szG hk]at hl
 have hm:=h.len
 have hd:j / k<ys.length:=Nat.div_lt_of_lt_mul (by rw[Nat.mul_comm];exact hl)
 obtain⟨b,o,e,_,hc⟩:=h.2 (by rw[←hm];exact Nat.lt_of_le_of_lt (Nat.zero_le _) hd)
 cases e
 have hx:ys[j / k]?=some (ys[j / k]'hd):=List.getElem?_eq_getElem _
 generalize ys[j / k]'hd=x at hx
 have hv:(enc x)[j % k]?=some ((enc x)[j % k]'(by rw[hk];exact Nat.mod_lt _ h0)):=List.getElem?_eq_getElem _
 have h2:=flat_clG hk ys (j / k) x hx hv
 have e2:j / k*k+j % k=j:=by rw[Nat.mul_comm];exact Nat.div_add_mod j k
 rw[e2,hj]at h2
 have h3:=hc (j / k) x hx (j % k) _ hv
 rw[Nat.add_assoc,e2]at h3
 cases h2
 rw[add_plain]
 exact h3
theorem RI.lit {α:Type} {enc:α→List Value} {k:Nat} {w:World} {g:Nat} {t:TypeId} {x:α} (h:Blk w g t (enc x).toArray):RI enc k w (some ⟨g,0,none⟩) 1 [x] :=
 ⟨rfl,fun _=>⟨g,0,rfl,h.lt,fun i y hx j v hv=>by
  have hi:i=0:=by have:=(List.getElem?_eq_some_iff.1 hx).1;simp at this;exact this
  subst hi
  simp at hx
  subst hx
  have:=h.cell j
  rw[show (0:Nat)+0*k+j=j by omega,this]
  simpa using hv⟩⟩
theorem RI.new {α:Type} {enc:α→List Value} {k:Nat} (w:World) (t:TypeId) (x:α) {g:Nat} {cs:Array Value} (hg:g=w.heap.size) (hcs:cs=(enc x).toArray):RI enc k (w.alloc (.cells cs t)) (some ⟨g,0,none⟩) 1 [x]:=by
 subst hg hcs
 exact RI.lit (Blk.new _ _ _)
theorem RI.drop {α:Type} {enc:α→List Value} {k:Nat} {w:World} {A B:Option Addr} {n m:Nat} {xs:List α} (h:RI enc k w A n xs) (hm:m≤n) (hB:m<n→B=A.map (·.add (m*k))):RI enc k w B (n - m) (xs.drop m):=by
 refine⟨by rw[List.length_drop,h.len],fun hp=>?_⟩
 obtain⟨b,o,rfl,hl,hc⟩:=h.2 (by omega)
 refine⟨b,o+m*k,by rw[hB (by omega),Option.map_some,add_plain],hl,fun i x hx j v hv=>?_⟩
 rw[List.getElem?_drop]at hx
 have:=hc (m+i) x hx j v hv
 rw[Nat.add_mul]at this
 rw[show o+m*k+i*k+j=o+(m*k+i*k)+j by omega]
 exact this
section
variable {α:Type} {P:Program} {sl e:TypeId} {enc:α→List Value} {k bytes:Nat}
theorem run_items (E:Elem P sl e enc k bytes) (w:World) (base:Nat) (ot:TypeId) (v:Value) (n:Nat) (xs:List α) (hown:w.ownsRow base e k v n (xs.flatMap enc))
  (A:Option Addr) (m c:Nat) (ys:List α) (hri:RI enc k w A m ys) (hn:n≤1048576) (hm:m≤1048576) (hbase:base≤w.heap.size) :
  ∃v' w',(Builtin.append_ #[sl,sl] ot #[v,.slice A m c]).run P w=.ok v' w'∧w'.ownsRow base e k v' (n+m) ((xs++ys).flatMap enc)∧Below base w w'∧w.grownBy w' v.ownBlock:=by
 obtain⟨i,z,hi,hz,hsz,hby,hzc⟩:=E.info
 have ht:=E.under
 cases A with
 | none =>
  have h0:m=0:=by
   rcases Nat.eq_zero_or_pos m with h0|h0
   ·exact h0
   ·obtain⟨b,o,e,_⟩:=hri.2 h0
    cases e
  subst h0
  obtain rfl:ys=[]:=List.eq_nil_of_length_eq_zero hri.len
  have hrun:(Builtin.append_ #[sl,sl] ot #[v,.slice none 0 c]).run P w=.ok v w:=by
   rcases hown.2 with ⟨rfl,rfl⟩|⟨g,cap,cur,rfl,_,_,hnc,_⟩
   ·simp[Builtin.append_,run_underlying ht,sizeOf,typeInfo,hi,Builtin.lenOf,Builtin.firstCells]
   ·simp[Builtin.append_,run_underlying ht,sizeOf,typeInfo,hi,Builtin.lenOf,Builtin.firstCells,hnc,storeCells]
  exact⟨v,w,hrun,by rw[List.append_nil];exact hown,Below.refl _ _,⟨rfl,rfl,rfl,Nat.le_refl _,fun _ _ _=>rfl⟩⟩
 | some ad =>
  have hb1:(n+m)*bytes≤2097152*1000:=Nat.mul_le_mul (by omega) E.by_
  obtain⟨v',w',hr,h2,h3,_,_⟩:=run_append_own_at (P:=P) w base sl ot e i z k bytes ht hi hz hsz hby hzc E.pos v n _ hown ad m c (ys.flatMap enc) (by rw[flat_szG E.len,hri.len]) (ri_cellsG E.len E.pos hri)
   (by intro u hu;rw[List.mem_flatMap]at hu;obtain⟨y,_,hy⟩:=hu;exact E.one y u hy) (by unfold maxLen;omega) (by omega) hbase
  exact⟨v',w',hr,by rw[List.flatMap_append];exact h2,(Below.refl base w).grown h3 hbase (by intro j hj;exact (hown.lt j hj).1),h3⟩
theorem wpList_items (E:Elem P sl e enc k bytes) {w:World} {ops:Array Oper} {rest:List Oper} {o:Oper} {a:Act} {Q:Exit→Act→World→Prop} (hgd:o.guard=none) (s x:Operand)
  (ho:o.op=.call { callee:=.builtin .append,args:=#[s,x],argTypes:=#[sl,sl] })
  (base:Nat) (v:Value) (n:Nat) (xs:List α) (hs:a.eval s=v) (hown:w.ownsRow base e k v n (xs.flatMap enc))
  (A:Option Addr) (m c:Nat) (ys:List α) (hx:a.eval x=.slice A m c) (hri:RI enc k w A m ys) (hn:n≤1048576) (hm:m≤1048576) (hbase:base≤w.heap.size)
  (h:∀v' w',w'.ownsRow base e k v' (n+m) ((xs++ys).flatMap enc)→Below base w w'→w.grownBy w' v.ownBlock→wpList P ops Q rest (a.put o.dst v') w'):wpList P ops Q (o :: rest) a w:=by
 refine wpList_plain hgd fun K hK=>?_
 obtain⟨v',w',hr,h2,h3,h4⟩:=run_items E w base o.type v n xs hown A m c ys hri hn hm hbase
 unfold Oper.wp
 simp only[execOp,ho,resolve,invoke,builtin,Sem.run_bind,Sem.run_pure,Result.andThen_ok,List.map_toArray,List.map_cons,List.map_nil,hs,hx,hr]
 exact hK _ _ (h v' w' h2 h3 h4)
theorem step_items (E:Elem P sl e enc k bytes) {w:World} {ops:Array Oper} {o:Oper} {a:Act} {K:Act→World→Prop} {Q:Exit→Act→World→Prop} {E':Prop} (hgd:o.guard=none) (s x:Operand)
  (ho:o.op=.call { callee:=.builtin .append,args:=#[s,x],argTypes:=#[sl,sl] })
  (base:Nat) (v:Value) (n:Nat) (xs:List α) (hs:a.eval s=v) (hown:w.ownsRow base e k v n (xs.flatMap enc))
  (A:Option Addr) (m c:Nat) (ys:List α) (hx:a.eval x=.slice A m c) (hri:RI enc k w A m ys) (hn:n≤1048576) (hm:m≤1048576) (hbase:base≤w.heap.size)
  (h:∀v' w',w'.ownsRow base e k v' (n+m) ((xs++ys).flatMap enc)→Below base w w'→w.grownBy w' v.ownBlock→K (a.put o.dst v') w') :
  if Region.wanted o (yielded ops a.tmps)=true then Oper.wp P o a w K Q else E':=by
 rw[if_pos (by simp[Region.wanted,hgd])]
 obtain⟨v',w',hr,h2,h3,h4⟩:=run_items E w base o.type v n xs hown A m c ys hri hn hm hbase
 have hk:=h v' w' h2 h3 h4
 simp only[Oper.wp,execOp,ho,resolve,invoke,builtin,Sem.run_bind,Sem.run_pure,Result.andThen_ok,List.map_toArray,List.map_cons,List.map_nil,hs,hx,hr]
 exact hk
end
end Go.Proofs.YtfidicbknjoafaaGreatDoor
namespace Go.Proofs.YtfidicbknjoafaaGreatDoor
open Go.RowKit Lx Sm Go.Maps
theorem elemI:Elem Tryz.prog 52 3 CInt 1 8:=⟨Tryz.underlying52,(by obtain⟨i0,hi,hz0,hz1,hz2⟩:=info_parts info_int;exact⟨_,_,hi,hz0,hz1,hz2,rfl⟩),fun _=>rfl,tint_one,by decide,by decide⟩
theorem I64_flat:∀xs:List Int,xs.flatMap CInt=I64 xs
 | []=>rfl
 | x :: xs=>by
  rw[List.flatMap_cons,I64_flat xs]
  rfl
theorem wpList_app_jr {w:World} {ops:Array Oper} {rest:List Oper} {o:Oper} {a:Act} {Q:Exit→Act→World→Prop} (hgd:Region.wanted o (yielded ops a.tmps)=true) (s x:Operand)
  (ho:o.op=.call { callee:=.builtin .append,args:=#[s,x],argTypes:=#[52,52] })
  (base:Nat) (v:Value) (n:Nat) (xs:List Int) (hs:a.eval s=v) (hown:w.ownsRow base 3 1 v n (I64 xs))
  (A:Option Addr) (m c:Nat) (ys:List Int) (hx:a.eval x=.slice A m c) (hj:JR w A m ys) (hn:n≤1048576) (hm:m≤1048576) (hbase:base≤w.heap.size)
  (h:∀v' w',w'.ownsRow base 3 1 v' (n+m) (I64 (xs++ys))→Below base w w'→wpList Tryz.prog ops Q rest (a.put o.dst v') w'):wpList Tryz.prog ops Q (o :: rest) a w:=by
 have hri:RI CInt 1 w A m ys:=hj.ir
 obtain⟨v',w',hr,h2,h3,_⟩:=run_items elemI w base o.type v n xs (by rw[I64_flat];exact hown) A m c ys hri hn hm hbase
 rw[I64_flat]at h2
 have hk:=h v' w' h2 h3
 unfold wpList
 rw[if_pos hgd]
 refine .inl ?_
 unfold Oper.wp execOp
 simp only[ho,resolve,invoke,builtin,Sem.run_bind,Sem.run_pure,Result.andThen_ok,List.map_toArray,List.map_cons,List.map_nil,hs,hx,hr]
 exact hk
theorem jsame_self (A B:Option Addr) (n m c d:Nat) (xs:List Int) (w:World) (h:JR w A n xs) (g:JR w B m xs) (hn:xs.length≤1000) :
  Calls Tryz.prog 17 #[.slice A n c,.slice B m d] w fun e w'=>e=.returned (.bool true)∧Below w.heap.size w w':=by
 have:=jsame_any A B n m c d xs xs w h g (by have:=h.1;omega) (by have:=g.1;omega)
 rwa [decide_eq_true rfl]at this
theorem lcode_ok {y:List UInt8 × Int × Int} {ah:List (List UInt8 × Int × Int)} (h:lcode y ah=0):Ad.valid y.2.1 y.2.2=true:=by
 unfold lcode at h
 split at h
 ·cases h
 ·split at h
  ·cases h
  ·split at h
   ·cases h
   ·rename_i h2;simpa using h2
theorem ocode_ok {n:Nat} {y:Int × Int × Int × Int × Int} (h:ocode n y=0):0≤y.1∧y.1<n∧Ad.valid y.2.1 y.2.2.1=true∧costOk y.2.2.2.2=true:=by
 unfold ocode at h
 split at h
 ·cases h
 ·rename_i h0
  split at h
  ·cases h
  ·rename_i h1
   split at h
   ·cases h
   ·rename_i h2
    have:=plOk_lt h0
    exact⟨this.1,this.2,by simpa using h1,by simpa using h2⟩
theorem lt_ls {x:Cfg} (k:LtOK x):∀y∈x.ls,Ad.valid y.2.1 y.2.2=true:=fun y hy=>by
 obtain⟨ah,he⟩:=atc_all (v_parts k.v).2.1 hy
 exact lcode_ok he
theorem lt_os {x:Cfg} (k:LtOK x):∀y∈x.os,0≤y.1∧y.1<x.rs.length∧Ad.valid y.2.1 y.2.2.1=true∧0≤y.2.2.2.2∧y.2.2.2.2≤65535:=fun y hy=>by
 obtain⟨ah,he⟩:=atc_all (v_parts k.v).2.2.2.1 hy
 have:=ocode_ok he
 have h4:=this.2.2.2
 unfold costOk at h4
 simp only[decide_eq_true_eq]at h4
 exact⟨this.1,this.2.1,this.2.2.1,by omega,by omega⟩
theorem lt_ribok {x:Cfg} (k:LtOK x):RibOK x:=by
 refine⟨fun y hy=>?_,fun y hy=>(k.po y hy).2.2,fun y hy=>?_,fun y hy=>(lt_os k y hy).2.2.2⟩
 ·have:=lt_ls k y hy
  unfold Ad.valid at this
  simp only[decide_eq_true_eq]at this
  omega
 ·have:=(lt_os k y hy).2.2.1
  unfold Ad.valid at this
  simp only[decide_eq_true_eq]at this
  omega
theorem toA_al {x x':Cfg} (k:Alike x x') (r a:Int):toA x' r a=toA x r a:=by
 unfold toA mine upN portAt
 rw[lookA_same k,portsOf_alike k,k.p]
section
variable {b:Nat} {T:TP} {x x':Cfg} {gs:List Int}
theorem to_al (r a:Int) (ha:U32 a) (w:World) (h:TW w b T x' gs) (k:Alike x x') (o:LtOK x) :
  Calls Tryz.prog 21 #[.pointer (some ⟨T.N,0,none⟩),.int .i64 r,.int .u32 a] w fun e w'=>e=.returned (.tuple #[.agg #[.int .i64 (toA x r a).1.1,.int .i64 (toA x r a).1.2.1,.int .i64 (toA x r a).1.2.2.1,.bool (toA x r a).1.2.2.2],.bool (toA x r a).2])∧Below w.heap.size w w':=by
 have:=to_any r a ha w h (by rw[k.r];exact o.rn) (by rw[k.l];exact o.ln) ((lt_ribok o).alike k)
 rw[toA_al k]at this
 exact this
end
inductive Path (N:Int→Int):Int→List Int→Prop
 | done:Path N (-1) []
 | step {q:Int} {l:List Int}:q ≠ -1→Path N (N q) l→Path N q (q :: l)
theorem Path.one {N:Int→Int} {q:Int} {l m:List Int} (h:Path N q l):Path N q m→l=m:=by
 intro k
 induction h generalizing m with
 | done=>cases k with|done=>rfl|step h=>exact absurd rfl h
 | step hq _ ih=>cases k with
  | done=>exact absurd rfl hq
  | step _ h2=>rw[ih h2]
theorem Path.lt {N:Int→Int} {b:Nat} (hN:∀q,N q=-1∨0≤N q∧N q<(b:Int)) {q:Int} {l:List Int} (h:Path N q l):(q=-1∨0≤q∧q<(b:Int))→∀y∈l,0≤y∧y<(b:Int):=by
 induction h with
 | done=>intro _ y hy;cases hy
 | step hq _ ih =>
  intro hb y hy
  rcases List.mem_cons.1 hy with rfl|hy
  ·exact hb.resolve_left hq
  ·exact ih (hN _) y hy
end Go.Proofs.YtfidicbknjoafaaGreatDoor
namespace Go.Proofs
open Go.Shelf
def Tryz.insertI_ren:Go.Shelf.Ren:=⟨fun | 21=>191 | 27=>237 | 28=>238 | 35=>260 | 39=>266|n=>n,fun | 22=>52 | 3=>3 | 4=>4 | 0=>0|n=>n,fun|n=>n⟩
theorem Tryz.insertI:Go.Proofs.Lays2.n21 Tryz.prog Tryz.insertI_ren:={
 mixed:=by kernel_rfl
 f21:=Tryz.func191.trans (congrArg some (by kernel_rfl))
 f27:=Tryz.func237.trans (congrArg some (by kernel_rfl))
 f28:=Tryz.func238.trans (congrArg some (by kernel_rfl))
 f35:=Tryz.func260.trans (congrArg some (by kernel_rfl))
 f39:=Tryz.func266.trans (congrArg some (by kernel_rfl))
 t0:=Tryz.underlying0
 a0:=Tryz.isAgg0
 z0:=Tryz.sizeOf0
 v0:=Tryz.zeroValue0
 t3:=Tryz.underlying3
 a3:=Tryz.isAgg3
 z3:=Tryz.sizeOf3
 v3:=Tryz.zeroValue3
 t4:=Tryz.underlying4
 a4:=Tryz.isAgg4
 z4:=Tryz.sizeOf4
 v4:=Tryz.zeroValue4
 t22:=Tryz.underlying52
 a22:=Tryz.isAgg52
 z22:=Tryz.sizeOf52
 v22:=Tryz.zeroValue52
 i3:=by kernel_rfl }
def Tryz.growI_ren:Go.Shelf.Ren:=⟨fun | 4=>200|n=>n,fun | 22=>52 | 25=>3 | 3=>3 | 4=>4 | 9=>9 | 20=>20 | 0=>0|n=>n,fun|n=>n⟩
theorem Tryz.growI:Go.Proofs.Lays8.n4 Tryz.prog Tryz.growI_ren:={
 mixed:=by kernel_rfl
 f4:=⟨Tryz.f200.name,by decide,Tryz.func200.trans (congrArg some (by kernel_rfl))⟩
 t0:=Tryz.underlying0
 a0:=Tryz.isAgg0
 z0:=Tryz.sizeOf0
 v0:=Tryz.zeroValue0
 t3:=Tryz.underlying3
 a3:=Tryz.isAgg3
 z3:=Tryz.sizeOf3
 v3:=Tryz.zeroValue3
 t4:=Tryz.underlying4
 a4:=Tryz.isAgg4
 z4:=Tryz.sizeOf4
 v4:=Tryz.zeroValue4
 t9:=Tryz.underlying9
 a9:=Tryz.isAgg9
 z9:=Tryz.sizeOf9
 v9:=Tryz.zeroValue9
 t20:=Tryz.underlying20
 a20:=Tryz.isAgg20
 z20:=Tryz.sizeOf20
 v20:=Tryz.zeroValue20
 t22:=Tryz.underlying52
 a22:=Tryz.isAgg52
 z22:=Tryz.sizeOf52
 v22:=Tryz.zeroValue52 }
end Go.Proofs
namespace Go.Proofs
open Go.Shelf
def Tryz.lays189_ren:Go.Shelf.Ren:=⟨fun | 189=>128 | 125=>189 | 257=>201 | 128=>233 | 129=>234 | 294=>243 | 295=>244 | 296=>245 | 297=>246 | 298=>247 | 299=>248 | 216=>235 | 300=>249 | 301=>250 | 328=>262 | 329=>254 | 330=>255 | 331=>263 | 332=>264 | 215=>259 | 343=>275|n=>n,fun | 28=>52 | 3=>3 | 46=>169 | 0=>0 | 51=>41 | 53=>287 | 4=>4 | 183=>279 | 182=>278 | 131=>39 | 5=>5 | 9=>9 | 218=>299 | 222=>303 | 228=>308 | 229=>154|n=>n,fun|n=>n⟩
theorem Tryz.lays189:Go.Proofs.Lays.n189 Tryz.prog Tryz.lays189_ren:={
 mixed:=by kernel_rfl
 f125:=Tryz.func189.trans (congrArg some (by kernel_rfl))
 f128:=Tryz.func233.trans (congrArg some (by kernel_rfl))
 f129:=Tryz.func234.trans (congrArg some (by kernel_rfl))
 f189:=Tryz.func128.trans (congrArg some (by kernel_rfl))
 f215:=Tryz.func259.trans (congrArg some (by kernel_rfl))
 f216:=Tryz.func235.trans (congrArg some (by kernel_rfl))
 f257:=Tryz.func201.trans (congrArg some (by kernel_rfl))
 f294:=Tryz.func243.trans (congrArg some (by kernel_rfl))
 f295:=Tryz.func244.trans (congrArg some (by kernel_rfl))
 f296:=Tryz.func245.trans (congrArg some (by kernel_rfl))
 f297:=Tryz.func246.trans (congrArg some (by kernel_rfl))
 f298:=Tryz.func247.trans (congrArg some (by kernel_rfl))
 f299:=Tryz.func248.trans (congrArg some (by kernel_rfl))
 f300:=Tryz.func249.trans (congrArg some (by kernel_rfl))
 f301:=Tryz.func250.trans (congrArg some (by kernel_rfl))
 f328:=Tryz.func262.trans (congrArg some (by kernel_rfl))
 f329:=Tryz.func254.trans (congrArg some (by kernel_rfl))
 f330:=Tryz.func255.trans (congrArg some (by kernel_rfl))
 f331:=Tryz.func263.trans (congrArg some (by kernel_rfl))
 f332:=Tryz.func264.trans (congrArg some (by kernel_rfl))
 f343:=Tryz.func275.trans (congrArg some (by kernel_rfl))
 t0:=Tryz.underlying0
 a0:=Tryz.isAgg0
 z0:=Tryz.sizeOf0
 v0:=Tryz.zeroValue0
 t3:=Tryz.underlying3
 a3:=Tryz.isAgg3
 z3:=Tryz.sizeOf3
 v3:=Tryz.zeroValue3
 t4:=Tryz.underlying4
 a4:=Tryz.isAgg4
 z4:=Tryz.sizeOf4
 v4:=Tryz.zeroValue4
 t5:=Tryz.underlying5
 a5:=Tryz.isAgg5
 z5:=Tryz.sizeOf5
 v5:=Tryz.zeroValue5
 t9:=Tryz.underlying9
 a9:=Tryz.isAgg9
 z9:=Tryz.sizeOf9
 v9:=Tryz.zeroValue9
 t28:=Tryz.underlying52
 a28:=Tryz.isAgg52
 z28:=Tryz.sizeOf52
 v28:=Tryz.zeroValue52
 t46:=Tryz.underlying169
 a46:=Tryz.isAgg169
 z46:=Tryz.sizeOf169
 v46:=Tryz.zeroValue169
 t51:=Tryz.underlying41
 a51:=Tryz.isAgg41
 z51:=Tryz.sizeOf41
 v51:=Tryz.zeroValue41
 t53:=Tryz.underlying287
 a53:=Tryz.isAgg287
 z53:=Tryz.sizeOf287
 v53:=Tryz.zeroValue287
 t131:=Tryz.underlying39
 a131:=Tryz.isAgg39
 z131:=Tryz.sizeOf39
 v131:=Tryz.zeroValue39
 t182:=Tryz.underlying278
 a182:=Tryz.isAgg278
 z182:=Tryz.sizeOf278
 v182:=Tryz.zeroValue278
 t183:=Tryz.underlying279
 a183:=Tryz.isAgg279
 z183:=Tryz.sizeOf279
 v183:=Tryz.zeroValue279
 t218:=Tryz.underlying299
 a218:=Tryz.isAgg299
 z218:=Tryz.sizeOf299
 v218:=Tryz.zeroValue299
 t222:=Tryz.underlying303
 a222:=Tryz.isAgg303
 z222:=Tryz.sizeOf303
 v222:=Tryz.zeroValue303
 t228:=Tryz.underlying308
 a228:=Tryz.isAgg308
 z228:=Tryz.sizeOf308
 v228:=Tryz.zeroValue308
 t229:=Tryz.underlying154
 a229:=Tryz.isAgg154
 z229:=Tryz.sizeOf154
 v229:=Tryz.zeroValue154 }
open Go.Sort Go.RowKit in
theorem Tryz.slices_Sort_int (blk off cap:Nat) (zs:List Int) (w:World) (hH:Holds (Value.int .i64) w blk off zs.toArray) (hblk:blk<w.heap.size) (hsz:zs.length<4611686018427387904) :
  Calls Tryz.prog 128 #[.slice (some ⟨blk,off,none⟩) zs.length cap] w fun e w' =>
   e=.returned (.tuple #[])∧∃n os,w'=grow (putRow (Value.int .i64) (Sort.ahead w n) blk off (zs.mergeSort fun x y=>decide (x≤y)).toArray) os:=Any.slices_Sort_int Tryz.lays189 blk off cap zs w hH hblk hsz
def Tryz.laysNm220_ren:Go.Shelf.Ren:=⟨fun | 20=>129|n=>n,fun | 22=>52 | 3=>3 | 4=>4 | 0=>0|n=>n,fun|n=>n⟩
theorem Tryz.laysNm220:Go.Proofs.Lays2.n20 Tryz.prog Tryz.laysNm220_ren:={
 mixed:=by kernel_rfl
 f20:=Tryz.func129.trans (congrArg some (by kernel_rfl))
 t0:=Tryz.underlying0
 a0:=Tryz.isAgg0
 z0:=Tryz.sizeOf0
 v0:=Tryz.zeroValue0
 t3:=Tryz.underlying3
 a3:=Tryz.isAgg3
 z3:=Tryz.sizeOf3
 v3:=Tryz.zeroValue3
 t4:=Tryz.underlying4
 a4:=Tryz.isAgg4
 z4:=Tryz.sizeOf4
 v4:=Tryz.zeroValue4
 t22:=Tryz.underlying52
 a22:=Tryz.isAgg52
 z22:=Tryz.sizeOf52
 v22:=Tryz.zeroValue52
 i3:=by kernel_rfl }
open Go.RowKit Go.Lib Go.Sort in
theorem Tryz.slices_Compact_int (blk off cap:Nat) (zs:List Int) (w:World) (hH:Holds (Value.int .i64) w blk off zs.toArray) (hsz:zs.length≤9223372036854775807) (hcap:zs.length≤cap) :
  Calls Tryz.prog 129 #[.slice (some ⟨blk,off,none⟩) zs.length cap] w fun e w'=>e=.returned (.slice (some ⟨blk,off,none⟩) (Lib.compact zs).length cap)∧∃q,w'=putRow (Value.int .i64) (Sort.ahead w q) blk off (Lib.compact zs++List.replicate (zs.length - (Lib.compact zs).length) 0).toArray:=Any.slices_Compact_int Tryz.laysNm220 blk off cap zs w hH hsz hcap
def Tryz.laysNm225_ren:Go.Shelf.Ren:=⟨fun | 25=>190 | 31=>235 | 32=>236 | 37=>259|n=>n,fun | 22=>52 | 3=>3 | 4=>4 | 40=>169 | 0=>0|n=>n,fun|n=>n⟩
theorem Tryz.laysNm225:Go.Proofs.Lays2.n25 Tryz.prog Tryz.laysNm225_ren:={
 mixed:=by kernel_rfl
 f25:=Tryz.func190.trans (congrArg some (by kernel_rfl))
 f31:=Tryz.func235.trans (congrArg some (by kernel_rfl))
 f32:=Tryz.func236.trans (congrArg some (by kernel_rfl))
 f37:=Tryz.func259.trans (congrArg some (by kernel_rfl))
 t0:=Tryz.underlying0
 a0:=Tryz.isAgg0
 z0:=Tryz.sizeOf0
 v0:=Tryz.zeroValue0
 t3:=Tryz.underlying3
 a3:=Tryz.isAgg3
 z3:=Tryz.sizeOf3
 v3:=Tryz.zeroValue3
 t4:=Tryz.underlying4
 a4:=Tryz.isAgg4
 z4:=Tryz.sizeOf4
 v4:=Tryz.zeroValue4
 t22:=Tryz.underlying52
 a22:=Tryz.isAgg52
 z22:=Tryz.sizeOf52
 v22:=Tryz.zeroValue52
 t40:=Tryz.underlying169
 a40:=Tryz.isAgg169
 z40:=Tryz.sizeOf169
 v40:=Tryz.zeroValue169 }
open Go.RowKit Go.Lib in
theorem Tryz.slices_BinarySearch_int (b off n c:Nat) (zs:List Int) (x:Int) (w:World) (hz:n≤zs.length) (hbig:n<4611686018427387904) (hc:∀j,j<zs.length→w.cell? ⟨b,off+j,none⟩=some (.int .i64 (zs.getD j 0))) (hs:(zs.take n).Pairwise (·≤·)) :
  Calls Tryz.prog 190 #[.slice (some ⟨b,off,none⟩) n c,.int .i64 x] w fun e w'=>e=.returned (.tuple #[.int .i64 ((zs.take n).countP (·<x):Nat),.bool ((zs.take n).contains x)])∧∃q,w'=w.drewN q:=Any.slices_BinarySearch_int Tryz.laysNm225 b off n c zs x w hz hbig hc hs
open Go.RowKit Go.Lib in
theorem Tryz.slices_BinarySearch_int_empty (a:Option Addr) (c:Nat) (x:Int) (w:World) :
  Calls Tryz.prog 190 #[.slice a 0 c,.int .i64 x] w fun e w'=>e=.returned (.tuple #[.int .i64 0,.bool false])∧w'=w:=Any.slices_BinarySearch_int_empty Tryz.laysNm225 a c x w
def Tryz.laysSlH10_f130_ren:Go.Shelf.Ren:=⟨fun | 10=>130 | 6=>202|n=>n,fun | 22=>52 | 23=>3 | 25=>212 | 3=>3 | 4=>4 | 0=>0|n=>n,fun|n=>n⟩
theorem Tryz.laysSlH10_f130:Go.Proofs.SlLaysH.n10 Tryz.prog Tryz.laysSlH10_f130_ren:={
 mixed:=by kernel_rfl
 f6:=⟨Tryz.f202.name,by decide,Tryz.func202.trans (congrArg some (by kernel_rfl))⟩
 f10:=⟨Tryz.f130.name,by decide,Tryz.func130.trans (congrArg some (by kernel_rfl))⟩
 t0:=Tryz.underlying0
 a0:=Tryz.isAgg0
 z0:=Tryz.sizeOf0
 v0:=Tryz.zeroValue0
 t3:=Tryz.underlying3
 a3:=Tryz.isAgg3
 z3:=Tryz.sizeOf3
 v3:=Tryz.zeroValue3
 t4:=Tryz.underlying4
 a4:=Tryz.isAgg4
 z4:=Tryz.sizeOf4
 v4:=Tryz.zeroValue4
 t22:=Tryz.underlying52
 a22:=Tryz.isAgg52
 z22:=Tryz.sizeOf52
 v22:=Tryz.zeroValue52
 a23:=Tryz.isAgg3
 z23:=Tryz.sizeOf3
 t25:=Tryz.underlying212
 a25:=Tryz.isAgg212
 z25:=Tryz.sizeOf212
 v25:=Tryz.zeroValue212 }
open Go.RowKit Go.Lib Go.Sort in
theorem Tryz.slices_DeleteFunc {α:Type} [Inhabited α] (enc:α→Value) (hO:OneCell enc) (p:α→Bool) (g:Nat) (lb:Array Value) (eg:∀args w,(callFunc g args).run Tryz.prog w=.ok (.enter g args) w) (zr:α) (v23:∀w,(zeroValue 3).run Tryz.prog w=.ok (enc zr) w) (blk off cap:Nat) (d:Array α) (w:World) (hp:PredAt Tryz.prog g lb enc p w) (hpo:PredOver Tryz.prog g lb enc p blk off d.size w) (hH:Holds enc w blk off d) (hsz:d.size≤9223372036854775807) (hcap:d.size≤cap) :
  Calls Tryz.prog 130 #[.slice (some ⟨blk,off,none⟩) d.size cap,.func (.func g) #[] lb] w fun e w'=>e=.returned (.slice (some ⟨blk,off,none⟩) (d.toList.filter fun x=>!p x).length cap)∧∃q,w'=putRow enc (Sort.ahead w q) blk off ((d.toList.filter fun x=>!p x)++List.replicate (d.size - (d.toList.filter fun x=>!p x).length) zr).toArray:=AnyE.slices_DeleteFunc Tryz.laysSlH10_f130 enc hO p g lb eg zr v23 blk off cap d w hp hpo hH hsz hcap
end Go.Proofs
