/- Generic functions of the library that this program calls, laid over its own numbers. -/
import Derived.Test.YtfidicbknjoafaaGreatDoorQKit
import Derived.Test.YtfidicbknjoafaaGreatDoorProg
import Derived.RangeFuncNested
import Derived.RangeFuncBound
import Derived.RangeFuncCalls
import Derived.RangeFuncLeaves
import Derived.RangeFuncGives
import Derived.Shelf.Abstract
import Derived.Shelf.AbstractIn
import Derived.Shelf.RegionOpen
import Derived.WalkKit
import Derived.OwnWalkIn
import Derived.TacticsInMore
import Derived.RegionIn
import Derived.LoopNIn
import Derived.LoopIn
import Derived.Maps.AppendAt
import Derived.Maps.OwnSet
import Derived.Maps.Keyed
import Derived.Maps.OwnRows
import Derived.DeepKeys4
import Derived.WideKeyEntry
import Derived.BigQuiet
import Derived.Deep.QuietTactic
import Derived.Deep.RegionHeld3
import Derived.Test.YtfidicbknjoafaaGreatDoorQCf
import Derived.Shelf.SlSortCmp.WholeK
namespace Go.Proofs.YtfidicbknjoafaaGreatDoor
open Go.RowKit Go.Maps Go.Sort Go.Shelf
open Go.WideElems (Fit)
def kv (p:Int × Int):Value:=.agg #[.int .u32 p.1,.int .u32 p.2]
def UK (p:Int × Int):Prop:=U32 p.1∧U32 p.2
theorem kv_inj {p q:Int × Int} (h:kv p=kv q):p=q:=by
 unfold kv at h
 simp at h
 exact Prod.ext h.1 h.2
theorem kv_inj' (x y:Int × Int) (h:kv x=kv y):x=y:=kv_inj h
theorem laidK:laidOutB Tryz.prog=true:=by kernel_rfl
theorem lawK:WideMaps.KeyLaw Tryz.prog 57:=deep_law_laid laidK (m:=2) (by omega) (of_decide_eq_true (by kernel_rfl)) (by kernel_rfl) (by kernel_rfl)
theorem keyTK:Tryz.prog.keyType 57=true:=by kernel_rfl
theorem cellsK:Tryz.prog.cellsOf 57=2:=by kernel_rfl
theorem cellsAK:Tryz.prog.cellsOf 42=1:=by kernel_rfl
theorem keyedPK:Keyed Tryz.prog 57:=Keyed.of_law lawK
set_option maxRecDepth 100000 in
theorem kv_key' {p:Int × Int} (h:UK p):∃kl,keyOf Tryz.prog 57 (kv p)=some kl:=by
 obtain⟨⟨h0,h1⟩,h2,h3⟩:=h
 have wa:(Lit.int .u32 p.1).wf=true:=by simp[Lit.wf,IntKind.min,IntKind.max,IntKind.signed,IntKind.bits];omega
 have wb:(Lit.int .u32 p.2).wf=true:=by simp[Lit.wf,IntKind.min,IntKind.max,IntKind.signed,IntKind.bits];omega
 have hf:(kv p).formed Tryz.prog 57=true:=by simp[kv,Value.formed,Tryz.underlying57,cellsK]
 unfold keyOf
 simp only[Tryz.underlying57,keyTK,hf,Bool.and_self,if_true]
 have hl:∀n,∃ls,Tryz.prog.keyLits (n+2) 57 (kv p).cells.toList=some ls:=by
  intro n
  simp[Program.keyLits,kv,Value.cells,Tryz.underlying57,Tryz.underlying42,cellsK,cellsAK,wa,wb]
 have hs:∃n,Tryz.prog.types.size+1=n+2:=⟨Tryz.prog.types.size - 1,by
  have:1≤Tryz.prog.types.size:=of_decide_eq_true (by kernel_rfl)
  omega⟩
 obtain⟨n,hn⟩:=hs
 obtain⟨ls,hls⟩:=hl n
 rw[hn,hls]
 exact⟨_,rfl⟩
noncomputable def klit (p:Int × Int):Lit:=(keyOf Tryz.prog 57 (kv p)).getD (.bool false)
theorem kv_key {p:Int × Int} (h:UK p):keyOf Tryz.prog 57 (kv p)=some (klit p):=by
 obtain⟨kl,hk⟩:=kv_key' h
 unfold klit
 rw[hk];rfl
theorem klit_inj {p q:Int × Int} (hp:UK p) (hq:UK q) (h:klit p=klit q):p=q:=by
 have h1:=kv_key hp
 rw[h]at h1
 exact kv_inj (keyedPK.inj h1 (kv_key hq))
set_option maxRecDepth 100000 in
theorem key_kv {v:Value} {kl:Lit} (h:keyOf Tryz.prog 57 v=some kl):∃p:Int × Int,v=kv p∧UK p:=by
 unfold keyOf at h
 simp only[Tryz.underlying57,keyTK,Bool.true_and]at h
 split at h
 ·rename_i hf
  have hs:∃n,Tryz.prog.types.size+1=n+2:=⟨Tryz.prog.types.size - 1,by
   have:1≤Tryz.prog.types.size:=of_decide_eq_true (by kernel_rfl)
   omega⟩
  obtain⟨n,hn⟩:=hs
  rw[hn]at h
  cases v <;> simp[Value.formed,Tryz.underlying57,cellsK]at hf
  rename_i cs
  obtain⟨cs⟩:=cs
  match cs,hf with
  | [a,b],_ =>
   simp only[Option.map_eq_some_iff]at h
   obtain⟨ls,hl,_⟩:=h
   simp[Program.keyLits,Value.cells,Tryz.underlying57,Tryz.underlying42,cellsK,cellsAK]at hl
   cases a with
   | int qa x =>
    by_cases hqa:qa=.u32∧(Lit.int qa x).wf=true
    ·cases b with
     | int qb y =>
      by_cases hqb:qb=.u32∧(Lit.int qb y).wf=true
      ·exact⟨(x,y),by rw[hqa.1,hqb.1];rfl,wf_u32 (by rw[←hqa.1];exact hqa.2),wf_u32 (by rw[←hqb.1];exact hqb.2)⟩
      ·simp only[if_neg (show ¬ (qb=.u32∧(Lit.int .u32 y).wf=true) from fun h=>hqb ⟨h.1,by rw[h.1];exact h.2⟩)]at hl
       cases h1:(if qa=.u32∧(Lit.int .u32 x).wf=true then some [Lit.int .u32 x] else none) <;> simp[h1]at hl
     | _=>cases h1:(if qa=.u32∧(Lit.int .u32 x).wf=true then some [Lit.int .u32 x] else none) <;> simp[h1]at hl
    ·simp only[if_neg (show ¬ (qa=.u32∧(Lit.int .u32 x).wf=true) from fun h=>hqa ⟨h.1,by rw[h.1];exact h.2⟩)]at hl
     simp at hl
   | _=>simp at hl
 ·cases h
def AllMetK (D0:DataW Unit) (ss:List (Int × Int)):Prop:=∃left,Met Tryz.prog 57 kv D0 left ss∧∀kl,left kl=false
set_option maxRecDepth 100000 in
set_option maxHeartbeats 1000000 in
theorem keys1_inK (F:Fence) (n:Nat) (h10:F.fn 240) (hro:F.round=none) (hn:1≤n) (l Bm b nn:Nat) (D0:DataW Unit) (J Jx:List (Int × Int)→World→Prop)
  (hY:∀pre x W,J pre W→pre.length<Maps.size D0→YieldAt F (n - 1) Tryz.prog l #[kv x] W fun e W'=>(e=.returned (.bool true)∧J (pre++[x]) W'∧KeepsWalks W W')∨(e=.returned (.bool false)∧Jx (pre++[x]) W'))
  (W:World) (hJ:AbidesFrom W.heap.size J) (hm:W.cell? ⟨Bm,0,none⟩=some (.map (some b))) (hown:W.ownsMap Tryz.prog 57 (plainElem (H:=Unit) Tryz.prog 3) b nn D0) (h0:J [] W) :
  CallsIn F n Tryz.prog 240 #[.func (.yield l) #[] #[],.pointer (some ⟨Bm,0,none⟩)] W fun e W'=>(∃v,e=.returned v)∧((∃ss:List (Int × Int),AllMetK D0 ss∧J ss W')∨(∃pre:List (Int × Int),True∧Jx pre W')):=by
 refine callsIn_of_wp Tryz.func240 rfl h10 ?_ hro
 simp only[Tryz.ntmps240,List.size_toArray,List.length_cons,List.length_nil,Nat.reduceAdd,Nat.reduceSub,Array.replicate_succ,Array.replicate_zero,List.push_toArray,List.append_toArray,List.nil_append,List.cons_append]
 gi_wp2_with (first
  | (gi_at_range;refine wpListIn_range_own _ rfl _ 259 rfl 57 3 keyedPK Tryz.underlying259 _ b nn _ rfl hown ?_;intro w0 hrg0 hg0 hs0)
  | gi_in)
 go_frame
 gi_loopw [3] (fun _ wr=>∃ (left:Lit→Bool) (cnt:Nat) (ss:List (Int × Int)),wr.ranges Tryz.prog 57 (plainElem (H:=Unit) Tryz.prog 3) b W.heap.size nn D0 left cnt∧ss.length+cnt≤Maps.size D0∧Met Tryz.prog 57 kv D0 left ss∧J ss wr)
  (fun _ wr=>wr.rangeLeft b W.heap.size)
 case atStart =>
  exact⟨_,_,[],hrg0,by simp,Met.start,hJ [] W w0 none h0 hg0 (fun r e=>by cases e)⟩
 case round =>
  obtain⟨left,cnt,ss,hrg,hcs,hC,hJs⟩:=hrel
  gi_wp2_with (first
   | (gi_at_next;refine wpListIn_next_ranges _ rfl _ rfl 57 keyedPK (plainElem (H:=Unit) Tryz.prog 3) kv id (fun key kl hk=>(key_kv hk).imp fun _ h=>h.1) (fun v _ _=>⟨v,rfl⟩) b W.heap.size nn _ _ _ rfl hrg ?_ ?_)
   | gi_in)
  ·intro hc0 hl0
   gi_wp2
   go_end0
   exact⟨⟨_,rfl⟩,.inl ⟨ss,⟨_,hC,hl0⟩,hJs⟩⟩
  ·intro x1 x2 c kl yd yp w2 cnt2 hkey hlk hv hat hrg2 hlt hg2 hs2 hen
   have hJ2:J ss w2:=hJ ss wr w2 (some W.heap.size) hJs hg2 (fun r e=>by cases e;exact⟨Nat.le_refl _,hrg.iter_walk⟩)
   have hJ3:J ss (w2.alloc (.cells #[.int .u32 x1,.int .u32 x2] 57)):=hJ ss w2 _ none hJ2 (World.grownBy_alloc _ _ _) (fun r e=>by cases e)
   have hrg3:=hrg2.of_walks (KeepsWalks.alloc w2 (.cells #[.int .u32 x1,.int .u32 x2] 57))
   have hC3:=hC.step keyedPK kv_inj' hkey hlk hat
   obtain⟨fn,tmps,assign,body,hy,hR⟩:=hY ss (x1,x2) _ hJ3 (by omega)
   have hyy:(Instr.yield l #[.agg #[.int .u32 x1,.int .u32 x2]]).run Tryz.prog (w2.alloc (.cells #[.int .u32 x1,.int .u32 x2] 57))=_:=hy
   clear hs2 hy
   unfold kv at hen
   gi_wp2
   refine hR.mono ?_
   rintro e W3 (⟨rfl,hJ4,hk3⟩|⟨rfl,hJx3⟩)
   ·gi_wp2
    have hrg4:=hrg3.of_walks hk3
    go_roundw
    case rel=>exact⟨_,cnt2,ss++[(x1,x2)],hrg4,by simp;omega,hC3,hJ4⟩
    case measure=>rw[hrg4.left_eq,hrg.left_eq];exact hlt
   ·gi_wp2
    refine bodyPost_ret (results_none rfl _ _ _) rfl ?_
    exact⟨⟨_,rfl⟩,.inr ⟨_,trivial,hJx3⟩⟩
set_option maxHeartbeats 1000000 in
theorem keys_inK (F:Fence) (n:Nat) (h7:F.fn 197) (hro:F.round=none) (mb:Option Nat) (w:World) :
  CallsIn F n Tryz.prog 197 #[.map mb] w fun e w'=>e=.returned (.func (.func 240) #[] #[.pointer (some ⟨w.heap.size,0,none⟩)])∧w'=w.alloc (.cells #[.map mb] 259):=by
 refine callsIn_of_wp Tryz.func197 rfl h7 ?_ hro
 simp only[Tryz.ntmps197,List.size_toArray,List.length_cons,List.length_nil,Nat.reduceAdd,Nat.reduceSub,Array.replicate_succ,Array.replicate_zero,List.push_toArray,List.append_toArray,List.nil_append,List.cons_append]
 gi_wp2
 go_ret
 exact⟨rfl,rfl⟩
theorem keys_stopsK (F:Fence) (n:Nat) (h10:F.fn 240) (hro:F.round=none) (hn:1≤n) (Bm b nn:Nat) (D0:DataW Unit) (w:World) (hBm:Bm<w.heap.size)
  (hm:w.cell? ⟨Bm,0,none⟩=some (.map (some b))) (hown:w.ownsMap Tryz.prog 57 (plainElem (H:=Unit) Tryz.prog 3) b nn D0) :
  SeqStopsK F n Tryz.prog 240 #[.pointer (some ⟨Bm,0,none⟩)] (fun x:(Int × Int)=>#[kv x]) KeepsWalks (AllMetK D0) (fun _=>True) (Maps.size D0) w:=fun l J Jx W hW hJ _ hY h0=>by
 have hown':W.ownsMap Tryz.prog 57 (plainElem (H:=Unit) Tryz.prog 3) b nn D0:=by
  have hbl:=hown.lt
  obtain⟨es,clock,hb,Ft,hs,hD⟩:=hown
  exact⟨es,clock,(hW.block b hbl).trans hb,Ft,hs,hD⟩
 exact keys1_inK F n h10 hro hn l Bm b nn D0 J Jx hY W hJ ((hW.cell (p:=⟨Bm,0,none⟩) hBm).trans hm) hown' h0
attribute [local go_sem] Oper.semAt_some
theorem info_pfK:(Tryz.prog.info? 57).map (fun i=>(i.zero,i.size,i.bytes))=some (some (.agg #[.int .u32 0,.int .u32 0]),2,8):=by kernel_rfl
def PFK (l:List (Int × Int)):List Value:=(l.map fun p=>[Value.int .u32 p.1,.int .u32 p.2]).flatten
theorem PF_appK (l m:List (Int × Int)):PFK (l++m)=PFK l++PFK m:=by simp[PFK]
theorem PF_oneK (l:List (Int × Int)):∀u∈PFK l,u.oneCell'=true:=by
 intro u hu
 unfold PFK at hu
 obtain⟨m,hm,hu⟩:=List.mem_flatten.1 hu
 obtain⟨p,_,rfl⟩:=List.mem_map.1 hm
 simp at hu
 rcases hu with rfl|rfl <;> rfl
def ApActK (w0:World) (sv:Value) (B:Nat) (x:(Int × Int)) (a:Act) (W:World):Prop :=
 ∃Bx,w0.heap.size<Bx∧Blk W Bx 57 #[.int .u32 x.1,.int .u32 x.2] ∧
  a={ tmps:=#[.slice none 0 0,sv,.pointer (some ⟨B,0,none⟩),undef,.slice none 0 0,.pointer (some ⟨Bx,0,none⟩),sv,.agg #[.int .u32 x.1,.int .u32 x.2],undef,undef,undef,undef,undef],defers:=[] }
set_option maxRecDepth 100000 in
set_option maxHeartbeats 2000000 in
theorem appendSeq_inK (F:Fence) (n:Nat) (h11:F.fn 192) (hro:F.round=none) (hn:2≤n) (g:Nat) (lb:Array Value) (hFg:F.fn g) (eg:∀args w,(callFunc g args).run Tryz.prog w=.ok (.enter g args) w)
  (S Sp:List (Int × Int)→Prop) (N:Nat) (hN:N≤1000000) (w w0:World) (hb0:Below w0.heap.size w0 w) (hseq:SeqStopsK F (n - 1) Tryz.prog g lb (fun x:(Int × Int)=>#[kv x]) KeepsWalks S Sp N w0) :
  CallsIn F n Tryz.prog 192 #[.slice none 0 0,.func (.func g) #[] lb] w fun e w'=>∃ (v:Value) (ss:List (Int × Int)),e=.returned v∧S ss∧w'.ownsRow w.heap.size 57 2 v ss.length (PFK ss)∧Below w.heap.size w w':=by
 have h1:1≤n:=by omega
 obtain⟨i0,hi,hz0,hz1,hz2⟩:=info_parts info_pfK
 refine callsIn_of_wp_marks Tryz.func192 rfl h11 ?_ hro
 simp only[Tryz.ntmps192,List.size_toArray,List.length_cons,List.length_nil,Nat.reduceAdd,Nat.reduceSub,Array.replicate_succ,Array.replicate_zero,List.push_toArray,List.append_toArray,List.nil_append,List.cons_append]
 gi_wp2
 have bB:=Boxed.new w 152 (.slice none 0 0)
 have hB1:Below w.heap.size w (w.alloc (.cells #[.slice none 0 0] 152)):=(Below.refl _ w).alloc (Nat.le_refl _) _
 have hsz:(w.alloc (.cells #[.slice none 0 0] 152)).heap.size=w.heap.size+1:=by simp
 have hb01:Below w0.heap.size w0 (w.alloc (.cells #[.slice none 0 0] 152)):=hb0.trans (hB1.mono hb0.size)
 generalize w.alloc (.cells #[.slice none 0 0] 152)=W0 at bB hB1 hsz hb01 ⊢
 refine wpIn_rangeFunc_ownH hro h1 (gf:=g) (lb:=lb) rfl hFg eg hseq walksK_t walksK_b hb01 (fun _=>rfl)
  (fun pre W=>(∃v,Boxed W w.heap.size 152 v∧W.ownsRow w.heap.size 57 2 v pre.length (PFK pre)∧True)∧Below w.heap.size w W)
  (fun _ _ _=>False)
  (OwnFrom.and (Own.from (holdsRow_own w.heap.size w.heap.size 152 57 2 (fun pre:List (Int × Int)=>pre.length) (fun pre=>PFK pre) (fun _ _=>True)) _) (ownFrom_below (Nat.le_refl _) (by omega)))
  (fun _ _ _ _ _ h _ _=>h) ⟨⟨_,bB,World.ownsRow_nil _ _ _ _,trivial⟩,hB1⟩ (ApActK w (.func (.func g) #[] lb) w.heap.size) ?_ ?assign ?body ?done ?stop
 ·rintro x a' u A B row ⟨Bx,h1x,h2x,h3x⟩ hg hr
  refine⟨Bx,h1x,(hg.block Bx h2x.lt (fun e=>?_)).trans h2x,h3x⟩
  obtain⟨_,o,ho,hc⟩:=hr Bx e.symm
  rw[show A.heap[Bx]?=_ from h2x]at ho
  cases ho;cases hc
 case assign =>
  rintro l pre ⟨x1,x2⟩ W K ⟨⟨v,hv,hr,_⟩,hB⟩ hK
  have hpv:kv (x1,x2)=.agg #[.int .u32 x1,.int .u32 x2]:=rfl
  simp only[hpv]
  have hf:Hid (Blk (W.alloc (.cells #[.int .u32 x1,.int .u32 x2] 57)) W.heap.size 57 #[.int .u32 x1,.int .u32 x2]):=Lib.hid (Blk.new _ _ _)
  clear hpv
  gi_wp2
  refine hK _ _ ((KeepsOthers.alloc _ _).from _) (KeepsWalks.alloc _ _) ⟨⟨v,hv.alloc _,hr.alloc _,trivial⟩,hB.alloc hB.size _⟩ ⟨W.heap.size,by have:=hv.lt;omega,hf.out,rfl⟩
 case body =>
  rintro l pre ⟨x1,x2⟩ a' W hl ⟨r,hr⟩ ⟨⟨v,hv,hrow,_⟩,hB⟩ ⟨Bx,hBx,bX,rfl⟩ hlt
  have c0:=hv.cell
  have d0:W.cell? ⟨Bx,0,none⟩=some (.int .u32 x1):=by simpa using bX.cell 0
  have d1:W.cell? ⟨Bx,1,none⟩=some (.int .u32 x2):=by simpa using bX.cell 1
  have e0:=hv.lt
  have e1:=bX.lt
  gi_wp2_with (first
   | (gi_at_builtin;refine wpListIn_append_own _ rfl _ _ 152 rfl w.heap.size 57 i0 _ 2 8 Tryz.underlying152 hi hz0 hz1 hz2 rfl (by decide) _ _ _ rfl (hrow.alloc _) ⟨W.heap.size,0,none⟩ 1 1 (PFK [(x1,x2)]) rfl rfl (fun j u hj=>by
     match j,hj with
     | 0,hj=>simp[PFK]at hj;subst hj;go_simp
     | 1,hj=>simp[PFK]at hj;subst hj;go_simp
     | j+2,hj=>simp[PFK]at hj) (PF_oneK _) (by unfold maxLen;omega) (by omega) (by have:=hB.size;simp;omega) ?_;intro v' w1 hown' hgrow _;obtain⟨g',cap',rfl⟩:=ownsRow_succ hown';obtain⟨hv1,hv2,hr2,hk2,hb2⟩:=hv.appended (by decide) hrow hB.size (Nat.le_refl _) hown' hgrow;have hc1:=hv1.cell;have hf1:=hv1.frozen)
   | gi_in)
  refine⟨hk2.from _,hk2.walks,⟨⟨_,hv2,?_⟩,hB.trans hb2⟩⟩
  rw[PF_appK,List.length_append]
  exact hr2
 case done =>
  rintro D xs W hD hS ⟨⟨v,hv,hrow,_⟩,hB⟩ hK
  have c0:=hv.cell
  gi_wp2
  refine⟨by simp,.inl ⟨_,_,rfl,run_takeDeferred hK,?_⟩⟩
  exact⟨_,results_tmp rfl _ _ _,v,xs,rfl,hS,ownsRow_putObj hrow _ hK rfl,hB.trans (belowK_b (w:=w) (Nat.le_refl _) W D _ _ (by omega) hK rfl rfl)⟩
 case stop =>
  rintro D c pre W _ _ hF
  exact hF.elim
set_option maxHeartbeats 1000000 in
theorem collect_inK (F:Fence) (n:Nat) (h8:F.fn 122) (h11:F.fn 192) (hro:F.round=none) (hn:3≤n) (g:Nat) (lb:Array Value) (hFg:F.fn g) (eg:∀args w,(callFunc g args).run Tryz.prog w=.ok (.enter g args) w)
  (S Sp:List (Int × Int)→Prop) (N:Nat) (hN:N≤1000000) (w w0:World) (hb0:Below w0.heap.size w0 w) (hseq:SeqStopsK F (n - 1 - 1) Tryz.prog g lb (fun x:(Int × Int)=>#[kv x]) KeepsWalks S Sp N w0) :
  CallsIn F n Tryz.prog 122 #[.func (.func g) #[] lb] w fun e w'=>∃ (v:Value) (ss:List (Int × Int)),e=.returned v∧S ss∧w'.ownsRow w.heap.size 57 2 v ss.length (PFK ss)∧Below w.heap.size w w':=by
 have h1:1≤n:=by omega
 refine callsIn_of_wp Tryz.func122 rfl h8 ?_ hro
 simp only[Tryz.ntmps122,List.size_toArray,List.length_cons,List.length_nil,Nat.reduceAdd,Nat.reduceSub,Array.replicate_succ,Array.replicate_zero,List.push_toArray,List.append_toArray,List.nil_append,List.cons_append]
 gi_wp2_with (gi_at_call 192;refine (appendSeq_inK F (n - 1) h11 hro (by omega) g lb hFg eg S Sp N hN _ w0 hb0 hseq).mono ?_;rintro e w' ⟨v,ss,rfl,hS,hrow,hb⟩)
 go_ret
 exact⟨v,ss,rfl,hS,hrow,hb⟩
end Go.Proofs.YtfidicbknjoafaaGreatDoor
namespace Go.Proofs.YtfidicbknjoafaaGreatDoor
open Go.RowKit
def Gr (w w':World):Prop:=∃ (q:Nat) (os:Array Obj),w'=Sort.grow (w.drewN q) os
section
variable {w w' w2:World}
theorem Gr.refl (w:World):Gr w w:=⟨0,#[],by simp[World.drewN]⟩
theorem Gr.drew (h:Gr w w'):Gr w w'.drew:=by
 obtain⟨q,os,rfl⟩:=h
 exact⟨q+1,os,rfl⟩
theorem Gr.drewN (h:Gr w w') (n:Nat):Gr w (w'.drewN n):=by
 obtain⟨q,os,rfl⟩:=h
 exact⟨q+n,os,by simp[Sort.grow,World.drewN,Nat.add_assoc]⟩
theorem Gr.alloc (h:Gr w w') (o:Obj):Gr w (w'.alloc o):=by
 obtain⟨q,os,rfl⟩:=h
 exact⟨q,os.push o,by simp[Sort.grow,World.drewN,World.alloc]⟩
theorem Gr.below (h:Gr w w'):Below w.heap.size w w':=by
 obtain⟨q,os,rfl⟩:=h
 exact below_grow w q os
theorem Gr.cell (h:Gr w w') {p:Addr} (hp:p.block<w.heap.size):w'.cell? p=w.cell? p:=h.below.cell hp
theorem Gr.trans (h:Gr w w') (g:Gr w' w2):Gr w w2:=by
 obtain⟨q,os,rfl⟩:=h
 obtain⟨q2,os2,rfl⟩:=g
 exact⟨q+q2,os++os2,by simp[Sort.grow,World.drewN,Array.append_assoc,Nat.add_assoc]⟩
end
def cmpI (a b:Int):Int:=if a<b then -1 else if b<a then 1 else 0
theorem cmpI_lt {a b:Int} (h:a<b):cmpI a b=-1:=by unfold cmpI;rw[if_pos h]
theorem cmpI_gt {a b:Int} (h:b<a):cmpI a b=1:=by unfold cmpI;rw[if_neg (by omega),if_pos h]
theorem cmpI_eq {a b:Int} (h:a=b):cmpI a b=0:=by unfold cmpI;rw[if_neg (by omega),if_neg (by omega)]
theorem nan_addr (a:Int) (w:World):Calls Tryz.prog 258 #[.int .u32 a] w fun e w'=>e=.returned (.bool false)∧w=w':=by
 have h:(a != a)=false:=by simp
 go_enter Tryz.func258,Tryz.ntmps258
 go_wp2
 go_ret
 exact⟨rfl,rfl⟩
theorem cmp_addr (a b:Int) (w:World):Calls Tryz.prog 242 #[.int .u32 a,.int .u32 b] w fun e w'=>e=.returned (.int .i64 (cmpI a b))∧w=w':=by
 rcases Int.lt_trichotomy a b with h|h|h
 ·go_enter Tryz.func242,Tryz.ntmps242
  go_wp2_with (go_at_call 258;refine (nan_addr _ _).mono ?_;rintro e w' ⟨rfl,rfl⟩)
  go_ret
  exact⟨ret_int (cmpI_lt h).symm,rfl⟩
 ·subst h
  go_enter Tryz.func242,Tryz.ntmps242
  go_wp2_with (go_at_call 258;refine (nan_addr _ _).mono ?_;rintro e w' ⟨rfl,rfl⟩)
  go_ret
  exact⟨ret_int (cmpI_eq rfl).symm,rfl⟩
 ·have h2:¬ a<b:=by omega
  go_enter Tryz.func242,Tryz.ntmps242
  go_wp2_with (go_at_call 258;refine (nan_addr _ _).mono ?_;rintro e w' ⟨rfl,rfl⟩)
  go_ret
  exact⟨ret_int (cmpI_gt h).symm,rfl⟩
def orI (x y:Int):Int:=if x=0 then y else x
theorem or_two (g c:Nat) (x y:Int) (w:World) (h0:w.cell? ⟨g,0,none⟩=some (.int .i64 x)) (h1:w.cell? ⟨g,1,none⟩=some (.int .i64 y)) :
  Calls Tryz.prog 241 #[.slice (some ⟨g,0,none⟩) 2 c] w fun e w'=>e=.returned (.int .i64 (orI x y))∧w=w':=by
 go_enter Tryz.func241,Tryz.ntmps241
 go_wp2_with fail
 go_loop [8] (fun i=>∃k:Nat,k≤2∧i=.int .i64 k∧(0<k→x=0)∧(1<k→y=0)) (fun i=>2 - (intOf i).toNat)
 case atStart=>exact⟨0,by omega,rfl,by omega,by omega⟩
 case round =>
  obtain⟨k,hk,rfl,hx,hy⟩:=hrel
  match k,hk with
  | 0,_ =>
   clear hx hy
   by_cases h:x=0
   ·subst h
    go_wp2
    go_round
    case rel=>exact⟨1,by omega,rfl,by simp,by simp⟩
    case measure=>simp[intOf]
   ·have hn:(x != 0)=true:=by simpa using h
    have HE:Hid (orI x y=x):=Lib.hid (by unfold orI;rw[if_neg h])
    clear h
    go_wp2
    go_ret
    exact⟨ret_int HE.out.symm,rfl⟩
  | 1,_ =>
   have HX:=Lib.hid (hx (by omega))
   clear hx hy
   by_cases h:y=0
   ·subst h
    go_wp2
    go_round
    case rel=>exact⟨2,by omega,rfl,by simp[HX.out],by simp⟩
    case measure=>simp[intOf]
   ·have hn:(y != 0)=true:=by simpa using h
    have HE:Hid (orI x y=y):=Lib.hid (by unfold orI;rw[if_pos HX.out])
    clear h
    go_wp2
    go_ret
    exact⟨ret_int HE.out.symm,rfl⟩
  | 2,_ =>
   have HE:Hid (orI x y=0):=Lib.hid (by unfold orI;rw[if_pos (hx (by omega)),hy (by omega)])
   clear hx hy
   go_wp2
   go_ret
   exact⟨ret_int HE.out.symm,rfl⟩
end Go.Proofs.YtfidicbknjoafaaGreatDoor
namespace Go.Proofs.YtfidicbknjoafaaGreatDoor
open Go.RowKit
def ordPK (p q:Int × Int):Int:=orI (cmpI p.2 q.2) (cmpI p.1 q.1)
set_option maxHeartbeats 1000000 in
theorem korder_any (a b c d:Int) (w:World):Calls Tryz.prog 199 #[.agg #[.int .u32 a,.int .u32 b],.agg #[.int .u32 c,.int .u32 d]] w fun e w'=>e=.returned (.int .i64 (ordPK (a,b) (c,d)))∧Gr w w':=by
 have hG:=((Gr.refl w).alloc (.cells #[.int .u32 a,.int .u32 b] 57)).alloc (.cells #[.int .u32 c,.int .u32 d] 57)
 have hz:((w.alloc (.cells #[.int .u32 a,.int .u32 b] 57)).alloc (.cells #[.int .u32 c,.int .u32 d] 57)).heap.size=w.heap.size+2:=by simp
 have d0:∀W,Gr ((w.alloc (.cells #[.int .u32 a,.int .u32 b] 57)).alloc (.cells #[.int .u32 c,.int .u32 d] 57)) W→W.cell? ⟨w.heap.size,0,none⟩=some (.int .u32 a):=fun W hW=>(hW.cell (by first|(simp;done)|(simp;omega))).trans (by go_simp)
 have d1:∀W,Gr ((w.alloc (.cells #[.int .u32 a,.int .u32 b] 57)).alloc (.cells #[.int .u32 c,.int .u32 d] 57)) W→W.cell? ⟨w.heap.size,1,none⟩=some (.int .u32 b):=fun W hW=>(hW.cell (by first|(simp;done)|(simp;omega))).trans (by go_simp)
 have d2:∀W,Gr ((w.alloc (.cells #[.int .u32 a,.int .u32 b] 57)).alloc (.cells #[.int .u32 c,.int .u32 d] 57)) W→W.cell? ⟨w.heap.size+1,0,none⟩=some (.int .u32 c):=fun W hW=>(hW.cell (by first|(simp;done)|(simp;omega))).trans (by go_simp)
 have d3:∀W,Gr ((w.alloc (.cells #[.int .u32 a,.int .u32 b] 57)).alloc (.cells #[.int .u32 c,.int .u32 d] 57)) W→W.cell? ⟨w.heap.size+1,1,none⟩=some (.int .u32 d):=fun W hW=>(hW.cell (by first|(simp;done)|(simp;omega))).trans (by go_simp)
 go_enter Tryz.func199,Tryz.ntmps199
 go_wp2_with fail
 generalize (w.alloc (.cells #[.int .u32 a,.int .u32 b] 57)).alloc (.cells #[.int .u32 c,.int .u32 d] 57)=w1 at *
 have hS:=Gr.refl w1
 have e0:∀u v t,(w1.alloc (.cells #[u,v] t)).drew.cell? ⟨w.heap.size+2,0,none⟩=some u:=fun u v t=>by rw[←hz];go_simp
 have e1:∀u v t,(w1.alloc (.cells #[u,v] t)).drew.cell? ⟨w.heap.size+2,1,none⟩=some v:=fun u v t=>by rw[←hz];go_simp
 go_region_held3 (fun W=>Gr w1 W) (first|exact hS.drew|with_reducible assumption|exact Gr.alloc (by with_reducible assumption) _|exact (Gr.alloc (by with_reducible assumption) _).drew)
  (first
  | (go_at_call 242;refine (cmp_addr _ _ _).mono ?_;rintro e w2 ⟨rfl,rfl⟩)
  | (go_at_call 241;refine (or_two _ _ _ _ _ (e0 _ _ _) (e1 _ _ _)).mono ?_;rintro e w2 ⟨rfl,rfl⟩))
 go_wp2
 all_goals
  go_ret
  refine⟨rfl,hG.trans ?_⟩
  with_reducible assumption
end Go.Proofs.YtfidicbknjoafaaGreatDoor
namespace Go.Proofs
open Go.Shelf
def Tryz.sortKy_ren:Go.Shelf.Ren:=⟨fun | 6=>239 | 15=>189 | 14=>261 | 28=>233 | 29=>234 | 20=>267 | 21=>268 | 22=>269 | 23=>270 | 24=>271 | 25=>272 | 26=>273 | 27=>274 | 46=>276 | 47=>254 | 48=>255 | 49=>277 | 50=>278 | 57=>279|n=>n,fun | 22=>152 | 24=>57 | 25=>261 | 3=>3 | 39=>169 | 0=>0 | 53=>41 | 55=>287 | 4=>4 | 46=>279 | 45=>278 | 50=>39 | 5=>5 | 9=>9 | 66=>299 | 70=>303 | 76=>308 | 77=>154|n=>n,fun|n=>n⟩
theorem Tryz.sortKy:Go.Proofs.SlLaysF0.n6 Tryz.prog Tryz.sortKy_ren:={
 mixed:=by kernel_rfl
 f6:=⟨Tryz.f239.name,by decide,Tryz.func239.trans (congrArg some (by kernel_rfl))⟩
 f14:=⟨Tryz.f261.name,by decide,Tryz.func261.trans (congrArg some (by kernel_rfl))⟩
 f15:=Tryz.func189.trans (congrArg some (by kernel_rfl))
 f20:=⟨Tryz.f267.name,by decide,Tryz.func267.trans (congrArg some (by kernel_rfl))⟩
 f21:=⟨Tryz.f268.name,by decide,Tryz.func268.trans (congrArg some (by kernel_rfl))⟩
 f22:=⟨Tryz.f269.name,by decide,Tryz.func269.trans (congrArg some (by kernel_rfl))⟩
 f23:=⟨Tryz.f270.name,by decide,Tryz.func270.trans (congrArg some (by kernel_rfl))⟩
 f24:=⟨Tryz.f271.name,by decide,Tryz.func271.trans (congrArg some (by kernel_rfl))⟩
 f25:=⟨Tryz.f272.name,by decide,Tryz.func272.trans (congrArg some (by kernel_rfl))⟩
 f26:=⟨Tryz.f273.name,by decide,Tryz.func273.trans (congrArg some (by kernel_rfl))⟩
 f27:=⟨Tryz.f274.name,by decide,Tryz.func274.trans (congrArg some (by kernel_rfl))⟩
 f28:=Tryz.func233.trans (congrArg some (by kernel_rfl))
 f29:=Tryz.func234.trans (congrArg some (by kernel_rfl))
 f46:=⟨Tryz.f276.name,by decide,Tryz.func276.trans (congrArg some (by kernel_rfl))⟩
 f47:=Tryz.func254.trans (congrArg some (by kernel_rfl))
 f48:=Tryz.func255.trans (congrArg some (by kernel_rfl))
 f49:=⟨Tryz.f277.name,by decide,Tryz.func277.trans (congrArg some (by kernel_rfl))⟩
 f50:=⟨Tryz.f278.name,by decide,Tryz.func278.trans (congrArg some (by kernel_rfl))⟩
 f57:=⟨Tryz.f279.name,by decide,Tryz.func279.trans (congrArg some (by kernel_rfl))⟩
 t0:=Tryz.underlying0
 a0:=Tryz.isAgg0
 z0:=Tryz.sizeOf0
 v0:=Tryz.zeroValue0
 t3:=Tryz.underlying3
 a3:=Tryz.isAgg3
 z3:=Tryz.sizeOf3
 v3:=Tryz.zeroValue3
 t4:=Tryz.underlying4
 a4:=Tryz.isAgg4
 z4:=Tryz.sizeOf4
 v4:=Tryz.zeroValue4
 t5:=Tryz.underlying5
 a5:=Tryz.isAgg5
 z5:=Tryz.sizeOf5
 v5:=Tryz.zeroValue5
 t9:=Tryz.underlying9
 a9:=Tryz.isAgg9
 z9:=Tryz.sizeOf9
 v9:=Tryz.zeroValue9
 t22:=Tryz.underlying152
 a22:=Tryz.isAgg152
 z22:=Tryz.sizeOf152
 v22:=Tryz.zeroValue152
 t25:=Tryz.underlying261
 a25:=Tryz.isAgg261
 z25:=Tryz.sizeOf261
 v25:=Tryz.zeroValue261
 t39:=Tryz.underlying169
 a39:=Tryz.isAgg169
 z39:=Tryz.sizeOf169
 v39:=Tryz.zeroValue169
 t45:=Tryz.underlying278
 a45:=Tryz.isAgg278
 z45:=Tryz.sizeOf278
 v45:=Tryz.zeroValue278
 t46:=Tryz.underlying279
 a46:=Tryz.isAgg279
 z46:=Tryz.sizeOf279
 v46:=Tryz.zeroValue279
 t50:=Tryz.underlying39
 a50:=Tryz.isAgg39
 z50:=Tryz.sizeOf39
 v50:=Tryz.zeroValue39
 t53:=Tryz.underlying41
 a53:=Tryz.isAgg41
 z53:=Tryz.sizeOf41
 v53:=Tryz.zeroValue41
 t55:=Tryz.underlying287
 a55:=Tryz.isAgg287
 z55:=Tryz.sizeOf287
 v55:=Tryz.zeroValue287
 t66:=Tryz.underlying299
 a66:=Tryz.isAgg299
 z66:=Tryz.sizeOf299
 v66:=Tryz.zeroValue299
 t70:=Tryz.underlying303
 a70:=Tryz.isAgg303
 z70:=Tryz.sizeOf303
 v70:=Tryz.zeroValue303
 t76:=Tryz.underlying308
 a76:=Tryz.isAgg308
 z76:=Tryz.sizeOf308
 v76:=Tryz.zeroValue308
 t77:=Tryz.underlying154
 a77:=Tryz.isAgg154
 z77:=Tryz.sizeOf154
 v77:=Tryz.zeroValue154 }
end Go.Proofs
