/- maps. -/
import Derived.Test.YtfidicbknjoafaaGreatDoorQYv
import Derived.Test.YtfidicbknjoafaaGreatDoorQRc
import Derived.Test.YtfidicbknjoafaaGreatDoorQShelf
import Derived.Deep.RegionHeld3
import Derived.Test.YtfidicbknjoafaaGreatDoorQYw
import Derived.Test.YtfidicbknjoafaaGreatDoorQYk
import Derived.BigQuiet
import Derived.Test.YtfidicbknjoafaaGreatDoorQYm
import Derived.Test.YtfidicbknjoafaaGreatDoorQStrb
namespace Go.Proofs.YtfidicbknjoafaaGreatDoor
open Go.RowKit Lx Sm Go.Maps Go.Lib
def CHd (h:Int × Int × Int):List Value:=[.int .i64 h.1,.int .u32 h.2.1,.int .u32 h.2.2]
def PT (own:List Int) (hs:List (Int × Int × Int)) (L:Tr.Row):Prop:=L.length≤hs.length∧∀k,Tr.get L k=if portsK own k hs=[] then none else some (portsK own k hs)
theorem PT.nil (own:List Int):PT own [] []:=⟨Nat.le_refl _,fun k=>by simp[portsK,Tr.get]⟩
theorem withI_ne (l:List Int) (q:Int):withI l q ≠ []:=fun e=>by
 have:=(withI_mem l q q).2 (.inr rfl)
 rw[e]at this;cases this
theorem PT.val {own:List Int} {hs:List (Int × Int × Int)} {L:Tr.Row} (h:PT own hs L) (k:Int × Int):(Tr.get L k).getD []=portsK own k hs:=by
 rw[h.2 k]
 split
 ·rename_i e;rw[e];rfl
 ·rfl
theorem PT.skip {own:List Int} {hs:List (Int × Int × Int)} {L:Tr.Row} (h:PT own hs L) {x:Int × Int × Int} (hc:own.contains x.1=false):PT own (hs++[x]) L :=
 ⟨by rw[List.length_append];have:=h.1;omega,fun k=>by
  have e:portsK own k (hs++[x])=portsK own k hs:=by rw[portsK_snoc,if_neg (by rw[hc];simp)]
  rw[e];exact h.2 k⟩
theorem PT.step {own:List Int} {hs:List (Int × Int × Int)} {L L':Tr.Row} (h:PT own hs L) {x:Int × Int × Int} (hc:own.contains x.1=true) (hl:L'.length≤L.length+1) (hg:∀q,Tr.get L' q=if x.2=q then some (withI (portsK own x.2 hs) x.1) else Tr.get L q):PT own (hs++[x]) L' :=
 ⟨by rw[List.length_append,List.length_singleton];have:=h.1;omega,fun k=>by
  rw[hg k]
  by_cases e:x.2=k
  ·subst e
   have e2:portsK own x.2 (hs++[x])=withI (portsK own x.2 hs) x.1:=by rw[portsK_snoc,if_pos ⟨hc,rfl⟩]
   rw[e2,if_pos rfl,if_neg (withI_ne _ _)]
  ·have e2:portsK own k (hs++[x])=portsK own k hs:=by rw[portsK_snoc,if_neg (fun h2=>e h2.2)]
   rw[e2,if_neg e]
   exact h.2 k⟩
def Kw (s:Nat) (r:Option Nat) (i:Nat) (w:World) (_:Value) (w':World):Prop:=if i=s then w.grownBy w' r else Below w.heap.size w w'
theorem Kw.ne {s:Nat} {r:Option Nat} {i:Nat} {w w':World} {v:Value} (h:Kw s r i w v w') (hi:i ≠ s):Below w.heap.size w w':=by unfold Kw at h;rwa [if_neg hi]at h
theorem Kw.mk {s:Nat} {r:Option Nat} {i:Nat} {w w':World} {v:Value} (hi:i ≠ s) (h:Below w.heap.size w w'):Kw s r i w v w':=by unfold Kw;rw[if_neg hi];exact h
theorem Kw.mks {s:Nat} {r:Option Nat} {w w':World} {v:Value} (h:w.grownBy w' r):Kw s r s w v w':=by unfold Kw;rw[if_pos rfl];exact h
theorem grown_bel0 {w w':World} (r:Option Nat) (h:Below w.heap.size w w'):w.grownBy w' r:=⟨h.os,h.tape,h.output,h.size,fun k hk _=>h.block k hk⟩
theorem Kw.grown {s:Nat} {r:Option Nat} {i:Nat} {w w':World} {v:Value} (h:Kw s r i w v w'):w.grownBy w' r:=by
 unfold Kw at h
 split at h
 ·exact h
 ·exact grown_bel0 r h
def Tw (s:Nat) (r:Option Nat) (W1:World) (l:List Nat) (W:World):Prop:=(s ∉ l→Below W1.heap.size W1 W)∧W1.grownBy W r
theorem Tw.step {s:Nat} {r:Option Nat} {W1 w w':World} {v:Value} {i:Nat} {l:List Nat} (h:Tw s r W1 l w) (hk:Kw s r i w v w'):Tw s r W1 (l++[i]) w' :=
 ⟨fun hn=>by
  have h1:i ≠ s:=fun e=>hn (by simp[e])
  exact below_next (h.1 fun hm=>hn (List.mem_append.2 (.inl hm))) (hk.ne h1),h.2.trans hk.grown⟩
theorem below_grown {n0:Nat} {w w':World} {r:Option Nat} (h:w.grownBy w' r) (hr:∀g,r=some g→n0≤g) (hn:n0≤w.heap.size):Below n0 w w':=⟨h.os,h.tape,h.output,h.size,fun k hk=>h.block k (by omega) (fun e=>by
 first
 | (have:=hr k e;omega)
 | (have:=hr k e.symm;omega))⟩
theorem KI.tight {w:World} {F:Nat→Prop} {b:Nat} {L:Tr.Row} {es:Array MapEntry} {clock:Nat} (h:KI w F b L es clock):KI w (fun i=>F i∧i<w.heap.size) b L es clock :=
 ⟨⟨h.own,(Array.getElem?_eq_some_iff.1 h.block).1⟩,h.block,h.fit,h.size,fun j e x he hx=>by
  obtain⟨h1,h2,h3,h4⟩:=h.each j e x he hx
  refine⟨h1,h2,h3,fun g hg=>⟨h4 g hg,?_⟩⟩
  rcases h3.2 with ⟨hv,_⟩|⟨g',cap,cur,hv,_,hh,_⟩
  ·rw[hv]at hg;simp[Value.ownBlock]at hg
  ·rw[hv]at hg;simp[Value.ownBlock]at hg;subst hg;exact (Array.getElem?_eq_some_iff.1 hh).1,h.apart⟩
set_option maxRecDepth 100000 in
set_option maxHeartbeats 4000000 in
theorem wports_any (A:Option Addr) (n c:Nat) (hs:List (Int × Int × Int)) (B:Option Addr) (m d:Nat) (own:List Int) (w:World) (hr:RI CHd 3 w A n hs) (hk:∀h∈hs,UK h.2) (hn:n≤500) (ho:JR w B m own) (hm:m≤1000) :
  Calls Tryz.prog 73 #[.slice A n c,.slice B m d] w fun e w'=>∃b F L es clock,e=.returned (.map (some b))∧KI w' F b L es clock∧(∀g,F g→w.heap.size≤g)∧PT own hs L∧Below w.heap.size w w':=by
 have HR:=Lib.hid hr
 have HO:=Lib.hid ho
 have HU:=Lib.hid hk
 have HNL:=Lib.hid hr.len
 have hmk:∀W,(Instr.makeMap 150 none).run Tryz.prog W=.ok (.map (some W.heap.size)) (W.alloc (.map #[] 0)):=fun W=>by
  simp[Instr.makeMap,Result.andThen]
 have HM:Hid (KI (w.alloc (.map #[] 0)) (fun i=>i=w.heap.size) w.heap.size [] #[] 0):=Lib.hid ⟨rfl,(MapKept.heap_alloc w _).1,⟨by simp,MapKept.stamped_empty 0,fun x hx=>by simp at hx⟩,rfl,fun j e x he=>by simp at he,fun i j e f _ he=>by simp at he⟩
 have HB0:Hid (Below w.heap.size w (w.alloc (.map #[] 0))):=Lib.hid ((Below.refl _ _).alloc (Nat.le_refl _) _)
 clear hr ho hk
 go_enter Tryz.func73,Tryz.ntmps73
 go_upto_region 2 with fail
 clear hmk
 generalize w.alloc (.map #[] 0)=W0 at *
 have HBE:Hid (w.heap.size≤w.heap.size):=Lib.hid (Nat.le_refl _)
 have HFE:Hid (∀g,g=w.heap.size→w.heap.size≤g):=Lib.hid (fun g e=>by omega)
 generalize hFF:(fun i=>i=w.heap.size)=F0 at *
 have HFE':Hid (∀g,F0 g→w.heap.size≤g):=Lib.hid (fun g e=>by subst hFF;exact HFE.out g e)
 clear HFE hFF
 generalize hbb:w.heap.size=b at HM HBE ⊢
 have HBF:Hid (w.heap.size≤b):=Lib.hid (by omega)
 clear hbb HBE
 go_wp2_with fail
 go_loopw [11] (fun iv wr=>∃ (k:Nat) (F:Nat→Prop) (L:Tr.Row) (es:Array MapEntry) (clock:Nat),k≤n∧iv=.int .i64 k∧Hid (KI wr F b L es clock)∧Hid (∀g,F g→w.heap.size≤g)∧Hid (PT own (hs.take k) L)∧Hid (Below w.heap.size w wr)) (fun iv _=>n - (intOf iv).toNat)
 case atStart=>exact⟨0,F0,[],#[],0,Nat.zero_le _,rfl,HM,HFE',Lib.hid (PT.nil own),HB0⟩
 case round =>
  obtain⟨k,F,L,es,clock,hkn,rfl,HKW,HFW,HPT,HBw⟩:=hrel
  rcases Nat.lt_or_ge k n with hlt|hge
  ·have hi0:(k:Int)<(n:Int):=by omega
   have hrw:=HR.out.next HBw.out
   obtain⟨ba,oa,⟨qA,sA,gA⟩,rfl,hba,hx,hcl⟩:=hrw.at_ hlt
   have c0:wr.cell? ⟨ba,oa+k*3,none⟩=some (.int .i64 qA):=hcl 0 _ rfl
   have c1:wr.cell? ⟨ba,oa+k*3+1,none⟩=some (.int .u32 sA):=hcl 1 _ rfl
   have c2:wr.cell? ⟨ba,oa+k*3+2,none⟩=some (.int .u32 gA):=hcl 2 _ rfl
   have HTK:Hid (hs.take (k+1)=hs.take k++[(qA,sA,gA)]):=Lib.hid (by rw[List.take_add_one,hx];rfl)
   have HUP:Hid (UK (sA,gA)):=Lib.hid (HU.out _ (List.mem_of_getElem? hx))
   have HLL:Hid (L.length≤500):=Lib.hid (by have:=HPT.out.1;rw[List.length_take]at this;have:=HNL.out;omega)
   clear hrw hcl hx
   have HN1:=Lib.hid ((Below.refl wr.heap.size wr).alloc (Nat.le_refl _) (.cells #[.int .i64 qA,.int .u32 sA,.int .u32 gA] 89))
   have HB1:=Lib.hid (HBw.out.alloc HBw.out.size (.cells #[.int .i64 qA,.int .u32 sA,.int .u32 gA] 89))
   have HK1:=Lib.hid (Blk.new wr 89 #[.int .i64 qA,.int .u32 sA,.int .u32 gA])
   go_upto_region 5 with fail
   clear c0 c1 c2
   generalize wr.alloc (.cells #[.int .i64 qA,.int .u32 sA,.int .u32 gA] 89)=Wa at *
   have HCO:=Lib.hid (has_any B m d own qA Wa (HO.out.next HB1.out) (by omega))
   obtain⟨F1,hkt,hf1⟩:∃F1:Nat→Prop,KI wr F1 b L es clock∧∀g,F1 g→w.heap.size≤g∧g<wr.heap.size:=⟨_,HKW.out.tight,fun g hg=>⟨HFW.out g hg.1,hg.2⟩⟩
   have HKT:=Lib.hid hkt
   have HF1:=Lib.hid hf1
   have t0:Wa.cell? ⟨wr.heap.size,0,none⟩=some (.int .i64 qA):=HK1.out.cell 0
   clear hkt hf1
   cases hc:own.any (fun x=>qA==x) with
   | false =>
    rw[hc]at HCO
    have HCF:Hid (own.contains qA=false):=Lib.hid (by rw[List.contains_eq_any_beq];exact hc)
    clear hc
    go_wp2_with (go_at_call 59;refine HCO.out.mono ?_;rintro e w1 ⟨rfl,hb1⟩;have HB2:=Lib.hid (HB1.out.trans (hb1.mono HB1.out.size));have HN2:=Lib.hid (below_next HN1.out hb1);clear hb1)
    go_roundw
    case rel=>exact⟨k+1,F1,L,es,clock,hlt,by go_num,Lib.hid (HKT.out.kept (fun i hi=>HN2.out.block i (HF1.out i hi).2) (fun _ h=>h)),Lib.hid (fun g hg=>(HF1.out g hg).1),Lib.hid (by rw[HTK.out];exact HPT.out.skip HCF.out),HB2⟩
    case measure=>simp[intOf];omega
   | true =>
    rw[hc]at HCO
    have HCT:Hid (own.contains qA=true):=Lib.hid (by rw[List.contains_eq_any_beq];exact hc)
    clear hc
    go_upto_region 6 with (go_at_call 59;refine HCO.out.mono ?_;rintro e W1 ⟨rfl,hb1⟩;have HBW1:=Lib.hid (HB1.out.trans (hb1.mono HB1.out.size));have HN2:=Lib.hid (below_next HN1.out hb1);have HK2:=Lib.hid (HK1.out.next hb1);clear hb1)
    clear t0 HCO HK1
    have HKI:=Lib.hid (HKT.out.kept (w':=W1) (fun i hi=>HN2.out.block i (HF1.out i hi).2) (fun _ h=>h))
    obtain⟨vr,ys,hlk,hys,hlo,hown,hvf⟩:=HKI.out.look HUP.out
    rw[HPT.out.val]at hys
    have hvo:vr.ownBlock ≠ some b:=HKI.out.row_ne rfl hown
    have hbl:b<W1.heap.size:=(Array.getElem?_eq_some_iff.1 HKI.out.block).1
    have hwl:wr.heap.size<W1.heap.size:=(Array.getElem?_eq_some_iff.1 HK2.out).1
    have HLK:=Lib.hid hlk
    have HYS:=Lib.hid hys
    have HVF:=Lib.hid hvf
    have HVO:=Lib.hid hvo
    have HRM:Hid (L.length<maxLen):=Lib.hid (by have:=HLL.out;unfold maxLen;omega)
    have HRF:Hid (∀g,vr.ownBlock=some g→w.heap.size≤g):=Lib.hid (fun g hg=>(HF1.out g (hvf g hg)).1)
    have HVB:Hid (∀l W,Tw 9 vr.ownBlock W1 l W→Blk W wr.heap.size 89 #[.int .i64 qA,.int .u32 sA,.int .u32 gA]):=Lib.hid (fun l W hT=>(hT.2.block _ hwl (fun e=>by have:=(HF1.out _ (hvf _ e.symm)).2;omega)).trans HK2.out)
    have HLO:Hid (∀l W,Tw 9 vr.ownBlock W1 l W→(Instr.lookup 150 (.map (some b)) (.agg #[.int .u32 sA,.int .u32 gA]) false).run Tryz.prog W=.ok vr W):=Lib.hid (fun l W hT=>hlo W (hT.2.block b hbl (fun e=>hvo e.symm)))
    have hyl:ys.length≤1000:=by rw[hys];have:=portsK_len own (sA,gA) (hs.take k);rw[List.length_take]at this;have:=HNL.out;omega
    have HWI:Hid (∀W,Below W1.heap.size W1 W→Calls Tryz.prog 121 #[vr,.int .i64 qA] W fun e w'=>∃v',e=.returned v'∧InsOK W w' vr v' (withI ys qA)):=Lib.hid (fun W hW=>with_any vr ys.length ys qA W (own_next hown hW) (by rw[hys];exact portsK_rises _ _ _) hyl (fun g hg=>by have:=(HF1.out g (hvf g hg)).2;have:=hW.size;omega))
    have HFW1:Hid (∀g,F1 g→w.heap.size≤g):=Lib.hid (fun g hg=>(HF1.out g hg).1)
    clear hlk hys hlo hown hvf hvo hbl hwl hyl HK2 HN2 HN1 HB1 HKW HFW HBw HKT HF1
    generalize wr.heap.size=g7 at *
    refine wp_region_held_drew (S:=fun _=>True) (by kernel_rfl) trivial (fun _=>?_)
    refine wpAnyH_each (md:=.any) (m:=1) (rem:=[0,1,2,3,4,5,6,7,8,9]) (tail:=[10]) (deps:=fun i=>match i with | 2=>[1] | 5=>[4] | 6=>[3,5] | 8=>[7] | 9=>[6,8] | _=>[]) (Tw 9 vr.ownBlock W1) (Kw 9 vr.ownBlock)
     (fun ix ds v W=>match ix with | 0=>v=.map (some b) | 1=>v=.pointer (some ⟨g7,1,none⟩) | 2=>v=.agg #[.int .u32 sA,.int .u32 gA] | 3=>v=.map (some b) | 4=>v=.pointer (some ⟨g7,1,none⟩) | 5=>v=.agg #[.int .u32 sA,.int .u32 gA] | 6=>v=vr | 7=>v=.pointer (some ⟨g7,0,none⟩) | 8=>v=.int .i64 qA | 9=>∃v',v=v'∧W.ownsRow 0 3 1 v' (withI ys qA).length (I64 (withI ys qA))∧∀g,v'.ownBlock=some g→vr.ownBlock=some g∨W1.heap.size≤g | _=>True) (eachB_spec (by kernel_rfl)) (fun _ _ _ _ _ _ _ h k=>h.step k) (fun _ _ _=>trivial) ?_ (fun _ _ _ _=>True) (fun _ _ _ _ _ _ _ _ _ _ _ _ _ _=>⟨trivial,trivial⟩) ?_ ?_ ⟨fun _=>(Below.refl _ _).drew,grown_drw0 _ _⟩
    ·intro i hi j _ hij hjd ds v u l W W' _ _ hk h
     simp only[List.mem_cons,List.not_mem_nil,or_false]at hi
     rcases hi with rfl|rfl|rfl|rfl|rfl|rfl|rfl|rfl|rfl|rfl
     ·exact h
     ·exact h
     ·exact h
     ·exact h
     ·exact h
     ·exact h
     ·exact h
     ·exact h
     ·exact h
     ·obtain⟨v',e,h1,h2⟩:=h;exact⟨v',e,own_next h1 (hk.ne (Ne.symm hij)),h2⟩
    ·refine AllO.cons [] rfl rfl (fun vs l W hl hT hd=>?_) ?_
     ·dsimp only[lay,List.foldl,List.map,dstOf]
      go_wp2
      exact⟨rfl,_,rfl,Kw.mk (by decide) (Below.refl _ _),rfl⟩
     refine AllO.cons [] rfl rfl (fun vs l W hl hT hd=>?_) ?_
     ·dsimp only[lay,List.foldl,List.map,dstOf]
      go_wp2
      exact⟨rfl,_,rfl,Kw.mk (by decide) (Below.refl _ _),rfl⟩
     refine AllO.cons [1] rfl rfl (fun vs l W hl hT hd=>?_) ?_
     ·have e1:vs 1=.pointer (some ⟨g7,1,none⟩):=hd 1 (by simp)
      have f0:=(HVB.out l W hT).cell 1
      have f1:=(HVB.out l W hT).cell 2
      dsimp only[lay,List.foldl,List.map,dstOf]
      rw[e1]
      go_wp2
      exact⟨rfl,_,rfl,Kw.mk (by decide) (Below.refl _ _),rfl⟩
     refine AllO.cons [] rfl rfl (fun vs l W hl hT hd=>?_) ?_
     ·dsimp only[lay,List.foldl,List.map,dstOf]
      go_wp2
      exact⟨rfl,_,rfl,Kw.mk (by decide) (Below.refl _ _),rfl⟩
     refine AllO.cons [] rfl rfl (fun vs l W hl hT hd=>?_) ?_
     ·dsimp only[lay,List.foldl,List.map,dstOf]
      go_wp2
      exact⟨rfl,_,rfl,Kw.mk (by decide) (Below.refl _ _),rfl⟩
     refine AllO.cons [4] rfl rfl (fun vs l W hl hT hd=>?_) ?_
     ·have e4:vs 4=.pointer (some ⟨g7,1,none⟩):=hd 4 (by simp)
      have f0:=(HVB.out l W hT).cell 1
      have f1:=(HVB.out l W hT).cell 2
      dsimp only[lay,List.foldl,List.map,dstOf]
      rw[e4]
      go_wp2
      exact⟨rfl,_,rfl,Kw.mk (by decide) (Below.refl _ _),rfl⟩
     refine AllO.cons [3,5] rfl rfl (fun vs l W hl hT hd=>?_) ?_
     ·have e3:vs 3=.map (some b):=hd 3 (by simp)
      have e5:vs 5=.agg #[.int .u32 sA,.int .u32 gA]:=hd 5 (by simp)
      have f0:=HLO.out l W hT
      dsimp only[lay,List.foldl,List.map,dstOf]
      rw[e3,e5]
      go_wp2
      exact⟨rfl,_,rfl,Kw.mk (by decide) (Below.refl _ _),rfl⟩
     refine AllO.cons [] rfl rfl (fun vs l W hl hT hd=>?_) ?_
     ·dsimp only[lay,List.foldl,List.map,dstOf]
      go_wp2
      exact⟨rfl,_,rfl,Kw.mk (by decide) (Below.refl _ _),rfl⟩
     refine AllO.cons [7] rfl rfl (fun vs l W hl hT hd=>?_) ?_
     ·have e7:vs 7=.pointer (some ⟨g7,0,none⟩):=hd 7 (by simp)
      have f0:=(HVB.out l W hT).cell 0
      dsimp only[lay,List.foldl,List.map,dstOf]
      rw[e7]
      go_wp2
      exact⟨rfl,_,rfl,Kw.mk (by decide) (Below.refl _ _),rfl⟩
     refine AllO.cons [6,8] rfl rfl (fun vs l W hl hT hd=>?_) AllO.nil
     ·have e6:vs 6=vr:=hd 6 (by simp)
      have e8:vs 8=.int .i64 qA:=hd 8 (by simp)
      have hC:=Lib.hid (HWI.out W (hT.1 hl))
      have HTw:=Lib.hid hT
      dsimp only[lay,List.foldl,List.map,dstOf]
      rw[e6,e8]
      go_wp2_with (go_at_call 121;refine hC.out.mono ?_;rintro e w1 ⟨v',rfl,hi⟩)
      exact⟨rfl,_,rfl,Kw.mks hi.grown,_,rfl,hi.own,fun g hg=>(hi.loc g hg).imp id (fun h=>Nat.le_trans HTw.out.2.size h)⟩
    ·intro vs l W hall hT hF _ aE LE ha hL
     have e0:vs 0=.map (some b):=hF 0 (by simp)
     have e1:vs 1=.pointer (some ⟨g7,1,none⟩):=hF 1 (by simp)
     have e2:vs 2=.agg #[.int .u32 sA,.int .u32 gA]:=hF 2 (by simp)
     have e3:vs 3=.map (some b):=hF 3 (by simp)
     have e4:vs 4=.pointer (some ⟨g7,1,none⟩):=hF 4 (by simp)
     have e5:vs 5=.agg #[.int .u32 sA,.int .u32 gA]:=hF 5 (by simp)
     have e6:vs 6=vr:=hF 6 (by simp)
     have e7:vs 7=.pointer (some ⟨g7,0,none⟩):=hF 7 (by simp)
     have e8:vs 8=.int .i64 qA:=hF 8 (by simp)
     obtain⟨v9,e9,ho9,hl9⟩:=hF 9 (by simp)
     have hL':LE=#[true,true,true,true,true,true,true,true,true,true,false]:=hL.trans (by kernel_rfl)
     dsimp only[lay,List.foldl,dstOf]at ha
     rw[e0,e1,e2,e3,e4,e5,e6,e7,e8,e9]at ha
     clear e0 e1 e2 e3 e4 e5 e6 e7 e8 e9 hL hF
     subst ha hL'
     obtain⟨W2,L',es',ck',hrun,hgr,hsz,hki,hget,hlen⟩:=HKI.out.put (p:=(sA,gA)) HUP.out HLK.out HVF.out HVO.out hT.2 ho9 hl9 HRM.out
     have hrn:(Instr.mapUpdate 150 (.map (some b)) (.agg #[.int .u32 sA,.int .u32 gA]) v9).run Tryz.prog W=.ok () W2:=hrun
     have HGR:=Lib.hid (hT.2)
     have HGR2:=Lib.hid hgr
     have HKI2:=Lib.hid hki
     have HGET:=Lib.hid hget
     have HLEN:=Lib.hid hlen
     clear hrun hgr hsz hki hget hlen ho9 hl9 hT hall
     refine wpAnyH_ready (rs:=[10]) (by kernel_rfl) (by simp) ?_
     refine AllReadyH.cons rfl (fun K hK=>?_) AllReadyH.nil
     go_simp
     refine hK.out _ _ trivial (fun _=>?_)
     clear hK
     clear K
     refine wpAnyH_done (by kernel_rfl) ?_ _
     clear hrn
     go_wp2_with fail
     go_roundw
     case rel=>exact⟨k+1,_,L',es',ck',hlt,by go_num,HKI2,Lib.hid (fun g hg=>hg.elim (HFW1.out g) (fun h=>Nat.le_trans (HBW1.out.size) h)),Lib.hid (by rw[HTK.out];exact HPT.out.step (x:=(qA,sA,gA)) HCT.out HLEN.out (fun q=>by rw[HGET.out q,HYS.out])),Lib.hid (HBW1.out.trans ((below_grown HGR.out HRF.out HBW1.out.size).trans (below_grown HGR2.out (fun g e=>by cases e;exact HBF.out) (Nat.le_trans HBW1.out.size HGR.out.size))))⟩
     case measure=>simp[intOf];omega
  ·obtain rfl:k=n:=by omega
   have hd:decide ((k:Int)<(k:Int))=false:=by simp
   go_wp2
   go_ret
   exact⟨b,F,L,es,clock,rfl,HKW.out,HFW.out,by have:=HPT.out;rwa [List.take_of_length_le (by have:=HNL.out;omega)]at this,HBw.out⟩
end Go.Proofs.YtfidicbknjoafaaGreatDoor
namespace Go.Proofs.YtfidicbknjoafaaGreatDoor
open Go.RowKit Lx Sm Go.Maps
theorem ret_any (tm:Array Value) (N:Nat) (W:World) (v0 v1:Value) (h2:tm.getD 2 undef=.pointer (some ⟨N,0,none⟩)) (c0:W.cell? ⟨N,0,none⟩=some v0) (c1:W.cell? ⟨N,1,none⟩=some v1) :
  (results Tryz.f77 tm).run Tryz.prog W=.ok (.agg #[v0,v1]) W:=by
 have h2':tm[2]?.getD undef=.pointer (some ⟨N,0,none⟩):=by simpa using h2
 simp[results,Tryz.results77,go_sem,h2',c0,c1]
set_option maxRecDepth 100000 in
set_option maxHeartbeats 2000000 in
theorem anyS_any (s g:Int) (w:World):Calls Tryz.prog 77 #[.agg #[.int .u32 s,.int .u32 g]] w fun e w'=>e=.returned (.agg #[.int .u32 0,.int .u32 g])∧Below w.heap.size w w':=by
 have HB0:=Lib.hid (((Below.refl w.heap.size w).alloc (Nat.le_refl _) (.cells #[.int .u32 s,.int .u32 g] 57)).alloc (by simp) (.cells #[.int .u32 0,.int .u32 0] 57))
 have HK:Hid (Blk ((w.alloc (.cells #[.int .u32 s,.int .u32 g] 57)).alloc (.cells #[.int .u32 0,.int .u32 0] 57)) w.heap.size 57 #[.int .u32 s,.int .u32 g]):=Lib.hid ((Blk.new _ _ _).alloc _)
 have HS:Hid (Blk ((w.alloc (.cells #[.int .u32 s,.int .u32 g] 57)).alloc (.cells #[.int .u32 0,.int .u32 0] 57)) (w.heap.size+1) 57 #[.int .u32 0,.int .u32 0]):=Lib.hid (by simpa using Blk.new (w.alloc (.cells #[.int .u32 s,.int .u32 g] 57)) 57 #[.int .u32 0,.int .u32 0])
 go_enter Tryz.func77,Tryz.ntmps77
 go_upto_region 1 with fail
 generalize (w.alloc (.cells #[.int .u32 s,.int .u32 g] 57)).alloc (.cells #[.int .u32 0,.int .u32 0] 57)=W1 at *
 have z1:W1.cell? ⟨w.heap.size,1,none⟩=some (.int .u32 g):=HK.out.cell 1
 obtain⟨W9,hW9,h0,h1,hb9⟩:=store2 HS.out (Nat.le_succ _) w HB0.out (.int .u32 0) (.int .u32 g)
 have HW9:=Lib.hid hW9
 have m0:=HS.out.cell 0;have m1:=HS.out.cell 1
 have f0:=HS.out.frozen 0;have f1:=HS.out.frozen 1
 have HH:=Lib.hid (And.intro h0 (And.intro h1 hb9))
 clear hW9 h0 h1 hb9
 go_wp2
 rw[←HW9.out]
 refine bodyPost_ret (ret_any _ (w.heap.size+1) _ _ _ rfl HH.out.1 HH.out.2.1) rfl ?_
 exact⟨rfl,HH.out.2.2⟩
section
variable {b:Nat} {T:TP} {x x':Cfg} {gs:List Int}
set_option maxRecDepth 100000 in
set_option maxHeartbeats 2000000 in
theorem tow_al (r:Int) (p:Int × Int) (hp:UK p) (w wc:World) (M:Cm) (h:TW w b T x' gs) (k:Alike x x') (hc:CW wc M x) (ok:LtOK x) :
  Calls Tryz.prog 75 #[.pointer (some ⟨T.N,0,none⟩),.int .i64 r,.agg #[.int .u32 p.1,.int .u32 p.2]] w fun e w'=>e=.returned (.tuple #[.int .i64 (inUp x r p).1,.int .i64 (inUp x r p).2])∧Below w.heap.size w w':=by
 have HB0:=Lib.hid ((Below.refl w.heap.size w).alloc (Nat.le_refl _) (.cells #[.int .u32 p.1,.int .u32 p.2] 57))
 have HK0:=Lib.hid (Blk.new w 57 #[.int .u32 p.1,.int .u32 p.2])
 have HRK:=Lib.hid (rkey_al r p hp (w.alloc (.cells #[.int .u32 p.1,.int .u32 p.2] 57)) wc M (h.next HB0.out) k hc ok)
 have HIU:Hid (inUp x r p=if (keyA x r p).2=true then ((keyA x r p).1.1,(keyA x r p).1.2.1) else (-1,-1)):=Lib.hid rfl
 clear h k hc ok hp
 generalize keyA x r p=KA at *
 obtain⟨⟨i1,u1,n1,o1⟩,kk⟩:=KA
 obtain⟨s,g⟩:=p
 dsimp only at HRK HIU HB0 HK0 ⊢
 generalize inUp x r (s,g)=IU at *
 go_enter Tryz.func75,Tryz.ntmps75
 go_upto_region 1 with fail
 generalize w.alloc (.cells #[.int .u32 s,.int .u32 g] 57)=W0 at *
 have t0:W0.cell? ⟨w.heap.size,0,none⟩=some (.int .u32 s):=HK0.out.cell 0
 have t1:W0.cell? ⟨w.heap.size,1,none⟩=some (.int .u32 g):=HK0.out.cell 1
 go_upto_region 2 with (go_at_call 26;refine HRK.out.mono ?_;rintro e w1 ⟨rfl,hb1⟩;have HB1:=Lib.hid (HB0.out.trans (hb1.mono HB0.out.size));clear hb1)
 clear t0 t1 HRK HK0
 have HB2:=Lib.hid (HB1.out.alloc HB1.out.size (.cells #[.int .i64 i1,.int .i64 u1,.int .i64 n1,.bool o1] 59))
 have HK2:=Lib.hid (Blk.new w1 59 #[.int .i64 i1,.int .i64 u1,.int .i64 n1,.bool o1])
 generalize w1.alloc (.cells #[.int .i64 i1,.int .i64 u1,.int .i64 n1,.bool o1] 59)=W2 at *
 cases kk with
 | false =>
  rw[if_neg (by decide)]at HIU
  go_wp2
  go_ret2
  rw[HIU.out]
  exact⟨rfl,HB2.out⟩
 | true =>
  rw[if_pos rfl]at HIU
  go_upto_region 4 with fail
  have hl:w1.heap.size<W2.heap.size:=(Array.getElem?_eq_some_iff.1 HK2.out).1
  have s0:∀s:Snc W2,s.W.cell? ⟨w1.heap.size,0,none⟩=some (.int .i64 i1):=fun s=>(HK2.out.next s.b).cell 0
  have s1:∀s:Snc W2,s.W.cell? ⟨w1.heap.size,1,none⟩=some (.int .i64 u1):=fun s=>(HK2.out.next s.b).cell 1
  clear hl
  refine wp_region_since (by kernel_rfl) (by kernel_rfl) ?_
  repeat (go_big_quiet_step (fail))
  refine wpQuiet_nil ?_
  rintro w8 ⟨P8,rfl⟩
  have HB8:=Lib.hid (HB2.out.trans (P8.b.mono HB2.out.size))
  clear s0 s1
  go_wp2
  go_ret2
  rw[HIU.out]
  exact⟨rfl,HB8.out⟩
end
end Go.Proofs.YtfidicbknjoafaaGreatDoor
namespace Go.Proofs.YtfidicbknjoafaaGreatDoor
open Go.RowKit Go.Maps Go.Sort Go.Shelf
set_option maxRecDepth 100000 in
set_option maxHeartbeats 1000000 in
theorem keys1_inR (F:Fence) (n:Nat) (h10:F.fn 193) (hro:F.round=none) (hn:1≤n) (l Bm b nn:Nat) (D0:DataW Unit) (J Jx:List (Int × Int)→World→Prop)
  (hY:∀pre x W,J pre W→pre.length<Maps.size D0→YieldAt F (n - 1) Tryz.prog l #[kv x] W fun e W'=>(e=.returned (.bool true)∧J (pre++[x]) W'∧KeepsWalks W W')∨(e=.returned (.bool false)∧Jx (pre++[x]) W'))
  (W:World) (hJ:AbidesFrom W.heap.size J) (hm:W.cell? ⟨Bm,0,none⟩=some (.map (some b))) (hown:W.ownsMap Tryz.prog 57 R0 b nn D0) (h0:J [] W) :
  CallsIn F n Tryz.prog 193 #[.func (.yield l) #[] #[],.pointer (some ⟨Bm,0,none⟩)] W fun e W'=>(∃v,e=.returned v)∧((∃ss:List (Int × Int),AllMetK D0 ss∧J ss W')∨(∃pre:List (Int × Int),True∧Jx pre W')):=by
 refine callsIn_of_wp Tryz.func193 rfl h10 ?_ hro
 simp only[Tryz.ntmps193,List.size_toArray,List.length_cons,List.length_nil,Nat.reduceAdd,Nat.reduceSub,Array.replicate_succ,Array.replicate_zero,List.push_toArray,List.append_toArray,List.nil_append,List.cons_append]
 gi_wp2_with (first
  | (gi_at_range;refine wpListIn_range_own _ rfl _ 150 rfl 57 52 keyedPK Tryz.underlying150 _ b nn _ rfl hown ?_;intro w0 hrg0 hg0 hs0)
  | gi_in)
 go_frame
 gi_loopw [3] (fun _ wr=>∃ (left:Lit→Bool) (cnt:Nat) (ss:List (Int × Int)),wr.ranges Tryz.prog 57 R0 b W.heap.size nn D0 left cnt∧ss.length+cnt≤Maps.size D0∧Met Tryz.prog 57 kv D0 left ss∧J ss wr)
  (fun _ wr=>wr.rangeLeft b W.heap.size)
 case atStart =>
  exact⟨_,_,[],hrg0,by simp,Met.start,hJ [] W w0 none h0 hg0 (fun r e=>by cases e)⟩
 case round =>
  obtain⟨left,cnt,ss,hrg,hcs,hC,hJs⟩:=hrel
  gi_wp2_with (first
   | (gi_at_next;refine wpListIn_next_ranges _ rfl _ rfl 57 keyedPK R0 kv id (fun key kl hk=>(key_kv hk).imp fun _ h=>h.1) (fun v _ _=>⟨v,rfl⟩) b W.heap.size nn _ _ _ rfl hrg ?_ ?_)
   | gi_in)
  ·intro hc0 hl0
   gi_wp2
   go_end0
   exact⟨⟨_,rfl⟩,.inl ⟨ss,⟨_,hC,hl0⟩,hJs⟩⟩
  ·intro x1 x2 c kl yd yp w2 cnt2 hkey hlk hv hat hrg2 hlt hg2 hs2 hen
   have hJ2:J ss w2:=hJ ss wr w2 (some W.heap.size) hJs hg2 (fun r e=>by cases e;exact⟨Nat.le_refl _,hrg.iter_walk⟩)
   have hJ3:J ss (w2.alloc (.cells #[.int .u32 x1,.int .u32 x2] 57)):=hJ ss w2 _ none hJ2 (World.grownBy_alloc _ _ _) (fun r e=>by cases e)
   have hrg3:=hrg2.of_walks (KeepsWalks.alloc w2 (.cells #[.int .u32 x1,.int .u32 x2] 57))
   have hC3:=hC.step keyedPK kv_inj' hkey hlk hat
   obtain⟨fn,tmps,assign,body,hy,hR⟩:=hY ss (x1,x2) _ hJ3 (by omega)
   have hyy:(Instr.yield l #[.agg #[.int .u32 x1,.int .u32 x2]]).run Tryz.prog (w2.alloc (.cells #[.int .u32 x1,.int .u32 x2] 57))=_:=hy
   clear hs2 hy
   unfold kv at hen
   gi_wp2
   refine hR.mono ?_
   rintro e W3 (⟨rfl,hJ4,hk3⟩|⟨rfl,hJx3⟩)
   ·gi_wp2
    have hrg4:=hrg3.of_walks hk3
    go_roundw
    case rel=>exact⟨_,cnt2,ss++[(x1,x2)],hrg4,by simp;omega,hC3,hJ4⟩
    case measure=>rw[hrg4.left_eq,hrg.left_eq];exact hlt
   ·gi_wp2
    refine bodyPost_ret (results_none rfl _ _ _) rfl ?_
    exact⟨⟨_,rfl⟩,.inr ⟨_,trivial,hJx3⟩⟩
set_option maxHeartbeats 1000000 in
theorem keys_inR (F:Fence) (n:Nat) (h7:F.fn 123) (hro:F.round=none) (mb:Option Nat) (w:World) :
  CallsIn F n Tryz.prog 123 #[.map mb] w fun e w'=>e=.returned (.func (.func 193) #[] #[.pointer (some ⟨w.heap.size,0,none⟩)])∧w'=w.alloc (.cells #[.map mb] 150):=by
 refine callsIn_of_wp Tryz.func123 rfl h7 ?_ hro
 simp only[Tryz.ntmps123,List.size_toArray,List.length_cons,List.length_nil,Nat.reduceAdd,Nat.reduceSub,Array.replicate_succ,Array.replicate_zero,List.push_toArray,List.append_toArray,List.nil_append,List.cons_append]
 gi_wp2
 go_ret
 exact⟨rfl,rfl⟩
theorem keys_stopsR (F:Fence) (n:Nat) (h10:F.fn 193) (hro:F.round=none) (hn:1≤n) (Bm b nn:Nat) (D0:DataW Unit) (w:World) (hBm:Bm<w.heap.size)
  (hm:w.cell? ⟨Bm,0,none⟩=some (.map (some b))) (hown:w.ownsMap Tryz.prog 57 R0 b nn D0) :
  SeqStopsK F n Tryz.prog 193 #[.pointer (some ⟨Bm,0,none⟩)] (fun x:(Int × Int)=>#[kv x]) KeepsWalks (AllMetK D0) (fun _=>True) (Maps.size D0) w:=fun l J Jx W hW hJ _ hY h0=>by
 have hown':W.ownsMap Tryz.prog 57 R0 b nn D0:=by
  have hbl:=hown.lt
  obtain⟨es,clock,hb,Ft,hs,hD⟩:=hown
  exact⟨es,clock,(hW.block b hbl).trans hb,Ft,hs,hD⟩
 exact keys1_inR F n h10 hro hn l Bm b nn D0 J Jx hY W hJ ((hW.cell (p:=⟨Bm,0,none⟩) hBm).trans hm) hown' h0
theorem eKeysR:∀args w,(callFunc 193 args).run Tryz.prog w=.ok (.enter 193 args) w:=enters_of Tryz.func193 (by kernel_rfl) rfl
theorem KI.keys {w:World} {F:Nat→Prop} {b:Nat} {L:Tr.Row} {es:Array MapEntry} {clock:Nat} (h:KI w F b L es clock):es.toList.map (·.key)=(L.map (·.1)).map kv:=by
 apply List.ext_getElem?
 intro j
 rw[List.map_map,List.getElem?_map,List.getElem?_map]
 cases hl:L[j]? with
 | none =>
  have:es.toList[j]?=none:=by
   rw[List.getElem?_eq_none_iff]at hl ⊢
   rw[←h.size]at hl
   simpa using hl
  rw[this];rfl
 | some x =>
  obtain⟨e,he⟩:=h.back hl
  rw[he]
  simp[(h.each j e x he hl).1]
theorem keysR_any (b:Nat) (w:World):Calls Tryz.prog 123 #[.map (some b)] w fun e w'=>e=.returned (.func (.func 193) #[] #[.pointer (some ⟨w.heap.size,0,none⟩)])∧w'=w.alloc (.cells #[.map (some b)] 150) :=
 callsIn_wide.1 (keys_inR Fence.wide 1 trivial rfl (some b) w)
theorem collR_any (w:World) (F:Nat→Prop) (b:Nat) (L:Tr.Row) (es:Array MapEntry) (clock:Nat) (h:KI w F b L es clock) (hL:L.length≤1000000) :
  Calls Tryz.prog 122 #[.func (.func 193) #[] #[.pointer (some ⟨w.heap.size,0,none⟩)]] (w.alloc (.cells #[.map (some b)] 150)) fun e w' =>
   ∃ (v:Value) (ss:List (Int × Int)),e=.returned v∧ss.Perm (L.map (·.1))∧w'.ownsRow (w.alloc (.cells #[.map (some b)] 150)).heap.size 57 2 v ss.length (PFK ss)∧Below (w.alloc (.cells #[.map (some b)] 150)).heap.size (w.alloc (.cells #[.map (some b)] 150)) w':=by
 have hm:(w.alloc (.cells #[.map (some b)] 150)).cell? ⟨w.heap.size,0,none⟩=some (.map (some b)):=(Blk.new w 150 #[.map (some b)]).cell 0
 have hB:=(Below.refl w.heap.size w).alloc (Nat.le_refl _) (.cells #[.map (some b)] 150)
 have hbl:b<w.heap.size:=(Array.getElem?_eq_some_iff.1 h.block).1
 have hown:(w.alloc (.cells #[.map (some b)] 150)).ownsMap Tryz.prog 57 R0 b es.size (.map ((es.toList.map (WideElems.rg Tryz.prog 57 R0)).foldr DataW.insert [])) :=
  ⟨es,clock,(hB.block b hbl).trans h.block,h.fit,Nat.le_refl _,rfl⟩
 have hsz:Maps.size (.map ((es.toList.map (WideElems.rg Tryz.prog 57 R0)).foldr DataW.insert []):DataW Unit)=L.length:=by
  rw[size_eq,(WideShapes.sorted_perm _).length_eq]
  simpa using h.size
 have hall:∀ss,AllMetK (.map ((es.toList.map (WideElems.rg Tryz.prog 57 R0)).foldr DataW.insert [])) ss→ss.Perm (L.map (·.1)):=fun ss ⟨left,hM,hl⟩ =>
  hM.all keyedPK kv_inj' h.fit rfl hl h.keys
 have hlt:w.heap.size<(w.alloc (.cells #[.map (some b)] 150)).heap.size:=by show _<(w.heap.push _).size;rw[Array.size_push];omega
 refine (callsIn_wide.1 (collect_inK Fence.wide 3 trivial trivial rfl (by omega) _ _ trivial eKeysR _ _ _ (by rw[hsz];exact hL) _ _ (Below.refl _ _) (keys_stopsR Fence.wide 1 trivial rfl (by omega) w.heap.size b es.size _ _ hlt hm hown))).mono ?_
 rintro e w' ⟨v,ss,rfl,hS,hrow,hb⟩
 exact⟨v,ss,rfl,hall ss hS,hrow,hb⟩
end Go.Proofs.YtfidicbknjoafaaGreatDoor
