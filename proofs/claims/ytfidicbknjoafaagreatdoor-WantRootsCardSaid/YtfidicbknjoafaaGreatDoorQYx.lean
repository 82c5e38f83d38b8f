/- The chapter's examples of want; want. -/
import Derived.Test.YtfidicbknjoafaaGreatDoorQYm
import Derived.Test.YtfidicbknjoafaaGreatDoorQYj
import Derived.Test.YtfidicbknjoafaaGreatDoorQShelf
import Derived.Test.YtfidicbknjoafaaGreatDoorQCg
import Derived.Test.YtfidicbknjoafaaGreatDoorQCp
import Derived.Test.YtfidicbknjoafaaGreatDoorQOn
import Derived.Test.YtfidicbknjoafaaGreatDoorQCf
import Derived.OwnWalk
import Derived.Deep.Cut
import Derived.Deep.RegionHeld3
import Derived.Laws.Append
import Derived.Maps.AppendAt
import Derived.Test.YtfidicbknjoafaaGreatDoorQTn
import Derived.Test.YtfidicbknjoafaaGreatDoorQShw
import Derived.OpenShut
import Derived.ShapedOpen
namespace Go.Proofs.YtfidicbknjoafaaGreatDoor
open Go.ChangeShapes Go.WideShapes Go.ChangeAt Go.RowKit Lx Sm Go.Maps
structure PMr where
 p:PRow
 A:Option Addr
 c:Nat
def CRw:PMr→List Value:=fun m=>[.int .i64 m.p.r,.int .i64 m.p.i,.int .i64 m.p.u,.int .u32 m.p.k.1,.int .u32 m.p.k.2,.slice m.A m.p.xs.length m.c]
theorem elemRw:Elem Tryz.prog 75 83 CRw 6 56:=⟨Tryz.underlying75,(by obtain⟨i,hi,hz,hs,hb⟩:=info_parts (show (Tryz.prog.info? 83).map (fun i=>(i.zero,i.size,i.bytes))=some (some (.agg #[.int .i64 0,.int .i64 0,.int .i64 0,.int .u32 0,.int .u32 0,.slice none 0 0]),6,56) by kernel_rfl);exact⟨i,_,hi,hz,hs,hb,rfl⟩),fun _=>rfl,fun x u hu=>by simp[CRw]at hu;rcases hu with rfl|rfl|rfl|rfl|rfl|rfl <;> rfl,by omega,by omega⟩
theorem JR.grown {w w':World} {A:Option Addr} {n:Nat} {xs:List Int} {ob:Option Nat} (h:JR w A n xs) (hg:w.grownBy w' ob) (ne:0<n→∀a,A=some a→some a.block ≠ ob):JR w' A n xs :=
 ⟨h.1,fun hn=>by
  obtain⟨b,o,e,hlt,hc⟩:=h.2 hn
  refine⟨b,o,e,Nat.lt_of_lt_of_le hlt hg.size,fun i hi=>?_⟩
  have:=hc i hi
  have hb:=hg.block b hlt (ne hn _ e)
  unfold World.cell? at *
  simp only[hb]
  exact this⟩
theorem out2_any (q:Int) (g:Nat) (A B:Option Addr) (c d:Nat) (l m:List Int) (w:World) (hk:Blk w g 52 #[.slice A l.length c,.slice B m.length d]) (h1:JR w A l.length l) (h2:JR w B m.length m) (h0:0<(l++m).length) (hl:l.length≤1000) (hm:m.length≤1000) :
  Calls Tryz.prog 76 #[.int .i64 q,.slice (some ⟨g,0,none⟩) 2 2] w fun e w'=>∃A' c',e=.returned (.slice A' (outP q l m).length c')∧JR w' A' (outP q l m).length (outP q l m)∧Below w.heap.size w w'∧∀a,A'=some a→w.heap.size≤a.block:=by
 have hf:flatI [⟨A,l.length,c,l⟩,⟨B,m.length,d,m⟩]=l++m:=by simp[flatI]
 have h:=outBut_any q (some ⟨g,0,none⟩) 2 2 [⟨A,l.length,c,l⟩,⟨B,m.length,d,m⟩] w
  ⟨⟨rfl,fun _=>⟨g,0,rfl,hk.lt,fun i x hx j v hv=>by
   match i with
   | 0 =>
    simp at hx;subst hx
    match j with
    | 0=>simp[CSi]at hv;subst hv;exact hk.cell 0
    | j+1=>simp[CSi]at hv
   | 1 =>
    simp at hx;subst hx
    match j with
    | 0=>simp[CSi]at hv;subst hv;exact hk.cell 1
    | j+1=>simp[CSi]at hv
   | i+2=>simp at hx⟩⟩,fun y hy=>by
    rcases List.mem_cons.1 hy with rfl|hy
    ·exact h1
    ·rcases List.mem_cons.1 hy with rfl|hy
     ·exact h2
     ·cases hy⟩ (by omega) (by rw[hf];exact h0) (by rw[hf,List.length_append];omega)
 rw[hf,butI_out]at h
 exact h
theorem rowKeys_some {x:Cfg} {r:Int} {own:List Int} {hs:List (Int × Int × Int)} {k:Int × Int} (h:k∈rowKeys x r own hs):0<(portsK own k hs++portsK own (0,k.2) hs).length:=by
 unfold rowKeys at h
 rw[keysS_mem,List.mem_append]at h
 rw[List.length_append]
 rcases h with h|h
 ·have:=(heardK_mem).1 h
  have:0<(portsK own k hs).length:=List.length_pos_iff.2 this
  omega
 ·unfold askK at h
  have:=(List.mem_filter.1 h).2
  simp only[Bool.and_eq_true,decide_eq_true_eq]at this
  omega
section
variable {b:Nat} {T:TP} {x x':Cfg} {gs:List Int}
theorem rowKeys_u {w:World} (h:TW w b T x' gs) (k:Alike x x') {r:Int} {own:List Int} {hs:List (Int × Int × Int)} (hu:∀y∈hs,UK y.2) {q:Int × Int} (hq:q∈rowKeys x r own hs):UK q:=by
 unfold rowKeys at hq
 rw[keysS_mem,List.mem_append]at hq
 rcases hq with hq|hq
 ·unfold heardK at hq
  obtain⟨y,hy,rfl⟩:=List.mem_map.1 hq
  exact hu y (List.mem_filter.1 hy).1
 ·unfold askK at hq
  have:=(keysS_mem _ _).1 (List.mem_filter.1 hq).1
  exact sentP_u h q (by rw[show sentP x'=sentP x by unfold sentP;rw[k.s]];exact this)
set_option maxRecDepth 100000 in
set_option maxHeartbeats 8000000 in
theorem rows_al (r:Int) (A:Option Addr) (n c:Nat) (hs:List (Int × Int × Int)) (w wc:World) (M:Cm) (h:TW w b T x' gs) (k:Alike x x') (hc:CW wc M x) (ok:LtOK x) (ok':LtOK x') (hr:RI CHd 3 w A n hs) (hu:∀y∈hs,UK y.2) (hn:n≤100) :
  Calls Tryz.prog 31 #[.pointer (some ⟨T.N,0,none⟩),.int .i64 r,.slice A n c] w fun e w'=>∃ (v:Value) (ms:List PMr),e=.returned v∧w'.ownsRow w.heap.size 83 6 v ms.length (ms.flatMap CRw)∧ms.map PMr.p=rowsP x r (rowF x r) hs∧(∀m∈ms,JR w' m.A m.p.xs.length m.p.xs)∧Below w.heap.size w w':=by
 have HOF:=Lib.hid (of_al r w h k)
 have HTW:=Lib.hid h
 have HWP:=Lib.hid (fun W (hW:Below w.heap.size w W) B m d own (ho:JR W B m own) (hm:m≤1000)=>wports_any A n c hs B m d own W (hr.next hW) hu (by omega) ho hm)
 have HJN:=Lib.hid (fun W (hW:Below w.heap.size w W) own bm F L es clock (hki:KI W F bm L es clock) (hpt:PT own hs L)=>join_al r own hs bm F L es clock W wc M hki hpt (by have:=hr.len;omega) (h.next hW) k hc ok ok')
 have HTO:=Lib.hid (fun W (hW:Below w.heap.size w W) p (hp:UK p)=>tow_al r p hp W wc M (h.next hW) k hc ok)
 have HUQ:=Lib.hid (fun own q (hq:q∈rowKeys x r own hs)=>rowKeys_u h k hu hq)
 have HOL:Hid ((rowF x r).length≤1000):=Lib.hid (by
  rw[rowF_all ok.po r]
  have:=picks_len (fun y:Int × Int × Int=>y.1==r) x.ps x.ps.length
  have:=ok.pl
  omega)
 have HHL:Hid (hs.length≤100):=Lib.hid (by have:=hr.len;omega)
 have HRP:Hid (rowsP x r (rowF x r) hs=(rowKeys x r (rowF x r) hs).map (rowK x r (rowF x r) hs)):=Lib.hid rfl
 have HKL:Hid ((rowKeys x r (rowF x r) hs).length≤1000):=Lib.hid (by
  unfold rowKeys
  have h1:=keysS_len (heardK (rowF x r) hs++askK x r (rowF x r) hs)
  rw[List.length_append]at h1
  have h2:(heardK (rowF x r) hs).length≤hs.length:=by unfold heardK;rw[List.length_map];exact List.length_filter_le _ _
  have h3:(askK x r (rowF x r) hs).length≤5:=by
   unfold askK
   refine Nat.le_trans (List.length_filter_le _ _) ?_
   have:=keysS_len (sentP x)
   rw[sentP_len]at this
   have:=ok.sl
   omega
  have:=hr.len
  omega)
 clear HTW
 have HH0:=Lib.hid (And.intro hr hu)
 generalize rowF x r=own at *
 have HSM:Hid (∀q,q∈rowKeys x r own hs→0<(portsK own q hs++portsK own (0,q.2) hs).length):=Lib.hid (fun q hq=>rowKeys_some hq)
 have HUQ2:=Lib.hid (fun q (hq:q∈rowKeys x r own hs)=>HUQ.out own q hq)
 clear HUQ
 go_enter Tryz.func31,Tryz.ntmps31
 go_upto_region 2 with (first
  | (go_at_call 47;refine HOF.out.mono ?_;rintro e w1 ⟨Ao,co,rfl,hjo,hb1⟩;have HB1:=Lib.hid hb1;have HW1:=Lib.hid (HWP.out w1 hb1 Ao own.length co own hjo HOL.out);clear hjo hb1)
  | (go_at_call 73;refine HW1.out.mono ?_;rintro e w2 ⟨bm,F,L,es,clock,rfl,hki,hfr,hpt,hb2⟩;have HB2:=Lib.hid (HB1.out.trans (hb2.mono HB1.out.size));have HKI:=Lib.hid hki;have HPT:=Lib.hid hpt;clear hki hfr hpt hb2))
 clear HOF HWP HW1
 have HJ2:=Lib.hid (HJN.out w2 HB2.out own bm F L es clock HKI.out HPT.out)
 have HBM:Hid (bm<w2.heap.size):=Lib.hid (Array.getElem?_eq_some_iff.1 HKI.out.block).1
 clear HJN
 generalize hRK:rowKeys x r own hs=RK at *
 clear hRK
 go_upto_region 4 with (go_at_call 74;refine HJ2.out.mono ?_;rintro e w3 ⟨A3,c3,rfl,hri3,hb3,hfr⟩;have HI3:=Lib.hid hri3;have HB3:=Lib.hid (HB2.out.trans (hb3.mono HB2.out.size));have HN3:=Lib.hid hb3;clear hri3 hb3 hfr)
 clear HJ2
 go_loopw [8,24] (fun sv iv wr=>∃ (k:Nat) (ms:List PMr),k≤RK.length∧iv=.int .i64 (k:Int)∧ms.length=k∧Hid (ms.map PMr.p=(RK.take k).map (rowK x r own hs))∧Hid (wr.ownsRow w3.heap.size 83 6 sv k (ms.flatMap CRw))∧Hid (∀m∈ms,JR wr m.A m.p.xs.length m.p.xs)∧Hid (∀g,sv.ownBlock=some g→∀m∈ms,0<m.p.xs.length→∀a,m.A=some a→a.block ≠ g)∧Hid (Below w3.heap.size w3 wr)) (fun _ iv _=>RK.length - (intOf iv).toNat)
 case atStart=>exact⟨0,[],Nat.zero_le _,rfl,rfl,Lib.hid rfl,Lib.hid (World.ownsRow_nil _ _ _ _),Lib.hid (fun m hm=>by cases hm),Lib.hid (fun g hg=>by simp[Value.ownBlock]at hg),Lib.hid (Below.refl _ _)⟩
 case round =>
  obtain⟨k,ms,hk,rfl,hml,HMS,HO,HJ,HN,HB⟩:=hrel
  generalize u8=v8 at *
  rcases Nat.lt_or_ge k RK.length with hlt|hge
  ·have hi0:(k:Int)<(RK.length:Int):=by omega
   have hrl:=HKL.out
   obtain⟨b5,o5,⟨s1,g1⟩,e5,hbl,hx,hcl⟩:=(HI3.out.next HB.out).at_ hlt
   have t0:wr.cell? ⟨b5,o5+k*2,none⟩=some (.int .u32 s1):=hcl 0 _ rfl
   have t1:wr.cell? ⟨b5,o5+k*2+1,none⟩=some (.int .u32 g1):=hcl 1 _ rfl
   have hmem:=List.mem_of_getElem? hx
   have HUK:=Lib.hid (HUQ2.out (s1,g1) hmem)
   have HNZ:Hid (0<(portsK own (s1,g1) hs++portsK own (0,g1) hs).length):=Lib.hid (HSM.out (s1,g1) hmem)
   have HTK:Hid (RK.take (k+1)=RK.take k++[(s1,g1)]):=Lib.hid (by rw[List.take_add_one,hx];rfl)
   have HLP:Hid ((portsK own (s1,g1) hs).length≤1000∧(portsK own (0,g1) hs).length≤1000):=Lib.hid (by
    have h1:=portsK_len own (s1,g1) hs
    have h2:=portsK_len own (0,g1) hs
    have:=HHL.out
    omega)
   clear hmem
   have HBw:=Lib.hid (below_next HN3.out HB.out)
   obtain⟨vr,ys,_,hys,hlo,hown,_⟩:=HKI.out.look (p:=(s1,g1)) HUK.out
   rw[HPT.out.val]at hys
   subst hys
   obtain⟨Ar,cr,rfl,hj1⟩:=own_jr hown
   obtain⟨vs,zs,_,hzs,hlo2,hown2,_⟩:=HKI.out.look (p:=(0,g1)) ⟨⟨by omega,by omega⟩,HUK.out.2⟩
   rw[HPT.out.val]at hzs
   subst hzs
   obtain⟨As,cs,rfl,hj2⟩:=own_jr hown2
   have HL1:=Lib.hid (fun W (hW:Below wr.heap.size wr W)=>(show (Instr.lookup 150 (.map (some bm)) (.agg #[.int .u32 s1,.int .u32 g1]) false).run Tryz.prog W=.ok (.slice Ar (portsK own (s1,g1) hs).length cr) W from hlo W ((below_next HBw.out hW).block bm HBM.out)))
   have HL2:=Lib.hid (fun W (hW:Below wr.heap.size wr W)=>(show (Instr.lookup 150 (.map (some bm)) (.agg #[.int .u32 0,.int .u32 g1]) false).run Tryz.prog W=.ok (.slice As (portsK own (0,g1) hs).length cs) W from hlo2 W ((below_next HBw.out hW).block bm HBM.out)))
   have HJ1:=Lib.hid (fun W (hW:Below wr.heap.size wr W)=>hj1.next (below_next HBw.out hW))
   have HJ2:=Lib.hid (fun W (hW:Below wr.heap.size wr W)=>hj2.next (below_next HBw.out hW))
   have HT1:=Lib.hid (fun W (hW:Below wr.heap.size wr W)=>HTO.out W (HB2.out.trans ((below_next HBw.out hW).mono HB2.out.size)) (s1,g1) HUK.out)
   have HNa:=Lib.hid ((Below.refl wr.heap.size wr).alloc (Nat.le_refl _) (.cells #[.int .u32 s1,.int .u32 g1] 57))
   have HKa:=Lib.hid (Blk.new wr 57 #[.int .u32 s1,.int .u32 g1])
   have HRW:Hid (rowK x r own hs (s1,g1)=⟨r,(inUp x r (s1,g1)).1,(inUp x r (s1,g1)).2,(s1,g1),outP (inUp x r (s1,g1)).1 (portsK own (s1,g1) hs) (portsK own (0,g1) hs)⟩):=Lib.hid rfl
   subst e5
   clear hx hcl hlo hlo2 hown hown2 hj1 hj2 hbl
   go_upto_region 6 with fail
   clear t0 t1
   generalize wr.alloc (.cells #[.int .u32 s1,.int .u32 g1] 57)=Wa at *
   generalize hNk:wr.heap.size=Nk at HKa ⊢
   have q0:Wa.cell? ⟨Nk,0,none⟩=some (.int .u32 s1):=HKa.out.cell 0
   have q1:Wa.cell? ⟨Nk,1,none⟩=some (.int .u32 g1):=HKa.out.cell 1
   have HNK:=Lib.hid hNk
   clear hNk
   have HTa:=Lib.hid (HT1.out Wa HNa.out)
   go_upto_region 7 with (go_at_call 75;refine HTa.out.mono ?_;rintro e W7 ⟨rfl,hb7⟩;have HB7:=Lib.hid (below_next HNa.out hb7);have HKb:=Lib.hid (HKa.out.next hb7);clear hb7)
   clear q0 q1 HTa
   have HK7:=Lib.hid (fun W (hW:Below W7.heap.size W7 W)=>(show W.cell? ⟨Nk,0,none⟩=some (.int .u32 s1)∧W.cell? ⟨Nk,1,none⟩=some (.int .u32 g1) from ⟨(HKb.out.next hW).cell 0,(HKb.out.next hW).cell 1⟩))
   refine wp_region_held_drew (S:=fun _=>True) (by kernel_rfl) trivial (fun _=>?_)
   refine wpAnyH_each (md:=.any) (m:=0) (rem:=[0,1,2,3,4,5,6,7,8,9,10]) (tail:=[]) (deps:=fun i=>match i with | 3=>[1,2] | 6=>[5] | 7=>[4,6] | 8=>[3,7] | 9=>[0,8] | 10=>[9] | _=>[]) (fun _ W=>Below W7.heap.size W7 W) (fun _ w _ w'=>Below w.heap.size w w')
    (fun ix ds v W=>match ix with | 0=>v=.int .i64 (inUp x r (s1,g1)).1 | 1=>v=.map (some bm) | 2=>v=.agg #[.int .u32 s1,.int .u32 g1] | 3=>v=.slice Ar (portsK own (s1,g1) hs).length cr | 4=>v=.map (some bm) | 5=>v=.agg #[.int .u32 s1,.int .u32 g1] | 6=>v=.agg #[.int .u32 0,.int .u32 g1] | 7=>v=.slice As (portsK own (0,g1) hs).length cs | 8=>∃g,v=.slice (some ⟨g,0,none⟩) 2 2∧Blk W g 52 #[.slice Ar (portsK own (s1,g1) hs).length cr,.slice As (portsK own (0,g1) hs).length cs] | 9=>∃A' c',v=.slice A' (outP (inUp x r (s1,g1)).1 (portsK own (s1,g1) hs) (portsK own (0,g1) hs)).length c'∧JR W A' (outP (inUp x r (s1,g1)).1 (portsK own (s1,g1) hs) (portsK own (0,g1) hs)).length (outP (inUp x r (s1,g1)).1 (portsK own (s1,g1) hs) (portsK own (0,g1) hs))∧∀a,A'=some a→W7.heap.size≤a.block | 10=>∃A' c',v=.slice A' (outP (inUp x r (s1,g1)).1 (portsK own (s1,g1) hs) (portsK own (0,g1) hs)).length c'∧JR W A' (outP (inUp x r (s1,g1)).1 (portsK own (s1,g1) hs) (portsK own (0,g1) hs)).length (outP (inUp x r (s1,g1)).1 (portsK own (s1,g1) hs) (portsK own (0,g1) hs))∧∀a,A'=some a→W7.heap.size≤a.block | _=>True) (eachB_spec (by kernel_rfl)) (fun _ _ _ _ _ _ _ h k=>below_next h k) (fun _ _ _=>trivial) ?_ (fun _ _ _ _=>True) (fun _ _ _ _ _ _ _ _ _ _ _ _ _ _=>⟨trivial,trivial⟩) ?_ ?_ (Below.refl _ _).drew
   ·intro i hi j _ hij hjd ds v u l W W' _ _ hk h
    simp only[List.mem_cons,List.not_mem_nil,or_false]at hi
    rcases hi with rfl|rfl|rfl|rfl|rfl|rfl|rfl|rfl|rfl|rfl|rfl
    ·exact h
    ·exact h
    ·exact h
    ·exact h
    ·exact h
    ·exact h
    ·exact h
    ·exact h
    ·obtain⟨g,e,h2⟩:=h;exact⟨g,e,h2.next hk⟩
    ·obtain⟨A',c',e,h1,h2⟩:=h;exact⟨A',c',e,h1.next hk,h2⟩
    ·obtain⟨A',c',e,h1,h2⟩:=h;exact⟨A',c',e,h1.next hk,h2⟩
   ·refine AllO.cons [] rfl rfl (fun vs l W hl hT hd=>?_) ?_
    ·dsimp only[lay,List.foldl,List.map,dstOf]
     go_wp2
     exact⟨rfl,_,rfl,Below.refl _ _,rfl⟩
    refine AllO.cons [] rfl rfl (fun vs l W hl hT hd=>?_) ?_
    ·dsimp only[lay,List.foldl,List.map,dstOf]
     go_wp2
     exact⟨rfl,_,rfl,Below.refl _ _,rfl⟩
    refine AllO.cons [] rfl rfl (fun vs l W hl hT hd=>?_) ?_
    ·have f0:=(HK7.out W hT).1
     have f1:=(HK7.out W hT).2
     dsimp only[lay,List.foldl,List.map,dstOf]
     go_wp2
     exact⟨rfl,_,rfl,Below.refl _ _,rfl⟩
    refine AllO.cons [1,2] rfl rfl (fun vs l W hl hT hd=>?_) ?_
    ·have e1:vs 1=.map (some bm):=hd 1 (by simp)
     have e2:vs 2=.agg #[.int .u32 s1,.int .u32 g1]:=hd 2 (by simp)
     have f0:=HL1.out W (below_next HB7.out hT)
     dsimp only[lay,List.foldl,List.map,dstOf]
     rw[e1,e2]
     go_wp2
     exact⟨rfl,_,rfl,Below.refl _ _,rfl⟩
    refine AllO.cons [] rfl rfl (fun vs l W hl hT hd=>?_) ?_
    ·dsimp only[lay,List.foldl,List.map,dstOf]
     go_wp2
     exact⟨rfl,_,rfl,Below.refl _ _,rfl⟩
    refine AllO.cons [] rfl rfl (fun vs l W hl hT hd=>?_) ?_
    ·have f0:=(HK7.out W hT).1
     have f1:=(HK7.out W hT).2
     dsimp only[lay,List.foldl,List.map,dstOf]
     go_wp2
     exact⟨rfl,_,rfl,Below.refl _ _,rfl⟩
    refine AllO.cons [5] rfl rfl (fun vs l W hl hT hd=>?_) ?_
    ·have e5:vs 5=.agg #[.int .u32 s1,.int .u32 g1]:=hd 5 (by simp)
     have hC:=Lib.hid (anyS_any s1 g1 W)
     dsimp only[lay,List.foldl,List.map,dstOf]
     rw[e5]
     go_wp2_with (go_at_call 77;refine hC.out.mono ?_;rintro e w1 ⟨rfl,hb1⟩)
     exact⟨rfl,_,(by first|rfl|(simp[Act.put];omega)),hb1,rfl⟩
    refine AllO.cons [4,6] rfl rfl (fun vs l W hl hT hd=>?_) ?_
    ·have e4:vs 4=.map (some bm):=hd 4 (by simp)
     have e6:vs 6=.agg #[.int .u32 0,.int .u32 g1]:=hd 6 (by simp)
     have f0:=HL2.out W (below_next HB7.out hT)
     dsimp only[lay,List.foldl,List.map,dstOf]
     rw[e4,e6]
     go_wp2
     exact⟨rfl,_,rfl,Below.refl _ _,rfl⟩
    refine AllO.cons [3,7] rfl rfl (fun vs l W hl hT hd=>?_) ?_
    ·have e3:vs 3=.slice Ar (portsK own (s1,g1) hs).length cr:=hd 3 (by simp)
     have e7:vs 7=.slice As (portsK own (0,g1) hs).length cs:=hd 7 (by simp)
     dsimp only[lay,List.foldl,List.map,dstOf]
     rw[e3,e7]
     go_wp2
     exact⟨rfl,_,rfl,(Below.refl _ _).alloc (Nat.le_refl _) _,_,rfl,Blk.new _ _ _⟩
    refine AllO.cons [0,8] rfl rfl (fun vs l W hl hT hd=>?_) ?_
    ·have e0:vs 0=.int .i64 (inUp x r (s1,g1)).1:=hd 0 (by simp)
     obtain⟨g8,e8,hk8⟩:=hd 8 (by simp)
     have hC:=Lib.hid (out2_any (inUp x r (s1,g1)).1 g8 Ar As cr cs (portsK own (s1,g1) hs) (portsK own (0,g1) hs) W hk8 (HJ1.out W (below_next HB7.out hT)) (HJ2.out W (below_next HB7.out hT)) HNZ.out HLP.out.1 HLP.out.2)
     dsimp only[lay,List.foldl,List.map,dstOf]
     rw[e0,e8]
     go_wp2_with (go_at_call 76;refine hC.out.mono ?_;rintro e w1 ⟨A',c',rfl,hj',hb1,hf'⟩)
     exact⟨rfl,_,rfl,hb1,_,_,rfl,hj',fun a ha=>Nat.le_trans hT.size (hf' a ha)⟩
    refine AllO.cons [9] rfl rfl (fun vs l W hl hT hd=>?_) AllO.nil
    ·obtain⟨A9,c9,e9,hj9,hf9⟩:=hd 9 (by simp)
     dsimp only[lay,List.foldl,List.map,dstOf]
     rw[e9]
     go_wp2
     first|exact⟨rfl,_,rfl,Below.refl _ _,_,_,rfl,hj9,hf9⟩|exact⟨rfl,_,rfl,Below.refl _ _,_,⟨_,rfl⟩,hj9,hf9⟩|exact⟨rfl,_,rfl,Below.refl _ _,A9,⟨rfl,rfl⟩,hj9,hf9⟩
   ·intro vs l W hall hT hF _ aE LE ha hL
    have e0:vs 0=.int .i64 (inUp x r (s1,g1)).1:=hF 0 (by simp)
    have e1:vs 1=.map (some bm):=hF 1 (by simp)
    have e2:vs 2=.agg #[.int .u32 s1,.int .u32 g1]:=hF 2 (by simp)
    have e3:vs 3=.slice Ar (portsK own (s1,g1) hs).length cr:=hF 3 (by simp)
    have e4:vs 4=.map (some bm):=hF 4 (by simp)
    have e5:vs 5=.agg #[.int .u32 s1,.int .u32 g1]:=hF 5 (by simp)
    have e6:vs 6=.agg #[.int .u32 0,.int .u32 g1]:=hF 6 (by simp)
    have e7:vs 7=.slice As (portsK own (0,g1) hs).length cs:=hF 7 (by simp)
    obtain⟨g8,e8,hk8⟩:=hF 8 (by simp)
    obtain⟨A9,c9,e9,hj9,hf9⟩:=hF 9 (by simp)
    obtain⟨A10,c10,e10,hj10,hf10⟩:=hF 10 (by simp)
    have hL':LE=#[true,true,true,true,true,true,true,true,true,true,true]:=hL.trans (by kernel_rfl)
    dsimp only[lay,List.foldl,dstOf]at ha
    rw[e0,e1,e2,e3,e4,e5,e6,e7,e8,e9,e10]at ha
    clear e0 e1 e2 e3 e4 e5 e6 e7 e8 e9 e10 hL hF
    subst ha hL'
    refine wpAnyH_done (by kernel_rfl) ?_ _
    have HB9:=Lib.hid (below_next HB7.out hT)
    have HJ9:=Lib.hid hj10
    have HF9:=Lib.hid hf10
    have HK9:=Lib.hid (HK7.out W hT)
    generalize W=W9 at *
    clear hall hT hj9 hf9 hk8 hj10 hf10
    have q0:W9.cell? ⟨Nk,0,none⟩=some (.int .u32 s1):=HK9.out.1
    have q1:W9.cell? ⟨Nk,1,none⟩=some (.int .u32 g1):=HK9.out.2
    have HO9:=Lib.hid (own_nextk HO.out HB9.out)
    have HRR:Hid (PMr.p ⟨rowK x r own hs (s1,g1),A10,c10⟩=rowK x r own hs (s1,g1)):=Lib.hid rfl
    have hml2:ms.length≤1000:=by omega
    have HSZ:Hid (w3.heap.size≤W9.heap.size):=Lib.hid (Nat.le_trans HB.out.size HB9.out.size)
    have HNB9:Hid (∀g,v8.ownBlock=some g→g<W7.heap.size):=Lib.hid (fun g hg=>Nat.lt_of_lt_of_le (HO.out.lt g hg).2 HB7.out.size)
    generalize inUp x r (s1,g1)=IU at *
    obtain⟨iu1,iu2⟩:=IU
    dsimp only at HRW HJ9
    generalize outP iu1 (portsK own (s1,g1) hs) (portsK own (0,g1) hs)=O9 at *
    have HOL2:=Lib.hid (HO9.out.alloc (.cells #[.int .i64 r,.int .i64 iu1,.int .i64 iu2,.int .u32 s1,.int .u32 g1,.slice A10 O9.length c10] 83))
    have HAL2:=Lib.hid ((Below.refl W9.heap.size W9).alloc (Nat.le_refl _) (.cells #[.int .i64 r,.int .i64 iu1,.int .i64 iu2,.int .u32 s1,.int .u32 g1,.slice A10 O9.length c10] 83))
    go_wp2_with (at_builtin;refine wpList_itemsF elemRw rfl _ _ rfl w3.heap.size v8 k ms rfl HOL2.out _ 1 1 [⟨⟨r,iu1,iu2,(s1,g1),O9⟩,A10,c10⟩] rfl (RI.new _ _ (⟨⟨r,iu1,iu2,(s1,g1),O9⟩,A10,c10⟩:PMr) (by simp) rfl) (by omega) (by omega) (Nat.le_trans HSZ.out HAL2.out.size) ?_;intro v10 w10 hown10 hb10 hg10 ho10)
    have HJA:Hid (∀m∈ms++[(⟨⟨r,iu1,iu2,(s1,g1),O9⟩,A10,c10⟩:PMr)],JR w10 m.A m.p.xs.length m.p.xs):=Lib.hid (fun m hm=>by
     rcases List.mem_append.1 hm with hm|hm
     ·exact ((HJ.out m hm).next (below_next HB9.out HAL2.out)).grown hg10 (fun h0 a ha e=>HN.out _ e.symm m hm h0 a ha rfl)
     ·obtain rfl:=List.mem_singleton.1 hm
      exact (HJ9.out.next HAL2.out).grown hg10 (fun h0 a ha e=>by have:=HNB9.out _ e.symm;have:=HF9.out a ha;omega))
    have HNA:Hid (∀g,v10.ownBlock=some g→∀m∈ms++[(⟨⟨r,iu1,iu2,(s1,g1),O9⟩,A10,c10⟩:PMr)],0<m.p.xs.length→∀a,m.A=some a→a.block ≠ g):=Lib.hid (fun g hg m hm h0 a ha e=>by
     rcases ho10 with ho|ho
     ·rw[ho]at hg
      rcases List.mem_append.1 hm with hm|hm
      ·exact HN.out g hg m hm h0 a ha e
      ·obtain rfl:=List.mem_singleton.1 hm
       have:=HNB9.out g hg;have:=HF9.out a ha;omega
     ·rw[ho]at hg
      cases hg
      have hlt9:a.block<W9.heap.size:=by
       rcases List.mem_append.1 hm with hm|hm
       ·obtain⟨bq,oq,eq,hq,_⟩:=(HJ.out m hm).2 h0
        rw[ha]at eq;cases eq
        exact Nat.lt_of_lt_of_le hq HB9.out.size
       ·obtain rfl:=List.mem_singleton.1 hm
        obtain⟨bq,oq,eq,hq,_⟩:=HJ9.out.2 h0
        have ha':A10=some a:=ha
        rw[ha']at eq;cases eq
        exact hq
      have:=HAL2.out.size
      omega)
    have HOA:Hid (w10.ownsRow w3.heap.size 83 6 v10 (k+1) ((ms++[(⟨⟨r,iu1,iu2,(s1,g1),O9⟩,A10,c10⟩:PMr)]).flatMap CRw)):=Lib.hid hown10
    have HBA:=Lib.hid ((HB.out.trans ((below_next HB9.out HAL2.out).mono HB.out.size)).trans hb10)
    have HMA:Hid ((ms++[(⟨⟨r,iu1,iu2,(s1,g1),O9⟩,A10,c10⟩:PMr)]).map PMr.p=(RK.take (k+1)).map (rowK x r own hs)):=Lib.hid (by rw[HTK.out,List.map_append,List.map_append,HMS.out];simp[HRW.out])
    clear hown10 hb10 hg10 ho10 HJ9 HF9 HO9 HOL2 HAL2
    go_wp2
    go_roundw
    case rel=>exact⟨k+1,_,hlt,by go_num,by rw[List.length_append];simp;omega,HMA,HOA,HJA,HNA,HBA⟩
    case measure=>simp[intOf];omega
  ·obtain rfl:k=RK.length:=by omega
   have hd:decide ((RK.length:Int)<(RK.length:Int))=false:=by simp
   go_wp2
   go_ret
   refine⟨v8,ms,rfl,?_,?_,HJ.out,HB3.out.trans (HB.out.mono HB3.out.size)⟩
   ·rw[hml];exact ownk_up HO.out HB3.out.size
   ·rw[HMS.out,List.take_length];exact HRP.out.symm
end
end Go.Proofs.YtfidicbknjoafaaGreatDoor
namespace Go.Proofs.YtfidicbknjoafaaGreatDoor
open Go.RowKit Lx Sm Go.Maps Go.Sort Go.Shelf
theorem grp_or (n:Nat) (hn:n<65536):bits BinOp.or IntKind.u32 3758161920 (n:Int)=3758161920+(n:Int):=by
 rw[Ad.or_join 3758161920 (n:Int) 16 (by omega) (by omega) (by decide) (by omega) (by omega) (by omega)]
theorem ngroup_any (n:Nat) (hn:n<65536) (w:World):Calls Tryz.prog 45 #[.int .i64 (n:Int)] w fun e w'=>e=.returned (.int .u32 (3758161920+(n:Int)))∧w=w':=by
 have HG:=Lib.hid (grp_or n hn)
 go_enter Tryz.func45,Tryz.ntmps45
 go_wp2
 go_ret
 exact⟨by rw[←HG.out];rfl,rfl⟩
end Go.Proofs.YtfidicbknjoafaaGreatDoor
namespace Go.Proofs.YtfidicbknjoafaaGreatDoor
open Go.RowKit Lx Sm Go.Maps
section
variable {b:Nat} {T:TP} {x x':Cfg} {gs:List Int}
end
end Go.Proofs.YtfidicbknjoafaaGreatDoor
namespace Go.Proofs.YtfidicbknjoafaaGreatDoor
open Go.ChangeShapes Go.WideShapes Go.ChangeAt Go.RowKit Lx Sm Go.Maps
theorem lt_line2:LtOK (lineCfg 2 0):=⟨line_valid ⟨2,by omega⟩,by decide,by decide,by decide,by decide,by decide,by decide,by decide,line_rn 2 0,line_ln 2 0,line_ports 2 0,fun y hy=>(by cases hy),fun y hy=>(by cases hy)⟩
theorem rows_none (x:Cfg) (r:Int) (own:List Int):rowsP x r own []=[]:=by
 have h:rowKeys x r own []=[]:=by
  refine List.eq_nil_iff_forall_not_mem.2 fun q hq=>?_
  have:=rowKeys_some hq
  simp[portsK]at this
 unfold rowsP;rw[h];rfl
theorem want_first0:((rowsP (lineCfg 2 0) 1 (rowF (lineCfg 2 0) 1) [(3,0,3758161921)]).map fun p=>(p.r,p.i,p.u,p.k,p.xs))=[(1,2,1,(0,3758161921),[3])]:=by decide +kernel
theorem want_first:rowsP (lineCfg 2 0) 1 (rowF (lineCfg 2 0) 1) [(3,0,3758161921)]=[⟨1,2,1,(0,3758161921),[3]⟩]:=by
 have h:=congrArg (List.map fun q:Int × Int × Int × (Int × Int) × List Int=>(⟨q.1,q.2.1,q.2.2.1,q.2.2.2.1,q.2.2.2.2⟩:PRow)) want_first0
 rw[List.map_map]at h
 have e:(fun q:Int × Int × Int × (Int × Int) × List Int=>(⟨q.1,q.2.1,q.2.2.1,q.2.2.2.1,q.2.2.2.2⟩:PRow)) ∘ (fun p:PRow=>(p.r,p.i,p.u,p.k,p.xs))=id:=rfl
 rw[e,List.map_id]at h
 exact h
set_option maxRecDepth 100000 in
set_option maxHeartbeats 4000000 in
theorem first17_any (ads:List Addr) (w:World) (hE:EnvC ads w) :
  Calls Tryz.prog 30 #[] w fun e w'=>e=.returned (.bool true)∧Below w.heap.size w w':=by
 have HE:=Lib.hid hE
 have HL:=Lib.hid fun W=>line_any 2 0 (by decide) (by decide) W
 have HG:=Lib.hid fun W=>ngroup_any 1 (by decide) W
 clear hE
 go_enter Tryz.func30,Tryz.ntmps30
 go_upto_region 2 with (first
  | (go_at_call 43;refine (HL.out _).mono ?_;rintro e w1 ⟨M,rfl,hcw,hb1⟩;have HCW:=Lib.hid hcw;have HN:=Lib.hid (new_ok ads M (lineCfg 2 0) [] w1 (HE.out.below hb1) hcw (line_valid ⟨2,by omega⟩) (line_rn 2 0) (line_ln 2 0) (fun W _=>groups0_any M W hcw.s.len.symm hcw.m.len.symm) (line_ports 2 0) (fun y hy=>(by cases hy)));have HB1:=Lib.hid hb1;clear hcw hb1)
  | (go_at_call 12;refine HN.out.mono ?_;rintro e w2 ⟨T,x',rfl,hT,hal,hb2⟩;have HT:=Lib.hid hT;have HAL:=Lib.hid hal;have HB2:=Lib.hid (below_next HB1.out hb2);clear hT hal hb2))
 have HOK':=Lib.hid (lt_line2.alike HAL.out (by rw[vcode_alike HAL.out];exact lt_line2.v))
 have HR0:=Lib.hid (fun W (hW:Below w2.heap.size w2 W)=>rows_al 0 none 0 0 [] W w1 M (HT.out.next hW) HAL.out HCW.out lt_line2 HOK'.out (RI.none_ _ _ _ _) (fun y hy=>(by cases hy)) (by decide))
 have HR1:=Lib.hid (fun W (hW:Below w2.heap.size w2 W) g (hg:RI CHd 3 W (some ⟨g,0,none⟩) 1 [(3,0,3758161921)])=>rows_al 1 (some ⟨g,0,none⟩) 1 1 [(3,0,3758161921)] W w1 M (HT.out.next hW) HAL.out HCW.out lt_line2 HOK'.out hg (fun y hy=>by
  obtain rfl:=List.mem_singleton.1 hy
  exact⟨⟨by decide,by decide⟩,⟨by decide,by decide⟩⟩) (by decide))
 rw[rows_none]at HR0
 rw[want_first]at HR1
 go_upto_region 4 with (go_at_call 31;refine (HR0.out _ (Below.refl _ _)).mono ?_;rintro e w3 ⟨v3,ms,rfl,hown,hmp,_,hb3⟩;obtain rfl:ms=[]:=List.map_eq_nil_iff.1 hmp;obtain⟨A3,c3,rfl,_⟩:=RI.of_own (enc:=CRw) (k:=6) (xs:=[]) (fun _=>rfl) hown;have HB3:=Lib.hid hb3;clear hown hmp hb3)
 clear HR0
 have HB4:=Lib.hid ((HB3.out.mono (Nat.le_refl _)).alloc HB3.out.size (.cells #[.int .i64 3,.int .u32 0,.int .u32 3758161921] 89))
 have HRI4:=Lib.hid (RI.new (enc:=CHd) (k:=3) w3 89 (3,0,3758161921) rfl rfl)
 go_upto_region 5 with (first
  | (go_at_call 45;refine (HG.out _).mono ?_;rintro e w4 ⟨rfl,rfl⟩)
  | (go_at_call 31;refine (HR1.out _ HB4.out _ HRI4.out).mono ?_;rintro e w5 ⟨v5,ms,rfl,hown,hmp,hjr,hb5⟩;have HO5:=Lib.hid hown;have HMP:=Lib.hid hmp;have HJR:=Lib.hid hjr;have HB5:=Lib.hid (below_next HB4.out hb5);clear hown hmp hjr hb5))
 clear HR1
 obtain⟨m,rfl⟩:∃m,ms=[m]:=by
  have:=congrArg List.length HMP.out
  simp at this
  exact List.length_eq_one_iff.1 this
 have hp:m.p=⟨1,2,1,(0,3758161921),[3]⟩:=by have:=HMP.out;simpa using this
 obtain⟨A5,c5,rfl,_,hr5⟩:=RI.of_own (enc:=CRw) (k:=6) (xs:=[m]) (fun _=>rfl) HO5.out
 obtain⟨b5,o5,y,e5,_,hy,hc⟩:=hr5.at_ (i:=0) (by simp)
 obtain rfl:m=y:=by simpa using hy
 have c1:=hc 1 _ rfl
 have c2:=hc 2 _ rfl
 have c5':=hc 5 _ rfl
 have HJ:=Lib.hid (HJR.out m (List.mem_singleton.2 rfl))
 rw[hp]at c1 c2 c5' HJ
 dsimp only at c1 c2 c5' HJ
 have e5':A5=some ⟨b5,o5,none⟩:=e5
 subst e5'
 simp only[Nat.zero_mul,Nat.add_zero]at c1 c2 c5'
 have HSM:=Lib.hid (jsame_self m.A (some ⟨w5.heap.size,0,none⟩) 1 1 m.c 1 [3] (w5.alloc (.cells #[.int .i64 3] 3)) (HJ.out.next ((Below.refl _ _).alloc (Nat.le_refl _) _)) (jr_one w5 3 _) (by decide))
 clear hc hr5 hy e5 hp
 go_wp2_with (go_at_call 17;refine HSM.out.mono ?_;rintro e w6 ⟨rfl,hb6⟩;have HB6:=Lib.hid (HB2.out.trans ((HB5.out.trans (((Below.refl w5.heap.size w5).alloc (Nat.le_refl _) _ |>.trans (hb6.mono (by simp))).mono HB5.out.size)).mono HB2.out.size));clear hb6)
 go_ret
 exact⟨rfl,HB6.out⟩
theorem elemHd:Elem Tryz.prog 74 89 CHd 3 16:=⟨Tryz.underlying74,(by obtain⟨i,hi,hz,hs,hb⟩:=info_parts (show (Tryz.prog.info? 89).map (fun i=>(i.zero,i.size,i.bytes))=some (some (.agg #[.int .i64 0,.int .u32 0,.int .u32 0]),3,16) by kernel_rfl);exact⟨i,_,hi,hz,hs,hb,rfl⟩),fun _=>rfl,fun x u hu=>by simp[CHd]at hu;rcases hu with rfl|rfl|rfl <;> rfl,by omega,by omega⟩
def wfHd (h:Int × Int × Int):Prop:=(-9223372036854775808≤h.1∧h.1≤9223372036854775807)∧UK h.2
theorem opened_heard {H:Type} {enc:TypeId × Value→H} {W:World} {a0:Option Addr} {len cap:Nat} {d0:DataW H} {p:List MemPlace}
  (h0:DataW.Trod enc Tryz.prog W 0 (fun _=>true) true 74 (.slice a0 len cap) d0 p):∃xs,RI CHd 3 W a0 len xs∧(∀x∈xs,wfHd x)∧len≤cap:=by
 refine open_items CHd wfHd Tryz.underlying74 (by kernel_rfl) (by omega) ?_ h0
 intro n l y hl htr
 have ki:Tryz.prog.cellsOf 3=1:=by kernel_rfl
 have kk:Tryz.prog.cellsOf 57=2:=by kernel_rfl
 have ka:Tryz.prog.cellsOf 42=1:=by kernel_rfl
 match l,hl with
 | [c0,c1,c2],_ =>
  obtain⟨ys,n',_,_,_,hlen,hf⟩:=DataW.trod_struct Tryz.underlying89 htr
  match ys,hlen with
  | [y0,y1],_ =>
   have g0:DataW.trod enc Tryz.prog W 0 (fun _=>true) true n' 3 [c0]=some y0:=by simpa [ki] using hf 0 _ rfl
   have g1:DataW.trod enc Tryz.prog W 0 (fun _=>true) true n' 57 [c1,c2]=some y1:=by simpa [kk,ki] using hf 1 _ rfl
   obtain⟨zs,n2,_,_,_,hlen2,hf2⟩:=DataW.trod_struct Tryz.underlying57 g1
   match zs,hlen2 with
   | [z0,z1],_ =>
    have f0:DataW.trod enc Tryz.prog W 0 (fun _=>true) true n2 42 [c1]=some z0:=by simpa [ka] using hf2 0 _ rfl
    have f1:DataW.trod enc Tryz.prog W 0 (fun _=>true) true n2 42 [c2]=some z1:=by simpa [ka] using hf2 1 _ rfl
    obtain⟨a0,e0,_,w0⟩:=DataW.trod_int Tryz.underlying3 g0
    obtain⟨a1,e1,_,w1⟩:=DataW.trod_int Tryz.underlying42 f0
    obtain⟨a2,e2,_,w2⟩:=DataW.trod_int Tryz.underlying42 f1
    simp only[List.cons.injEq,and_true]at e0 e1 e2
    subst e0;subst e1;subst e2
    exact⟨(a0,a1,a2),rfl,wf_i64 w0,wf_u32 w1,wf_u32 w2⟩
end Go.Proofs.YtfidicbknjoafaaGreatDoor
