/- Plain facts of a light network's tables: whose ports and members are where, how many there are in all, that each address is one port's. -/
import Derived.Test.YtfidicbknjoafaaGreatDoorQYz
import Derived.Test.YtfidicbknjoafaaGreatDoorQYb
import Derived.Test.YtfidicbknjoafaaGreatDoorQSy
import Derived.Test.YtfidicbknjoafaaGreatDoorQCl0
import Derived.Test.YtfidicbknjoafaaGreatDoorQCg
import Derived.Test.YtfidicbknjoafaaGreatDoorQCp
import Derived.Test.YtfidicbknjoafaaGreatDoorQName
import Derived.OwnWalk
import Derived.Deep.Cut
import Derived.Deep.RegionHeld3
import Derived.Laws.Append
import Derived.Maps.AppendAt
import Derived.Test.YtfidicbknjoafaaGreatDoorQUn
namespace Go.Proofs.YtfidicbknjoafaaGreatDoor
open Go.RowKit Lx Sm Go.Maps
theorem PT.keys {own:List Int} {hs:List (Int × Int × Int)} {L:Tr.Row} (h:PT own hs L) (k:Int × Int):k ∈ L.map (·.1) ↔ k ∈ heardK own hs:=by
 rw [heardK_mem]
 have e:=h.2 k
 constructor
 ·intro hm hn
  rw [if_pos hn] at e
  obtain ⟨x,hx,rfl⟩:=List.mem_map.1 hm
  exact Tr.get_none.1 e x hx rfl
 ·intro hn
  rw [if_neg hn] at e
  refine Classical.byContradiction fun hm=>?_
  rw [Tr.get_none.2 (fun x hx ex=>hm (List.mem_map.2 ⟨x,hx,ex⟩))] at e
  cases e
section
variable {b:Nat} {T:TP} {x x':Cfg} {gs:List Int}
set_option maxRecDepth 100000 in
set_option maxHeartbeats 4000000 in
theorem join_al (r:Int) (own:List Int) (hs:List (Int × Int × Int)) (bm:Nat) (F:Nat→Prop) (L:Tr.Row) (es:Array MapEntry) (clock:Nat) (w wc:World) (M:Cm) (hki:KI w F bm L es clock) (hpt:PT own hs L) (hL:hs.length≤1000) (h:TW w b T x' gs) (k:Alike x x') (hc:CW wc M x) (ok:LtOK x) (ok':LtOK x') :
  Calls Tryz.prog 74 #[.pointer (some ⟨T.N,0,none⟩),.int .i64 r,.map (some bm)] w fun e w'=>∃ (A':Option Addr) (c':Nat),e=.returned (.slice A' (rowKeys x r own hs).length c')∧RI CKy 2 w' A' (rowKeys x r own hs).length (rowKeys x r own hs)∧Below w.heap.size w w'∧∀ a,A'=some a→w.heap.size≤a.block:=by
 have hll:L.length≤1000:=Nat.le_trans hpt.1 hL
 have HKR:=Lib.hid (keysR_any bm w)
 have HCR:=Lib.hid (collR_any w F bm L es clock hki (by omega))
 have HB1:=Lib.hid ((Below.refl w.heap.size w).alloc (Nat.le_refl _) (.cells #[.map (some bm)] 150))
 have HS1:Hid (w.heap.size≤(w.alloc (.cells #[.map (some bm)] 150)).heap.size):=Lib.hid HB1.out.size
 have HSE:=Lib.hid (fun W (hW:Below w.heap.size w W)=>sentS_fr W (h.next hW) ok')
 have HSX:Hid (sentP x'=sentP x):=Lib.hid (by unfold sentP;rw [k.s])
 have HSL:Hid ((keysS (sentP x)).length≤1000):=Lib.hid (by have:=keysS_len (sentP x);rw [sentP_len] at this;have:=ok.sl;omega)
 have HSU:=Lib.hid (fun a (ha:a ∈ keysS (sentP x))=>(sentP_u h) a (by rw [HSX.out];exact (keysS_mem _ _).1 ha))
 have HRI:=Lib.hid (fun W (hW:Below w.heap.size w W) g (hg:U32 g)=>ris_al r g hg W wc M (h.next hW) k hc ok)
 have HKI:=Lib.hid hki
 have HPT:=Lib.hid hpt
 have HLL:=Lib.hid hll
 have HKE:=Lib.hid (fun y=>hpt.keys y)
 have HRK:Hid (rowKeys x r own hs=keysS (heardK own hs ++ (keysS (sentP x)).filter fun k=>decide (0<(portsK own (0,k.2) hs).length) && (rtrP x k.2 == some r))):=Lib.hid rfl
 clear hki hpt h k hc ok ok' hll
 rw [HSX.out] at HSE
 generalize keysS (sentP x)=S at *
 generalize rowKeys x r own hs=RK at *
 go_enter Tryz.func74,Tryz.ntmps74
 go_upto_region 2 with (first
  | (go_at_call 123;refine HKR.out.mono ?_;rintro e w1 ⟨rfl,rfl⟩)
  | (go_at_call 122;refine HCR.out.mono ?_;rintro e w2 ⟨v2,ss,rfl,hperm,hown2,hb2⟩;have HPM:=Lib.hid hperm;have HO2:=Lib.hid hown2;have HB2:=Lib.hid hb2;clear hperm hown2 hb2))
 clear HKR HCR
 have HBB:Hid ((w.alloc (.cells #[.map (some bm)] 150)).heap.size≤w2.heap.size):=Lib.hid HB2.out.size
 generalize (w.alloc (.cells #[.map (some bm)] 150)).heap.size=B1 at *
 have HB3:=Lib.hid (HB1.out.trans (HB2.out.mono HS1.out))
 have HBM:Hid (bm<w.heap.size):=Lib.hid (Array.getElem?_eq_some_iff.1 HKI.out.block).1
 have HS3:=Lib.hid (HSE.out w2 HB3.out)
 have HSS:Hid (ss.length≤1000):=Lib.hid (by have:=HPM.out.length_eq;rw [List.length_map] at this;have:=HLL.out;omega)
 rw [PF_flatK] at HO2
 clear HSE HB2 HB1
 have HV2:Hid (∀ g,v2.ownBlock=some g→g<w2.heap.size):=Lib.hid (fun g hg=>(HO2.out.lt g hg).2)
 go_upto_region 3 with (go_at_call 124;refine HS3.out.mono ?_;rintro e w3 ⟨A3,c3,rfl,hri3,hb3,hfr⟩;have HI3:=Lib.hid hri3;have HFR:=Lib.hid hfr;have HO3:=Lib.hid (own_nextk HO2.out hb3);have HB4:=Lib.hid (below_next HB3.out hb3);have HBS:=Lib.hid hb3.size;clear hri3 hb3 hfr)
 have HNE:Hid (∀ g,v2.ownBlock=some g→∀ a,A3=some a→a.block ≠ g):=Lib.hid (fun g hg a ha e=>by have:=HV2.out g hg;have:=HFR.out a ha;omega)
 have HWB:Hid (w.heap.size≤B1):=HS1
 have HB13:Hid (B1≤w3.heap.size):=Lib.hid (by
  rcases HO3.out.2 with ⟨_,h0⟩ | _
  ·exact Nat.le_trans HBB.out HBS.out
  ·exact Nat.le_trans HBB.out HBS.out)
 clear HS3 HO2 HFR HV2
 go_loopw [7,16] (fun sv iv wr=>∃ (k:Nat) (l:List (Int × Int)),k≤S.length∧iv=.int .i64 (k:Int)∧l.length≤k∧Hid (l=(S.take k).filter fun k=>decide (0<(portsK own (0,k.2) hs).length) && (rtrP x k.2 == some r))∧Hid (wr.ownsRow B1 57 2 sv (ss.length+l.length) ((ss ++ l).flatMap CKy))∧Hid (RI CKy 2 wr A3 S.length S)∧Hid (∀ g,sv.ownBlock=some g→∀ a,A3=some a→a.block ≠ g)∧Hid (Below w.heap.size w wr)∧Hid (B1≤wr.heap.size)) (fun _ iv _=>S.length - (intOf iv).toNat)
 case atStart=>exact ⟨0,[],Nat.zero_le _,rfl,Nat.le_refl _,Lib.hid (by simp),Lib.hid (by rw [List.append_nil];exact HO3.out),HI3,HNE,HB4,HB13⟩
 case round =>
  obtain ⟨k,l,hk,rfl,hlk,HLE,HO,HI,HN,HB,HBB2⟩:=hrel
  generalize u7=v7 at *
  rcases Nat.lt_or_ge k S.length with hlt | hge
  ·have hi0:(k:Int)<(S.length:Int):=by omega
   have hsl:=HSL.out
   obtain ⟨b5,o5,⟨s1,g1⟩,e5,hbl,hx,hc⟩:=HI.out.at_ hlt
   have t0:wr.cell? ⟨b5,o5+k*2,none⟩=some (.int .u32 s1):=hc 0 _ rfl
   have t1:wr.cell? ⟨b5,o5+k*2+1,none⟩=some (.int .u32 g1):=hc 1 _ rfl
   have HUK:=Lib.hid (HSU.out (s1,g1) (List.mem_of_getElem? hx))
   have HTK:Hid (S.take (k+1)=S.take k ++ [(s1,g1)]):=Lib.hid (by rw [List.take_add_one,hx];rfl)
   subst e5
   have HBL:=Lib.hid hbl
   obtain ⟨vr,ys,_,hys,hlo,hown,_⟩:=HKI.out.look (p:=(0,g1)) ⟨⟨by omega,by omega⟩,HUK.out.2⟩
   rw [HPT.out.val] at hys
   obtain ⟨Ar,cr,rfl,_⟩:=own_jr hown
   have HLO:=Lib.hid (fun W (hW:Below w.heap.size w W)=>(show (Instr.lookup 150 (.map (some bm)) (.agg #[.int .u32 0,.int .u32 g1]) false).run Tryz.prog W=.ok (.slice Ar ys.length cr) W from hlo W (hW.block bm HBM.out)))
   have HYS:=Lib.hid hys
   have HRG:=Lib.hid (fun W hW=>HRI.out W hW g1 HUK.out.2)
   have HBa:=Lib.hid (HB.out.alloc HB.out.size (.cells #[.int .u32 s1,.int .u32 g1] 57))
   have HNa:=Lib.hid ((Below.refl wr.heap.size wr).alloc (Nat.le_refl _) (.cells #[.int .u32 s1,.int .u32 g1] 57))
   have HKa:=Lib.hid (Blk.new wr 57 #[.int .u32 s1,.int .u32 g1])
   clear hx hc hlo hys hown hbl
   go_upto_region 5 with fail
   clear t0 t1
   generalize wr.alloc (.cells #[.int .u32 s1,.int .u32 g1] 57)=Wa at *
   generalize hNk:wr.heap.size=Nk at HKa ⊢
   have q0:Wa.cell? ⟨Nk,0,none⟩=some (.int .u32 s1):=HKa.out.cell 0
   have q1:Wa.cell? ⟨Nk,1,none⟩=some (.int .u32 g1):=HKa.out.cell 1
   have HNK:=Lib.hid hNk
   clear hNk
   by_cases h0:0<ys.length
   ·have h1:(0:Int)<(ys.length:Int):=by omega
    have h2:decide ((0:Int)<(ys.length:Int))=true:=by simpa using h1
    obtain ⟨bR,hbR⟩:∃ bR,(rtrP x g1 == some r)=bR:=⟨_,rfl⟩
    rw [hbR] at HRG
    have HBR:=Lib.hid hbR
    have HPY:Hid (decide (0<(portsK own (0,g1) hs).length)=true):=Lib.hid (by rw [← HYS.out];simpa using h0)
    clear hbR
    cases bR with
    | false =>
     go_wp2_with (first
      | (go_at_call 77;refine (anyS_any s1 g1 _).mono ?_;rintro e w6 ⟨rfl,hb6⟩;have HB6:=Lib.hid (HBa.out.trans (hb6.mono HBa.out.size));have HN6:=Lib.hid (below_next HNa.out hb6);have hlk6:=HLO.out w6 HB6.out;replace q0:w6.cell? ⟨Nk,0,none⟩=some (.int .u32 s1):=(HKa.out.next hb6).cell 0;replace q1:w6.cell? ⟨Nk,1,none⟩=some (.int .u32 g1):=(HKa.out.next hb6).cell 1;have HK6:=Lib.hid (HKa.out.next hb6);clear hb6)
      | (go_at_call 125;refine (HRG.out w6 HB6.out).mono ?_;rintro e w7 ⟨rfl,hb7⟩;have HB7:=Lib.hid (HB6.out.trans (hb7.mono HB6.out.size));have HN7:=Lib.hid (below_next HN6.out hb7);have HK7:=Lib.hid (HK6.out.next hb7);clear hb7))
     go_roundw
     case rel=>exact ⟨k+1,l,by omega,by go_num,by omega,Lib.hid (by rw [HTK.out,List.filter_append,← HLE.out];simp [HPY.out,HBR.out]),Lib.hid (own_nextk HO.out HN7.out),Lib.hid (HI.out.next HN7.out),HN,HB7,Lib.hid (Nat.le_trans HBB2.out HN7.out.size)⟩
     case measure=>simp [intOf];omega
    | true =>
     go_upto_region 6 with (first
      | (go_at_call 77;refine (anyS_any s1 g1 _).mono ?_;rintro e w6 ⟨rfl,hb6⟩;have HB6:=Lib.hid (HBa.out.trans (hb6.mono HBa.out.size));have HN6:=Lib.hid (below_next HNa.out hb6);have hlk6:=HLO.out w6 HB6.out;replace q0:w6.cell? ⟨Nk,0,none⟩=some (.int .u32 s1):=(HKa.out.next hb6).cell 0;replace q1:w6.cell? ⟨Nk,1,none⟩=some (.int .u32 g1):=(HKa.out.next hb6).cell 1;have HK6:=Lib.hid (HKa.out.next hb6);clear hb6)
      | (go_at_call 125;refine (HRG.out w6 HB6.out).mono ?_;rintro e w7 ⟨rfl,hb7⟩;have HB7:=Lib.hid (HB6.out.trans (hb7.mono HB6.out.size));have HN7:=Lib.hid (below_next HN6.out hb7);have HK7:=Lib.hid (HK6.out.next hb7);clear hb7))
     have p0:w7.cell? ⟨Nk,0,none⟩=some (.int .u32 s1):=HK7.out.cell 0
     have p1:w7.cell? ⟨Nk,1,none⟩=some (.int .u32 g1):=HK7.out.cell 1
     have HO7:=Lib.hid (own_nextk HO.out HN7.out)
     have HO8:=Lib.hid (HO7.out.alloc (.cells #[.int .u32 s1,.int .u32 g1] 57))
     have HB8:=Lib.hid (HB7.out.alloc HB7.out.size (.cells #[.int .u32 s1,.int .u32 g1] 57))
     have HN8:=Lib.hid (HN7.out.alloc HN7.out.size (.cells #[.int .u32 s1,.int .u32 g1] 57))
     have HSZ:Hid (B1≤(w7.alloc (.cells #[.int .u32 s1,.int .u32 g1] 57)).heap.size):=Lib.hid (Nat.le_trans HBB2.out HN8.out.size)
     have HLL2:Hid (l.length≤1000):=Lib.hid (by have:=HSL.out;omega)
     go_wp2_with (at_builtin;refine wpList_itemsF elemK rfl _ _ rfl B1 v7 (ss.length+l.length) (ss ++ l) rfl HO8.out _ 1 1 [(s1,g1)] rfl (RI.new _ _ (s1,g1) (by simp) rfl) (by have:=HSS.out;have:=HLL2.out;omega) (by omega) HSZ.out ?_;intro v9 w9 hown9 hb9 hg9 ho9)
     have HI9:Hid (RI CKy 2 w9 (some ⟨b5,o5,none⟩) S.length S):=Lib.hid ((HI.out.next HN8.out).grown hg9 (fun a ha e=>HN.out _ e.symm a ha rfl))
     have HN9:Hid (∀ g,v9.ownBlock=some g→∀ a,(some ⟨b5,o5,none⟩:Option Addr)=some a→a.block ≠ g):=Lib.hid (fun g hg a ha=>by
      rcases ho9 with e | e
      ·exact HN.out g (e ▸ hg) a ha
      ·rw [e] at hg;cases hg;cases ha
       have:=HBL.out;have:=HN8.out.size
       show b5 ≠ _
       omega)
     have HO9:Hid (w9.ownsRow B1 57 2 v9 (ss.length+(l ++ [(s1,g1)]).length) ((ss ++ (l ++ [(s1,g1)])).flatMap CKy)):=Lib.hid (by rw [List.length_append,← List.append_assoc,← Nat.add_assoc];exact hown9)
     have HB9:=Lib.hid (HB8.out.trans (hb9.mono HWB.out))
     have HS9:Hid (B1≤w9.heap.size):=Lib.hid (Nat.le_trans HSZ.out hg9.size)
     clear hown9 hb9 hg9 ho9 HO7 HO8 HB8 HN8 HSZ
     go_wp2
     go_roundw
     case rel=>exact ⟨k+1,l ++ [(s1,g1)],by omega,by go_num,by rw [List.length_append];simp;omega,Lib.hid (by rw [HTK.out,List.filter_append,← HLE.out];simp [HPY.out,HBR.out]),HO9,HI9,HN9,HB9,HS9⟩
     case measure=>simp [intOf];omega
   ·have h1:¬ (0:Int)<(ys.length:Int):=by omega
    have h2:decide ((0:Int)<(ys.length:Int))=false:=by simpa using h1
    have HPY:Hid (decide (0<(portsK own (0,g1) hs).length)=false):=Lib.hid (by rw [← HYS.out];simpa using h0)
    go_wp2_with (go_at_call 77;refine (anyS_any s1 g1 _).mono ?_;rintro e w6 ⟨rfl,hb6⟩;have HB6:=Lib.hid (HBa.out.trans (hb6.mono HBa.out.size));have HN6:=Lib.hid (below_next HNa.out hb6);have hlk6:=HLO.out w6 HB6.out;clear hb6)
    go_roundw
    case rel=>exact ⟨k+1,l,by omega,by go_num,by omega,Lib.hid (by rw [HTK.out,List.filter_append,← HLE.out];simp [HPY.out]),Lib.hid (own_nextk HO.out HN6.out),Lib.hid (HI.out.next HN6.out),HN,HB6,Lib.hid (Nat.le_trans HBB2.out HN6.out.size)⟩
    case measure=>simp [intOf];omega
  ·obtain rfl:k=S.length:=by omega
   have hd:decide ((S.length:Int)<(S.length:Int))=false:=by simp
   obtain ⟨A9,c9,rfl,_,hr9⟩:=RI.of_own (enc:=CKy) (k:=2) (xs:=ss ++ l) (fun _=>rfl) (by rw [List.length_append];exact HO.out)
   rw [List.length_append] at hr9 ⊢
   have HEQ:Hid (keysS (ss ++ l)=RK):=Lib.hid (by
    rw [HRK.out]
    refine keysS_same fun y=>?_
    rw [List.mem_append,List.mem_append,HPM.out.mem_iff,HKE.out,HLE.out,List.take_length])
   have HUU:∀ y ∈ ss ++ l,UK y:=fun y hy=>by
    rcases List.mem_append.1 hy with h | h
    ·obtain ⟨j,hj⟩:=List.mem_iff_getElem?.1 (HPM.out.mem_iff.1 h)
     rw [List.getElem?_map] at hj
     cases hL:L[j]? with
     | none=>rw [hL] at hj;cases hj
     | some z =>
      rw [hL] at hj
      cases hj
      obtain ⟨e,he⟩:∃ e,es.toList[j]?=some e:=by
       have:=(List.getElem?_eq_some_iff.1 hL).1
       exact ⟨_,List.getElem?_eq_getElem (by rw [Array.length_toList,HKI.out.size];exact this)⟩
      exact (HKI.out.each j e z he hL).2.1
    ·rw [HLE.out] at h
     exact HSU.out y (List.mem_of_mem_take (List.mem_filter.1 h).1)
   have HSO:=Lib.hid (ksort_fr A9 (ss.length+l.length) c9 (ss ++ l) wr hr9 HUU (by have:=HSS.out;have:=HSL.out;omega))
   rw [HEQ.out] at HSO
   clear hr9 HUU
   go_wp2_with (go_at_call 126;refine HSO.out.mono ?_;rintro e w9 ⟨A8,c8,rfl,hri8,hb8,hf8⟩;have HI8:=Lib.hid hri8;have HB8:=Lib.hid (below_next HB.out hb8);have HF8:Hid (∀ a,A8=some a→w.heap.size≤a.block):=Lib.hid (fun a ha=>Nat.le_trans HB.out.size (hf8 a ha));clear hri8 hb8 hf8)
   go_ret
   first | exact ⟨A8,⟨c8,rfl⟩,HI8.out,HB8.out,HF8.out⟩ | exact ⟨A8,c8,rfl,HI8.out,HB8.out,HF8.out⟩
end
end Go.Proofs.YtfidicbknjoafaaGreatDoor
namespace Go.Proofs.YtfidicbknjoafaaGreatDoor
open Go.ChangeShapes Go.WideShapes Go.ChangeAt Go.RowKit Lx Sm Go.Maps
structure PMr where
 p:PRow
 A:Option Addr
 c:Nat
def CRw:PMr→List Value:=fun m=>[.int .i64 m.p.r,.int .i64 m.p.i,.int .i64 m.p.u,.int .u32 m.p.k.1,.int .u32 m.p.k.2,.slice m.A m.p.xs.length m.c]
theorem elemRw:Elem Tryz.prog 75 83 CRw 6 56:=⟨Tryz.underlying75,(by obtain ⟨i,hi,hz,hs,hb⟩:=info_parts (show (Tryz.prog.info? 83).map (fun i=>(i.zero,i.size,i.bytes))=some (some (.agg #[.int .i64 0,.int .i64 0,.int .i64 0,.int .u32 0,.int .u32 0,.slice none 0 0]),6,56) by kernel_rfl);exact ⟨i,_,hi,hz,hs,hb,rfl⟩),fun _=>rfl,fun x u hu=>by simp [CRw] at hu;rcases hu with rfl | rfl | rfl | rfl | rfl | rfl <;> rfl,by omega,by omega⟩
theorem JR.grown {w w':World} {A:Option Addr} {n:Nat} {xs:List Int} {ob:Option Nat} (h:JR w A n xs) (hg:w.grownBy w' ob) (ne:0<n→∀ a,A=some a→some a.block ≠ ob):JR w' A n xs :=
 ⟨h.1,fun hn=>by
  obtain ⟨b,o,e,hlt,hc⟩:=h.2 hn
  refine ⟨b,o,e,Nat.lt_of_lt_of_le hlt hg.size,fun i hi=>?_⟩
  have:=hc i hi
  have hb:=hg.block b hlt (ne hn _ e)
  unfold World.cell? at *
  simp only [hb]
  exact this⟩
theorem out2_any (q:Int) (g:Nat) (A B:Option Addr) (c d:Nat) (l m:List Int) (w:World) (hk:Blk w g 52 #[.slice A l.length c,.slice B m.length d]) (h1:JR w A l.length l) (h2:JR w B m.length m) (h0:0<(l ++ m).length) (hl:l.length≤1000) (hm:m.length≤1000) :
  Calls Tryz.prog 76 #[.int .i64 q,.slice (some ⟨g,0,none⟩) 2 2] w fun e w'=>∃ A' c',e=.returned (.slice A' (outP q l m).length c')∧JR w' A' (outP q l m).length (outP q l m)∧Below w.heap.size w w'∧∀ a,A'=some a→w.heap.size≤a.block:=by
 have hf:flatI [⟨A,l.length,c,l⟩,⟨B,m.length,d,m⟩]=l ++ m:=by simp [flatI]
 have h:=outBut_any q (some ⟨g,0,none⟩) 2 2 [⟨A,l.length,c,l⟩,⟨B,m.length,d,m⟩] w
  ⟨⟨rfl,fun _=>⟨g,0,rfl,hk.lt,fun i x hx j v hv=>by
   match i with
   | 0 =>
    simp at hx;subst hx
    match j with
    | 0=>simp [CSi] at hv;subst hv;exact hk.cell 0
    | j+1=>simp [CSi] at hv
   | 1 =>
    simp at hx;subst hx
    match j with
    | 0=>simp [CSi] at hv;subst hv;exact hk.cell 1
    | j+1=>simp [CSi] at hv
   | i+2=>simp at hx⟩⟩,fun y hy=>by
    rcases List.mem_cons.1 hy with rfl | hy
    ·exact h1
    ·rcases List.mem_cons.1 hy with rfl | hy
     ·exact h2
     ·cases hy⟩ (by omega) (by rw [hf];exact h0) (by rw [hf,List.length_append];omega)
 rw [hf,butI_out] at h
 exact h
theorem rowKeys_some {x:Cfg} {r:Int} {own:List Int} {hs:List (Int × Int × Int)} {k:Int × Int} (h:k ∈ rowKeys x r own hs):0<(portsK own k hs ++ portsK own (0,k.2) hs).length:=by
 unfold rowKeys at h
 rw [keysS_mem,List.mem_append] at h
 rw [List.length_append]
 rcases h with h | h
 ·have:=(heardK_mem).1 h
  have:0<(portsK own k hs).length:=List.length_pos_iff.2 this
  omega
 ·unfold askK at h
  have:=(List.mem_filter.1 h).2
  simp only [Bool.and_eq_true,decide_eq_true_eq] at this
  omega
section
variable {b:Nat} {T:TP} {x x':Cfg} {gs:List Int}
theorem rowKeys_u {w:World} (h:TW w b T x' gs) (k:Alike x x') {r:Int} {own:List Int} {hs:List (Int × Int × Int)} (hu:∀ y ∈ hs,UK y.2) {q:Int × Int} (hq:q ∈ rowKeys x r own hs):UK q:=by
 unfold rowKeys at hq
 rw [keysS_mem,List.mem_append] at hq
 rcases hq with hq | hq
 ·unfold heardK at hq
  obtain ⟨y,hy,rfl⟩:=List.mem_map.1 hq
  exact hu y (List.mem_filter.1 hy).1
 ·unfold askK at hq
  have:=(keysS_mem _ _).1 (List.mem_filter.1 hq).1
  exact sentP_u h q (by rw [show sentP x'=sentP x by unfold sentP;rw [k.s]];exact this)
set_option maxRecDepth 100000 in
set_option maxHeartbeats 8000000 in
theorem rows_al (r:Int) (A:Option Addr) (n c:Nat) (hs:List (Int × Int × Int)) (w wc:World) (M:Cm) (h:TW w b T x' gs) (k:Alike x x') (hc:CW wc M x) (ok:LtOK x) (ok':LtOK x') (hr:RI CHd 3 w A n hs) (hu:∀ y ∈ hs,UK y.2) (hn:n≤100) :
  Calls Tryz.prog 31 #[.pointer (some ⟨T.N,0,none⟩),.int .i64 r,.slice A n c] w fun e w'=>∃ (v:Value) (ms:List PMr),e=.returned v∧w'.ownsRow w.heap.size 83 6 v ms.length (ms.flatMap CRw)∧ms.map PMr.p=rowsP x r (rowF x r) hs∧(∀ m ∈ ms,JR w' m.A m.p.xs.length m.p.xs)∧Below w.heap.size w w':=by
 have HOF:=Lib.hid (of_al r w h k)
 have HTW:=Lib.hid h
 have HWP:=Lib.hid (fun W (hW:Below w.heap.size w W) B m d own (ho:JR W B m own) (hm:m≤1000)=>wports_any A n c hs B m d own W (hr.next hW) hu (by omega) ho hm)
 have HJN:=Lib.hid (fun W (hW:Below w.heap.size w W) own bm F L es clock (hki:KI W F bm L es clock) (hpt:PT own hs L)=>join_al r own hs bm F L es clock W wc M hki hpt (by have:=hr.len;omega) (h.next hW) k hc ok ok')
 have HTO:=Lib.hid (fun W (hW:Below w.heap.size w W) p (hp:UK p)=>tow_al r p hp W wc M (h.next hW) k hc ok)
 have HUQ:=Lib.hid (fun own q (hq:q ∈ rowKeys x r own hs)=>rowKeys_u h k hu hq)
 have HOL:Hid ((rowF x r).length≤1000):=Lib.hid (by
  rw [rowF_all ok.po r]
  have:=picks_len (fun y:Int × Int × Int=>y.1 == r) x.ps x.ps.length
  have:=ok.pl
  omega)
 have HHL:Hid (hs.length≤100):=Lib.hid (by have:=hr.len;omega)
 have HRP:Hid (rowsP x r (rowF x r) hs=(rowKeys x r (rowF x r) hs).map (rowK x r (rowF x r) hs)):=Lib.hid rfl
 have HKL:Hid ((rowKeys x r (rowF x r) hs).length≤1000):=Lib.hid (by
  unfold rowKeys
  have h1:=keysS_len (heardK (rowF x r) hs ++ askK x r (rowF x r) hs)
  rw [List.length_append] at h1
  have h2:(heardK (rowF x r) hs).length≤hs.length:=by unfold heardK;rw [List.length_map];exact List.length_filter_le _ _
  have h3:(askK x r (rowF x r) hs).length≤5:=by
   unfold askK
   refine Nat.le_trans (List.length_filter_le _ _) ?_
   have:=keysS_len (sentP x)
   rw [sentP_len] at this
   have:=ok.sl
   omega
  have:=hr.len
  omega)
 clear HTW
 have HH0:=Lib.hid (And.intro hr hu)
 generalize rowF x r=own at *
 have HSM:Hid (∀ q,q ∈ rowKeys x r own hs→0<(portsK own q hs ++ portsK own (0,q.2) hs).length):=Lib.hid (fun q hq=>rowKeys_some hq)
 have HUQ2:=Lib.hid (fun q (hq:q ∈ rowKeys x r own hs)=>HUQ.out own q hq)
 clear HUQ
 go_enter Tryz.func31,Tryz.ntmps31
 go_upto_region 2 with (first
  | (go_at_call 47;refine HOF.out.mono ?_;rintro e w1 ⟨Ao,co,rfl,hjo,hb1⟩;have HB1:=Lib.hid hb1;have HW1:=Lib.hid (HWP.out w1 hb1 Ao own.length co own hjo HOL.out);clear hjo hb1)
  | (go_at_call 73;refine HW1.out.mono ?_;rintro e w2 ⟨bm,F,L,es,clock,rfl,hki,hfr,hpt,hb2⟩;have HB2:=Lib.hid (HB1.out.trans (hb2.mono HB1.out.size));have HKI:=Lib.hid hki;have HPT:=Lib.hid hpt;clear hki hfr hpt hb2))
 clear HOF HWP HW1
 have HJ2:=Lib.hid (HJN.out w2 HB2.out own bm F L es clock HKI.out HPT.out)
 have HBM:Hid (bm<w2.heap.size):=Lib.hid (Array.getElem?_eq_some_iff.1 HKI.out.block).1
 clear HJN
 generalize hRK:rowKeys x r own hs=RK at *
 clear hRK
 go_upto_region 4 with (go_at_call 74;refine HJ2.out.mono ?_;rintro e w3 ⟨A3,c3,rfl,hri3,hb3,hfr⟩;have HI3:=Lib.hid hri3;have HB3:=Lib.hid (HB2.out.trans (hb3.mono HB2.out.size));have HN3:=Lib.hid hb3;clear hri3 hb3 hfr)
 clear HJ2
 go_loopw [8,24] (fun sv iv wr=>∃ (k:Nat) (ms:List PMr),k≤RK.length∧iv=.int .i64 (k:Int)∧ms.length=k∧Hid (ms.map PMr.p=(RK.take k).map (rowK x r own hs))∧Hid (wr.ownsRow w3.heap.size 83 6 sv k (ms.flatMap CRw))∧Hid (∀ m ∈ ms,JR wr m.A m.p.xs.length m.p.xs)∧Hid (∀ g,sv.ownBlock=some g→∀ m ∈ ms,0<m.p.xs.length→∀ a,m.A=some a→a.block ≠ g)∧Hid (Below w3.heap.size w3 wr)) (fun _ iv _=>RK.length - (intOf iv).toNat)
 case atStart=>exact ⟨0,[],Nat.zero_le _,rfl,rfl,Lib.hid rfl,Lib.hid (World.ownsRow_nil _ _ _ _),Lib.hid (fun m hm=>by cases hm),Lib.hid (fun g hg=>by simp [Value.ownBlock] at hg),Lib.hid (Below.refl _ _)⟩
 case round =>
  obtain ⟨k,ms,hk,rfl,hml,HMS,HO,HJ,HN,HB⟩:=hrel
  generalize u8=v8 at *
  rcases Nat.lt_or_ge k RK.length with hlt | hge
  ·have hi0:(k:Int)<(RK.length:Int):=by omega
   have hrl:=HKL.out
   obtain ⟨b5,o5,⟨s1,g1⟩,e5,hbl,hx,hcl⟩:=(HI3.out.next HB.out).at_ hlt
   have t0:wr.cell? ⟨b5,o5+k*2,none⟩=some (.int .u32 s1):=hcl 0 _ rfl
   have t1:wr.cell? ⟨b5,o5+k*2+1,none⟩=some (.int .u32 g1):=hcl 1 _ rfl
   have hmem:=List.mem_of_getElem? hx
   have HUK:=Lib.hid (HUQ2.out (s1,g1) hmem)
   have HNZ:Hid (0<(portsK own (s1,g1) hs ++ portsK own (0,g1) hs).length):=Lib.hid (HSM.out (s1,g1) hmem)
   have HTK:Hid (RK.take (k+1)=RK.take k ++ [(s1,g1)]):=Lib.hid (by rw [List.take_add_one,hx];rfl)
   have HLP:Hid ((portsK own (s1,g1) hs).length≤1000∧(portsK own (0,g1) hs).length≤1000):=Lib.hid (by
    have h1:=portsK_len own (s1,g1) hs
    have h2:=portsK_len own (0,g1) hs
    have:=HHL.out
    omega)
   clear hmem
   have HBw:=Lib.hid (below_next HN3.out HB.out)
   obtain ⟨vr,ys,_,hys,hlo,hown,_⟩:=HKI.out.look (p:=(s1,g1)) HUK.out
   rw [HPT.out.val] at hys
   subst hys
   obtain ⟨Ar,cr,rfl,hj1⟩:=own_jr hown
   obtain ⟨vs,zs,_,hzs,hlo2,hown2,_⟩:=HKI.out.look (p:=(0,g1)) ⟨⟨by omega,by omega⟩,HUK.out.2⟩
   rw [HPT.out.val] at hzs
   subst hzs
   obtain ⟨As,cs,rfl,hj2⟩:=own_jr hown2
   have HL1:=Lib.hid (fun W (hW:Below wr.heap.size wr W)=>(show (Instr.lookup 150 (.map (some bm)) (.agg #[.int .u32 s1,.int .u32 g1]) false).run Tryz.prog W=.ok (.slice Ar (portsK own (s1,g1) hs).length cr) W from hlo W ((below_next HBw.out hW).block bm HBM.out)))
   have HL2:=Lib.hid (fun W (hW:Below wr.heap.size wr W)=>(show (Instr.lookup 150 (.map (some bm)) (.agg #[.int .u32 0,.int .u32 g1]) false).run Tryz.prog W=.ok (.slice As (portsK own (0,g1) hs).length cs) W from hlo2 W ((below_next HBw.out hW).block bm HBM.out)))
   have HJ1:=Lib.hid (fun W (hW:Below wr.heap.size wr W)=>hj1.next (below_next HBw.out hW))
   have HJ2:=Lib.hid (fun W (hW:Below wr.heap.size wr W)=>hj2.next (below_next HBw.out hW))
   have HT1:=Lib.hid (fun W (hW:Below wr.heap.size wr W)=>HTO.out W (HB2.out.trans ((below_next HBw.out hW).mono HB2.out.size)) (s1,g1) HUK.out)
   have HNa:=Lib.hid ((Below.refl wr.heap.size wr).alloc (Nat.le_refl _) (.cells #[.int .u32 s1,.int .u32 g1] 57))
   have HKa:=Lib.hid (Blk.new wr 57 #[.int .u32 s1,.int .u32 g1])
   have HRW:Hid (rowK x r own hs (s1,g1)=⟨r,(inUp x r (s1,g1)).1,(inUp x r (s1,g1)).2,(s1,g1),outP (inUp x r (s1,g1)).1 (portsK own (s1,g1) hs) (portsK own (0,g1) hs)⟩):=Lib.hid rfl
   subst e5
   clear hx hcl hlo hlo2 hown hown2 hj1 hj2 hbl
   go_upto_region 6 with fail
   clear t0 t1
   generalize wr.alloc (.cells #[.int .u32 s1,.int .u32 g1] 57)=Wa at *
   generalize hNk:wr.heap.size=Nk at HKa ⊢
   have q0:Wa.cell? ⟨Nk,0,none⟩=some (.int .u32 s1):=HKa.out.cell 0
   have q1:Wa.cell? ⟨Nk,1,none⟩=some (.int .u32 g1):=HKa.out.cell 1
   have HNK:=Lib.hid hNk
   clear hNk
   have HTa:=Lib.hid (HT1.out Wa HNa.out)
   go_upto_region 7 with (go_at_call 75;refine HTa.out.mono ?_;rintro e W7 ⟨rfl,hb7⟩;have HB7:=Lib.hid (below_next HNa.out hb7);have HKb:=Lib.hid (HKa.out.next hb7);clear hb7)
   clear q0 q1 HTa
   have HK7:=Lib.hid (fun W (hW:Below W7.heap.size W7 W)=>(show W.cell? ⟨Nk,0,none⟩=some (.int .u32 s1)∧W.cell? ⟨Nk,1,none⟩=some (.int .u32 g1) from ⟨(HKb.out.next hW).cell 0,(HKb.out.next hW).cell 1⟩))
   refine wp_region_held_drew (S:=fun _=>True) (by kernel_rfl) trivial (fun _=>?_)
   refine wpAnyH_each (md:=.any) (m:=0) (rem:=[0,1,2,3,4,5,6,7,8,9,10]) (tail:=[]) (deps:=fun i=>match i with | 3=>[1,2] | 6=>[5] | 7=>[4,6] | 8=>[3,7] | 9=>[0,8] | 10=>[9] | _=>[]) (fun _ W=>Below W7.heap.size W7 W) (fun _ w _ w'=>Below w.heap.size w w')
    (fun ix ds v W=>match ix with | 0=>v=.int .i64 (inUp x r (s1,g1)).1 | 1=>v=.map (some bm) | 2=>v=.agg #[.int .u32 s1,.int .u32 g1] | 3=>v=.slice Ar (portsK own (s1,g1) hs).length cr | 4=>v=.map (some bm) | 5=>v=.agg #[.int .u32 s1,.int .u32 g1] | 6=>v=.agg #[.int .u32 0,.int .u32 g1] | 7=>v=.slice As (portsK own (0,g1) hs).length cs | 8=>∃ g,v=.slice (some ⟨g,0,none⟩) 2 2∧Blk W g 52 #[.slice Ar (portsK own (s1,g1) hs).length cr,.slice As (portsK own (0,g1) hs).length cs] | 9=>∃ A' c',v=.slice A' (outP (inUp x r (s1,g1)).1 (portsK own (s1,g1) hs) (portsK own (0,g1) hs)).length c'∧JR W A' (outP (inUp x r (s1,g1)).1 (portsK own (s1,g1) hs) (portsK own (0,g1) hs)).length (outP (inUp x r (s1,g1)).1 (portsK own (s1,g1) hs) (portsK own (0,g1) hs))∧∀ a,A'=some a→W7.heap.size≤a.block | 10=>∃ A' c',v=.slice A' (outP (inUp x r (s1,g1)).1 (portsK own (s1,g1) hs) (portsK own (0,g1) hs)).length c'∧JR W A' (outP (inUp x r (s1,g1)).1 (portsK own (s1,g1) hs) (portsK own (0,g1) hs)).length (outP (inUp x r (s1,g1)).1 (portsK own (s1,g1) hs) (portsK own (0,g1) hs))∧∀ a,A'=some a→W7.heap.size≤a.block | _=>True) (eachB_spec (by kernel_rfl)) (fun _ _ _ _ _ _ _ h k=>below_next h k) (fun _ _ _=>trivial) ?_ (fun _ _ _ _=>True) (fun _ _ _ _ _ _ _ _ _ _ _ _ _ _=>⟨trivial,trivial⟩) ?_ ?_ (Below.refl _ _).drew
   ·intro i hi j _ hij hjd ds v u l W W' _ _ hk h
    simp only [List.mem_cons,List.not_mem_nil,or_false] at hi
    rcases hi with rfl | rfl | rfl | rfl | rfl | rfl | rfl | rfl | rfl | rfl | rfl
    ·exact h
    ·exact h
    ·exact h
    ·exact h
    ·exact h
    ·exact h
    ·exact h
    ·exact h
    ·obtain ⟨g,e,h2⟩:=h;exact ⟨g,e,h2.next hk⟩
    ·obtain ⟨A',c',e,h1,h2⟩:=h;exact ⟨A',c',e,h1.next hk,h2⟩
    ·obtain ⟨A',c',e,h1,h2⟩:=h;exact ⟨A',c',e,h1.next hk,h2⟩
   ·refine AllO.cons [] rfl rfl (fun vs l W hl hT hd=>?_) ?_
    ·dsimp only [lay,List.foldl,List.map,dstOf]
     go_wp2
     exact ⟨rfl,_,rfl,Below.refl _ _,rfl⟩
    refine AllO.cons [] rfl rfl (fun vs l W hl hT hd=>?_) ?_
    ·dsimp only [lay,List.foldl,List.map,dstOf]
     go_wp2
     exact ⟨rfl,_,rfl,Below.refl _ _,rfl⟩
    refine AllO.cons [] rfl rfl (fun vs l W hl hT hd=>?_) ?_
    ·have f0:=(HK7.out W hT).1
     have f1:=(HK7.out W hT).2
     dsimp only [lay,List.foldl,List.map,dstOf]
     go_wp2
     exact ⟨rfl,_,rfl,Below.refl _ _,rfl⟩
    refine AllO.cons [1,2] rfl rfl (fun vs l W hl hT hd=>?_) ?_
    ·have e1:vs 1=.map (some bm):=hd 1 (by simp)
     have e2:vs 2=.agg #[.int .u32 s1,.int .u32 g1]:=hd 2 (by simp)
     have f0:=HL1.out W (below_next HB7.out hT)
     dsimp only [lay,List.foldl,List.map,dstOf]
     rw [e1,e2]
     go_wp2
     exact ⟨rfl,_,rfl,Below.refl _ _,rfl⟩
    refine AllO.cons [] rfl rfl (fun vs l W hl hT hd=>?_) ?_
    ·dsimp only [lay,List.foldl,List.map,dstOf]
     go_wp2
     exact ⟨rfl,_,rfl,Below.refl _ _,rfl⟩
    refine AllO.cons [] rfl rfl (fun vs l W hl hT hd=>?_) ?_
    ·have f0:=(HK7.out W hT).1
     have f1:=(HK7.out W hT).2
     dsimp only [lay,List.foldl,List.map,dstOf]
     go_wp2
     exact ⟨rfl,_,rfl,Below.refl _ _,rfl⟩
    refine AllO.cons [5] rfl rfl (fun vs l W hl hT hd=>?_) ?_
    ·have e5:vs 5=.agg #[.int .u32 s1,.int .u32 g1]:=hd 5 (by simp)
     have hC:=Lib.hid (anyS_any s1 g1 W)
     dsimp only [lay,List.foldl,List.map,dstOf]
     rw [e5]
     go_wp2_with (go_at_call 77;refine hC.out.mono ?_;rintro e w1 ⟨rfl,hb1⟩)
     exact ⟨rfl,_,(by first | rfl | (simp [Act.put];omega)),hb1,rfl⟩
    refine AllO.cons [4,6] rfl rfl (fun vs l W hl hT hd=>?_) ?_
    ·have e4:vs 4=.map (some bm):=hd 4 (by simp)
     have e6:vs 6=.agg #[.int .u32 0,.int .u32 g1]:=hd 6 (by simp)
     have f0:=HL2.out W (below_next HB7.out hT)
     dsimp only [lay,List.foldl,List.map,dstOf]
     rw [e4,e6]
     go_wp2
     exact ⟨rfl,_,rfl,Below.refl _ _,rfl⟩
    refine AllO.cons [3,7] rfl rfl (fun vs l W hl hT hd=>?_) ?_
    ·have e3:vs 3=.slice Ar (portsK own (s1,g1) hs).length cr:=hd 3 (by simp)
     have e7:vs 7=.slice As (portsK own (0,g1) hs).length cs:=hd 7 (by simp)
     dsimp only [lay,List.foldl,List.map,dstOf]
     rw [e3,e7]
     go_wp2
     exact ⟨rfl,_,rfl,(Below.refl _ _).alloc (Nat.le_refl _) _,_,rfl,Blk.new _ _ _⟩
    refine AllO.cons [0,8] rfl rfl (fun vs l W hl hT hd=>?_) ?_
    ·have e0:vs 0=.int .i64 (inUp x r (s1,g1)).1:=hd 0 (by simp)
     obtain ⟨g8,e8,hk8⟩:=hd 8 (by simp)
     have hC:=Lib.hid (out2_any (inUp x r (s1,g1)).1 g8 Ar As cr cs (portsK own (s1,g1) hs) (portsK own (0,g1) hs) W hk8 (HJ1.out W (below_next HB7.out hT)) (HJ2.out W (below_next HB7.out hT)) HNZ.out HLP.out.1 HLP.out.2)
     dsimp only [lay,List.foldl,List.map,dstOf]
     rw [e0,e8]
     go_wp2_with (go_at_call 76;refine hC.out.mono ?_;rintro e w1 ⟨A',c',rfl,hj',hb1,hf'⟩)
     exact ⟨rfl,_,rfl,hb1,_,_,rfl,hj',fun a ha=>Nat.le_trans hT.size (hf' a ha)⟩
    refine AllO.cons [9] rfl rfl (fun vs l W hl hT hd=>?_) AllO.nil
    ·obtain ⟨A9,c9,e9,hj9,hf9⟩:=hd 9 (by simp)
     dsimp only [lay,List.foldl,List.map,dstOf]
     rw [e9]
     go_wp2
     first | exact ⟨rfl,_,rfl,Below.refl _ _,_,_,rfl,hj9,hf9⟩ | exact ⟨rfl,_,rfl,Below.refl _ _,_,⟨_,rfl⟩,hj9,hf9⟩ | exact ⟨rfl,_,rfl,Below.refl _ _,A9,⟨rfl,rfl⟩,hj9,hf9⟩
   ·intro vs l W hall hT hF _ aE LE ha hL
    have e0:vs 0=.int .i64 (inUp x r (s1,g1)).1:=hF 0 (by simp)
    have e1:vs 1=.map (some bm):=hF 1 (by simp)
    have e2:vs 2=.agg #[.int .u32 s1,.int .u32 g1]:=hF 2 (by simp)
    have e3:vs 3=.slice Ar (portsK own (s1,g1) hs).length cr:=hF 3 (by simp)
    have e4:vs 4=.map (some bm):=hF 4 (by simp)
    have e5:vs 5=.agg #[.int .u32 s1,.int .u32 g1]:=hF 5 (by simp)
    have e6:vs 6=.agg #[.int .u32 0,.int .u32 g1]:=hF 6 (by simp)
    have e7:vs 7=.slice As (portsK own (0,g1) hs).length cs:=hF 7 (by simp)
    obtain ⟨g8,e8,hk8⟩:=hF 8 (by simp)
    obtain ⟨A9,c9,e9,hj9,hf9⟩:=hF 9 (by simp)
    obtain ⟨A10,c10,e10,hj10,hf10⟩:=hF 10 (by simp)
    have hL':LE=#[true,true,true,true,true,true,true,true,true,true,true]:=hL.trans (by kernel_rfl)
    dsimp only [lay,List.foldl,dstOf] at ha
    rw [e0,e1,e2,e3,e4,e5,e6,e7,e8,e9,e10] at ha
    clear e0 e1 e2 e3 e4 e5 e6 e7 e8 e9 e10 hL hF
    subst ha hL'
    refine wpAnyH_done (by kernel_rfl) ?_ _
    have HB9:=Lib.hid (below_next HB7.out hT)
    have HJ9:=Lib.hid hj10
    have HF9:=Lib.hid hf10
    have HK9:=Lib.hid (HK7.out W hT)
    generalize W=W9 at *
    clear hall hT hj9 hf9 hk8 hj10 hf10
    have q0:W9.cell? ⟨Nk,0,none⟩=some (.int .u32 s1):=HK9.out.1
    have q1:W9.cell? ⟨Nk,1,none⟩=some (.int .u32 g1):=HK9.out.2
    have HO9:=Lib.hid (own_nextk HO.out HB9.out)
    have HRR:Hid (PMr.p ⟨rowK x r own hs (s1,g1),A10,c10⟩=rowK x r own hs (s1,g1)):=Lib.hid rfl
    have hml2:ms.length≤1000:=by omega
    have HSZ:Hid (w3.heap.size≤W9.heap.size):=Lib.hid (Nat.le_trans HB.out.size HB9.out.size)
    have HNB9:Hid (∀ g,v8.ownBlock=some g→g<W7.heap.size):=Lib.hid (fun g hg=>Nat.lt_of_lt_of_le (HO.out.lt g hg).2 HB7.out.size)
    generalize inUp x r (s1,g1)=IU at *
    obtain ⟨iu1,iu2⟩:=IU
    dsimp only at HRW HJ9
    generalize outP iu1 (portsK own (s1,g1) hs) (portsK own (0,g1) hs)=O9 at *
    have HOL2:=Lib.hid (HO9.out.alloc (.cells #[.int .i64 r,.int .i64 iu1,.int .i64 iu2,.int .u32 s1,.int .u32 g1,.slice A10 O9.length c10] 83))
    have HAL2:=Lib.hid ((Below.refl W9.heap.size W9).alloc (Nat.le_refl _) (.cells #[.int .i64 r,.int .i64 iu1,.int .i64 iu2,.int .u32 s1,.int .u32 g1,.slice A10 O9.length c10] 83))
    go_wp2_with (at_builtin;refine wpList_itemsF elemRw rfl _ _ rfl w3.heap.size v8 k ms rfl HOL2.out _ 1 1 [⟨⟨r,iu1,iu2,(s1,g1),O9⟩,A10,c10⟩] rfl (RI.new _ _ (⟨⟨r,iu1,iu2,(s1,g1),O9⟩,A10,c10⟩:PMr) (by simp) rfl) (by omega) (by omega) (Nat.le_trans HSZ.out HAL2.out.size) ?_;intro v10 w10 hown10 hb10 hg10 ho10)
    have HJA:Hid (∀ m ∈ ms ++ [(⟨⟨r,iu1,iu2,(s1,g1),O9⟩,A10,c10⟩:PMr)],JR w10 m.A m.p.xs.length m.p.xs):=Lib.hid (fun m hm=>by
     rcases List.mem_append.1 hm with hm | hm
     ·exact ((HJ.out m hm).next (below_next HB9.out HAL2.out)).grown hg10 (fun h0 a ha e=>HN.out _ e.symm m hm h0 a ha rfl)
     ·obtain rfl:=List.mem_singleton.1 hm
      exact (HJ9.out.next HAL2.out).grown hg10 (fun h0 a ha e=>by have:=HNB9.out _ e.symm;have:=HF9.out a ha;omega))
    have HNA:Hid (∀ g,v10.ownBlock=some g→∀ m ∈ ms ++ [(⟨⟨r,iu1,iu2,(s1,g1),O9⟩,A10,c10⟩:PMr)],0<m.p.xs.length→∀ a,m.A=some a→a.block ≠ g):=Lib.hid (fun g hg m hm h0 a ha e=>by
     rcases ho10 with ho | ho
     ·rw [ho] at hg
      rcases List.mem_append.1 hm with hm | hm
      ·exact HN.out g hg m hm h0 a ha e
      ·obtain rfl:=List.mem_singleton.1 hm
       have:=HNB9.out g hg;have:=HF9.out a ha;omega
     ·rw [ho] at hg
      cases hg
      have hlt9:a.block<W9.heap.size:=by
       rcases List.mem_append.1 hm with hm | hm
       ·obtain ⟨bq,oq,eq,hq,_⟩:=(HJ.out m hm).2 h0
        rw [ha] at eq;cases eq
        exact Nat.lt_of_lt_of_le hq HB9.out.size
       ·obtain rfl:=List.mem_singleton.1 hm
        obtain ⟨bq,oq,eq,hq,_⟩:=HJ9.out.2 h0
        have ha':A10=some a:=ha
        rw [ha'] at eq;cases eq
        exact hq
      have:=HAL2.out.size
      omega)
    have HOA:Hid (w10.ownsRow w3.heap.size 83 6 v10 (k+1) ((ms ++ [(⟨⟨r,iu1,iu2,(s1,g1),O9⟩,A10,c10⟩:PMr)]).flatMap CRw)):=Lib.hid hown10
    have HBA:=Lib.hid ((HB.out.trans ((below_next HB9.out HAL2.out).mono HB.out.size)).trans hb10)
    have HMA:Hid ((ms ++ [(⟨⟨r,iu1,iu2,(s1,g1),O9⟩,A10,c10⟩:PMr)]).map PMr.p=(RK.take (k+1)).map (rowK x r own hs)):=Lib.hid (by rw [HTK.out,List.map_append,List.map_append,HMS.out];simp [HRW.out])
    clear hown10 hb10 hg10 ho10 HJ9 HF9 HO9 HOL2 HAL2
    go_wp2
    go_roundw
    case rel=>exact ⟨k+1,_,hlt,by go_num,by rw [List.length_append];simp;omega,HMA,HOA,HJA,HNA,HBA⟩
    case measure=>simp [intOf];omega
  ·obtain rfl:k=RK.length:=by omega
   have hd:decide ((RK.length:Int)<(RK.length:Int))=false:=by simp
   go_wp2
   go_ret
   refine ⟨v8,ms,rfl,?_,?_,HJ.out,HB3.out.trans (HB.out.mono HB3.out.size)⟩
   ·rw [hml];exact ownk_up HO.out HB3.out.size
   ·rw [HMS.out,List.take_length];exact HRP.out.symm
end
end Go.Proofs.YtfidicbknjoafaaGreatDoor
namespace Go.Proofs.YtfidicbknjoafaaGreatDoor
open Go.RowKit Lx Sm Go.Maps Go.Sort Go.Shelf
theorem grp_or (n:Nat) (hn:n<65536):bits BinOp.or IntKind.u32 3758161920 (n:Int)=3758161920+(n:Int):=by
 rw [Ad.or_join 3758161920 (n:Int) 16 (by omega) (by omega) (by decide) (by omega) (by omega) (by omega)]
theorem ngroup_any (n:Nat) (hn:n<65536) (w:World):Calls Tryz.prog 45 #[.int .i64 (n:Int)] w fun e w'=>e=.returned (.int .u32 (3758161920+(n:Int)))∧w=w':=by
 have HG:=Lib.hid (grp_or n hn)
 go_enter Tryz.func45,Tryz.ntmps45
 go_wp2
 go_ret
 exact ⟨by rw [← HG.out];rfl,rfl⟩
end Go.Proofs.YtfidicbknjoafaaGreatDoor
namespace Go.Proofs.YtfidicbknjoafaaGreatDoor
open Go.RowKit Lx Sm Go.Maps
theorem oth_get {ps:List (Int × Int × Int)} {r l:Int} {j:Nat}:((j:Int) ∈ oth ps r l) ↔ ∃ y,ps[j]?=some y∧y.2.1=l∧y.1 ≠ r:=by
 unfold oth isO
 rw [List.mem_filter,picks_get,Int.toNat_natCast]
 constructor
 ·rintro ⟨⟨hj,y,hy,hp⟩,hq⟩
  rw [hy] at hq
  exact ⟨y,hy,by simpa using hp,by simpa using hq⟩
 ·rintro ⟨y,hy,hp,hq⟩
  rw [hy]
  exact ⟨⟨(List.getElem?_eq_some_iff.1 hy).1,y,rfl,by simpa using hp⟩,by simpa using hq⟩
section
variable {b:Nat} {T:TP} {x x':Cfg} {gs:List Int}
end
end Go.Proofs.YtfidicbknjoafaaGreatDoor
