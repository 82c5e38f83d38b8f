/- An argument that is a slice of bytes, opened: nil or not, in one word. -/
import Derived.Test.YtfidicbknjoafaaGreatDoorQTnb
import Derived.Test.YtfidicbknjoafaaGreatDoorQShw
import Derived.OpenShut
import Derived.ShapedOpen
import Derived.Deep.Cut
import Derived.Test.YtfidicbknjoafaaGreatDoorQName
import Derived.Test.YtfidicbknjoafaaGreatDoorRows
import Derived.Stop.LaidErr
import Derived.ProofKit
import Derived.Test.YtfidicbknjoafaaGreatDoorQAs
namespace Go.Proofs.YtfidicbknjoafaaGreatDoor
open Go.ChangeShapes Go.WideShapes Go.ChangeAt Go.RowKit Lx Sm Go.Maps
theorem lt_line2:LtOK (lineCfg 2 0):=⟨line_valid ⟨2,by omega⟩,by decide,by decide,by decide,by decide,by decide,by decide,by decide,line_rn 2 0,line_ln 2 0,line_ports 2 0,fun y hy=>(by cases hy),fun y hy=>(by cases hy)⟩
theorem rows_none (x:Cfg) (r:Int) (own:List Int):rowsP x r own []=[]:=by
 have h:rowKeys x r own []=[]:=by
  refine List.eq_nil_iff_forall_not_mem.2 fun q hq=>?_
  have:=rowKeys_some hq
  simp [portsK] at this
 unfold rowsP;rw [h];rfl
theorem want_first0:((rowsP (lineCfg 2 0) 1 (rowF (lineCfg 2 0) 1) [(3,0,3758161921)]).map fun p=>(p.r,p.i,p.u,p.k,p.xs))=[(1,2,1,(0,3758161921),[3])]:=by decide +kernel
theorem want_first:rowsP (lineCfg 2 0) 1 (rowF (lineCfg 2 0) 1) [(3,0,3758161921)]=[⟨1,2,1,(0,3758161921),[3]⟩]:=by
 have h:=congrArg (List.map fun q:Int × Int × Int × (Int × Int) × List Int=>(⟨q.1,q.2.1,q.2.2.1,q.2.2.2.1,q.2.2.2.2⟩:PRow)) want_first0
 rw [List.map_map] at h
 have e:(fun q:Int × Int × Int × (Int × Int) × List Int=>(⟨q.1,q.2.1,q.2.2.1,q.2.2.2.1,q.2.2.2.2⟩:PRow)) ∘ (fun p:PRow=>(p.r,p.i,p.u,p.k,p.xs))=id:=rfl
 rw [e,List.map_id] at h
 exact h
set_option maxRecDepth 100000 in
set_option maxHeartbeats 4000000 in
theorem first17_any (ads:List Addr) (w:World) (hE:EnvC ads w) :
  Calls Tryz.prog 30 #[] w fun e w'=>e=.returned (.bool true)∧Below w.heap.size w w':=by
 have HE:=Lib.hid hE
 have HL:=Lib.hid fun W=>line_any 2 0 (by decide) (by decide) W
 have HG:=Lib.hid fun W=>ngroup_any 1 (by decide) W
 clear hE
 go_enter Tryz.func30,Tryz.ntmps30
 go_upto_region 2 with (first
  | (go_at_call 43;refine (HL.out _).mono ?_;rintro e w1 ⟨M,rfl,hcw,hb1⟩;have HCW:=Lib.hid hcw;have HN:=Lib.hid (new_ok ads M (lineCfg 2 0) [] w1 (HE.out.below hb1) hcw (line_valid ⟨2,by omega⟩) (line_rn 2 0) (line_ln 2 0) (fun W _=>groups0_any M W hcw.s.len.symm hcw.m.len.symm) (line_ports 2 0) (fun y hy=>(by cases hy)));have HB1:=Lib.hid hb1;clear hcw hb1)
  | (go_at_call 12;refine HN.out.mono ?_;rintro e w2 ⟨T,x',rfl,hT,hal,hb2⟩;have HT:=Lib.hid hT;have HAL:=Lib.hid hal;have HB2:=Lib.hid (below_next HB1.out hb2);clear hT hal hb2))
 have HOK':=Lib.hid (lt_line2.alike HAL.out (by rw [vcode_alike HAL.out];exact lt_line2.v))
 have HR0:=Lib.hid (fun W (hW:Below w2.heap.size w2 W)=>rows_al 0 none 0 0 [] W w1 M (HT.out.next hW) HAL.out HCW.out lt_line2 HOK'.out (RI.none_ _ _ _ _) (fun y hy=>(by cases hy)) (by decide))
 have HR1:=Lib.hid (fun W (hW:Below w2.heap.size w2 W) g (hg:RI CHd 3 W (some ⟨g,0,none⟩) 1 [(3,0,3758161921)])=>rows_al 1 (some ⟨g,0,none⟩) 1 1 [(3,0,3758161921)] W w1 M (HT.out.next hW) HAL.out HCW.out lt_line2 HOK'.out hg (fun y hy=>by
  obtain rfl:=List.mem_singleton.1 hy
  exact ⟨⟨by decide,by decide⟩,⟨by decide,by decide⟩⟩) (by decide))
 rw [rows_none] at HR0
 rw [want_first] at HR1
 go_upto_region 4 with (go_at_call 31;refine (HR0.out _ (Below.refl _ _)).mono ?_;rintro e w3 ⟨v3,ms,rfl,hown,hmp,_,hb3⟩;obtain rfl:ms=[]:=List.map_eq_nil_iff.1 hmp;obtain ⟨A3,c3,rfl,_⟩:=RI.of_own (enc:=CRw) (k:=6) (xs:=[]) (fun _=>rfl) hown;have HB3:=Lib.hid hb3;clear hown hmp hb3)
 clear HR0
 have HB4:=Lib.hid ((HB3.out.mono (Nat.le_refl _)).alloc HB3.out.size (.cells #[.int .i64 3,.int .u32 0,.int .u32 3758161921] 89))
 have HRI4:=Lib.hid (RI.new (enc:=CHd) (k:=3) w3 89 (3,0,3758161921) rfl rfl)
 go_upto_region 5 with (first
  | (go_at_call 45;refine (HG.out _).mono ?_;rintro e w4 ⟨rfl,rfl⟩)
  | (go_at_call 31;refine (HR1.out _ HB4.out _ HRI4.out).mono ?_;rintro e w5 ⟨v5,ms,rfl,hown,hmp,hjr,hb5⟩;have HO5:=Lib.hid hown;have HMP:=Lib.hid hmp;have HJR:=Lib.hid hjr;have HB5:=Lib.hid (below_next HB4.out hb5);clear hown hmp hjr hb5))
 clear HR1
 obtain ⟨m,rfl⟩:∃ m,ms=[m]:=by
  have:=congrArg List.length HMP.out
  simp at this
  exact List.length_eq_one_iff.1 this
 have hp:m.p=⟨1,2,1,(0,3758161921),[3]⟩:=by have:=HMP.out;simpa using this
 obtain ⟨A5,c5,rfl,_,hr5⟩:=RI.of_own (enc:=CRw) (k:=6) (xs:=[m]) (fun _=>rfl) HO5.out
 obtain ⟨b5,o5,y,e5,_,hy,hc⟩:=hr5.at_ (i:=0) (by simp)
 obtain rfl:m=y:=by simpa using hy
 have c1:=hc 1 _ rfl
 have c2:=hc 2 _ rfl
 have c5':=hc 5 _ rfl
 have HJ:=Lib.hid (HJR.out m (List.mem_singleton.2 rfl))
 rw [hp] at c1 c2 c5' HJ
 dsimp only at c1 c2 c5' HJ
 have e5':A5=some ⟨b5,o5,none⟩:=e5
 subst e5'
 simp only [Nat.zero_mul,Nat.add_zero] at c1 c2 c5'
 have HSM:=Lib.hid (jsame_self m.A (some ⟨w5.heap.size,0,none⟩) 1 1 m.c 1 [3] (w5.alloc (.cells #[.int .i64 3] 3)) (HJ.out.next ((Below.refl _ _).alloc (Nat.le_refl _) _)) (jr_one w5 3 _) (by decide))
 clear hc hr5 hy e5 hp
 go_wp2_with (go_at_call 17;refine HSM.out.mono ?_;rintro e w6 ⟨rfl,hb6⟩;have HB6:=Lib.hid (HB2.out.trans ((HB5.out.trans (((Below.refl w5.heap.size w5).alloc (Nat.le_refl _) _ |>.trans (hb6.mono (by simp))).mono HB5.out.size)).mono HB2.out.size));clear hb6)
 go_ret
 exact ⟨rfl,HB6.out⟩
def sendL (l:List PRow):List (Int × Int × Int):=(l.filter fun p=>decide (0≤p.u)).map fun p=>(p.u,p.k.1,p.k.2)
theorem sendL_snoc (l:List PRow) (p:PRow):sendL (l ++ [p])=if 0≤p.u then sendL l ++ [(p.u,p.k.1,p.k.2)] else sendL l:=by
 unfold sendL
 rw [List.filter_append,List.map_append]
 by_cases h:0≤p.u
 ·rw [if_pos h];simp [h]
 ·rw [if_neg h];simp [h]
theorem sendL_len (l:List PRow):(sendL l).length≤l.length:=by unfold sendL;rw [List.length_map];exact List.length_filter_le _ _
theorem elemHd:Elem Tryz.prog 74 89 CHd 3 16:=⟨Tryz.underlying74,(by obtain ⟨i,hi,hz,hs,hb⟩:=info_parts (show (Tryz.prog.info? 89).map (fun i=>(i.zero,i.size,i.bytes))=some (some (.agg #[.int .i64 0,.int .u32 0,.int .u32 0]),3,16) by kernel_rfl);exact ⟨i,_,hi,hz,hs,hb,rfl⟩),fun _=>rfl,fun x u hu=>by simp [CHd] at hu;rcases hu with rfl | rfl | rfl <;> rfl,by omega,by omega⟩
set_option maxRecDepth 100000 in
set_option maxHeartbeats 4000000 in
theorem sends_any (v0:Value) (A:Option Addr) (n c:Nat) (ms:List PMr) (w:World) (h:RI CRw 6 w A n ms) (hn:n≤1000) :
  Calls Tryz.prog 36 #[v0,.slice A n c] w fun e w'=>∃ A' c',e=.returned (.slice A' (sendL (ms.map PMr.p)).length c')∧RI CHd 3 w' A' (sendL (ms.map PMr.p)).length (sendL (ms.map PMr.p))∧Below w.heap.size w w':=by
 have HR:=Lib.hid h
 have HLEN:=Lib.hid h.len
 clear h
 go_enter Tryz.func36,Tryz.ntmps36
 go_wp2_with fail
 go_loopw [5,10] (fun sv iv wr=>∃ (k:Nat),k≤n∧iv=.int .i64 (k:Int)∧Hid (wr.ownsRow w.heap.size 89 3 sv (sendL ((ms.map PMr.p).take k)).length ((sendL ((ms.map PMr.p).take k)).flatMap CHd))∧Hid (Below w.heap.size w wr)) (fun _ iv _=>n - (intOf iv).toNat)
 case atStart=>exact ⟨0,Nat.zero_le _,rfl,Lib.hid (World.ownsRow_nil _ _ _ _),Lib.hid (Below.refl _ _)⟩
 case round =>
  obtain ⟨k,hk,rfl,HO,HB⟩:=hrel
  generalize u5=v5 at *
  rcases Nat.lt_or_ge k n with hlt | hge
  ·have hi0:(k:Int)<(n:Int):=by omega
   obtain ⟨b5,o5,⟨⟨pr,pi,pu,⟨ps,pg⟩,px⟩,pA,pc⟩,rfl,hbl,hx,hcl⟩:=(HR.out.next HB.out).at_ hlt
   have t0:wr.cell? ⟨b5,o5+k*6,none⟩=some (.int .i64 pr):=hcl 0 _ rfl
   have t1:wr.cell? ⟨b5,o5+k*6+1,none⟩=some (.int .i64 pi):=hcl 1 _ rfl
   have t2:wr.cell? ⟨b5,o5+k*6+2,none⟩=some (.int .i64 pu):=hcl 2 _ rfl
   have t3:wr.cell? ⟨b5,o5+k*6+3,none⟩=some (.int .u32 ps):=hcl 3 _ rfl
   have t4:wr.cell? ⟨b5,o5+k*6+4,none⟩=some (.int .u32 pg):=hcl 4 _ rfl
   have t5:wr.cell? ⟨b5,o5+k*6+5,none⟩=some (.slice pA px.length pc):=hcl 5 _ rfl
   have HTK:Hid ((ms.map PMr.p).take (k+1)=(ms.map PMr.p).take k ++ [⟨pr,pi,pu,(ps,pg),px⟩]):=Lib.hid (by rw [List.take_add_one,List.getElem?_map,hx];rfl)
   have HLL:Hid ((sendL ((ms.map PMr.p).take k)).length≤1000):=Lib.hid (by have:=sendL_len ((ms.map PMr.p).take k);rw [List.length_take] at this;omega)
   have HOa:=Lib.hid (HO.out.alloc (.cells #[.int .i64 pr,.int .i64 pi,.int .i64 pu,.int .u32 ps,.int .u32 pg,.slice pA px.length pc] 83))
   have HBa:=Lib.hid (HB.out.alloc HB.out.size (.cells #[.int .i64 pr,.int .i64 pi,.int .i64 pu,.int .u32 ps,.int .u32 pg,.slice pA px.length pc] 83))
   have HKa:=Lib.hid (Blk.new wr 83 #[.int .i64 pr,.int .i64 pi,.int .i64 pu,.int .u32 ps,.int .u32 pg,.slice pA px.length pc])
   clear hx hcl hbl
   go_upto_region 5 with fail
   clear t0 t1 t2 t3 t4 t5
   generalize wr.alloc (.cells #[.int .i64 pr,.int .i64 pi,.int .i64 pu,.int .u32 ps,.int .u32 pg,.slice pA px.length pc] 83)=Wa at *
   generalize wr.heap.size=Nk at HKa ⊢
   have q2:Wa.cell? ⟨Nk,2,none⟩=some (.int .i64 pu):=HKa.out.cell 2
   have q3:Wa.cell? ⟨Nk,3,none⟩=some (.int .u32 ps):=HKa.out.cell 3
   have q4:Wa.cell? ⟨Nk,4,none⟩=some (.int .u32 pg):=HKa.out.cell 4
   by_cases hu:0≤pu
   ·have hu1:decide ((0:Int)≤pu)=true:=by simpa using hu
    have HSN:=Lib.hid (sendL_snoc ((ms.map PMr.p).take k) ⟨pr,pi,pu,(ps,pg),px⟩)
    rw [← HTK.out,if_pos hu] at HSN
    have HO1:=Lib.hid (HOa.out.alloc (.cells #[.int .i64 pu,.int .u32 ps,.int .u32 pg] 89))
    have HB1:=Lib.hid (HBa.out.alloc HBa.out.size (.cells #[.int .i64 pu,.int .u32 ps,.int .u32 pg] 89))
    generalize sendL ((ms.map PMr.p).take k)=SL at *
    go_wp2_with (at_builtin;refine wpList_items elemHd rfl _ _ rfl w.heap.size v5 SL.length SL rfl HO1.out _ 1 1 [(pu,ps,pg)] rfl (RI.new _ _ (pu,ps,pg) (by simp) rfl) (by have:=HLL.out;omega) (by omega) HB1.out.size ?_;intro v7 w7 hown7 hb7 _)
    have HO7:Hid (w7.ownsRow w.heap.size 89 3 v7 (sendL ((ms.map PMr.p).take (k+1))).length ((sendL ((ms.map PMr.p).take (k+1))).flatMap CHd)):=Lib.hid (by rw [HSN.out,List.length_append];exact hown7)
    have HB7:=Lib.hid (HB1.out.trans hb7)
    clear hown7 hb7 HO1 HB1
    go_wp2
    go_roundw
    case rel=>exact ⟨k+1,by omega,by go_num,HO7,HB7⟩
    case measure=>simp [intOf];omega
   ·have hu1:decide ((0:Int)≤pu)=false:=by simpa using hu
    have HSN:=Lib.hid (sendL_snoc ((ms.map PMr.p).take k) ⟨pr,pi,pu,(ps,pg),px⟩)
    rw [← HTK.out,if_neg hu] at HSN
    go_wp2
    go_roundw
    case rel=>exact ⟨k+1,by omega,by go_num,Lib.hid (by rw [HSN.out];exact HOa.out),HBa⟩
    case measure=>simp [intOf];omega
  ·obtain rfl:k=n:=by omega
   have hd:decide ((k:Int)<(k:Int))=false:=by simp
   have HO2:=Lib.hid HO.out
   rw [List.take_of_length_le (by rw [List.length_map];have:=HLEN.out;omega)] at HO2
   obtain ⟨A9,c9,rfl,_,hr9⟩:=RI.of_own (enc:=CHd) (k:=3) (fun _=>rfl) HO2.out
   go_wp2
   go_ret
   first | exact ⟨A9,⟨c9,rfl⟩,hr9,HB.out⟩ | exact ⟨A9,c9,rfl,hr9,HB.out⟩
theorem inUp_cases {x:Cfg} (k:LtOK x) (r:Int) (q:Int × Int) :
  inUp x r q=(-1,-1)∨∃ (p lN:Nat) (a1 u:Int),inUp x r q=((p:Int),u)∧x.ps[p]?=some (r,(lN:Int),a1)∧lN<x.ls.length∧(p:Int) ∈ rowF x r∧(u=-1∨∃ (o:Nat) (r2 a2:Int),u=(o:Int)∧x.ps[o]?=some (r2,(lN:Int),a2)∧r2 ≠ r):=by
 have key:∀ a,(if (toA x r a).2=true then ((toA x r a).1.1,(toA x r a).1.2.1) else ((-1:Int),(-1:Int)))=(-1,-1)∨∃ (p lN:Nat) (a1 u:Int),(if (toA x r a).2=true then ((toA x r a).1.1,(toA x r a).1.2.1) else ((-1:Int),(-1:Int)))=((p:Int),u)∧x.ps[p]?=some (r,(lN:Int),a1)∧lN<x.ls.length∧(p:Int) ∈ rowF x r∧(u=-1∨∃ (o:Nat) (r2 a2:Int),u=(o:Int)∧x.ps[o]?=some (r2,(lN:Int),a2)∧r2 ≠ r):=by
  intro a
  rcases toA_cases k r a with h | h | ⟨p,lN,a1,u,c,t,h,h1,h2,h3,h4,_,_⟩
  ·left;rw [h];rfl
  ·left;rw [h];rfl
  ·right
   refine ⟨p,lN,a1,u,by rw [h];rfl,h1,h2,h3,?_⟩
   rcases h4 with h4 | ⟨o,rfl,ho,hm⟩
   ·exact .inl h4
   ·right
    obtain ⟨⟨r2,l2,a2⟩,hy,e1,e2⟩:=oth_get.1 hm
    dsimp only at e1 e2
    subst e1
    exact ⟨o,r2,a2,rfl,hy,e2⟩
 unfold inUp keyA
 split
 ·cases hr:rootP x q.2 with
  | some a=>exact key a
  | none=>left;rfl
 ·exact key _
def wfHd (h:Int × Int × Int):Prop:=(-9223372036854775808≤h.1∧h.1≤9223372036854775807)∧UK h.2
theorem opened_heard {H:Type} {enc:TypeId × Value→H} {W:World} {a0:Option Addr} {len cap:Nat} {d0:DataW H} {p:List MemPlace}
  (h0:DataW.Trod enc Tryz.prog W 0 (fun _=>true) true 74 (.slice a0 len cap) d0 p):∃ xs,RI CHd 3 W a0 len xs∧(∀ x ∈ xs,wfHd x)∧len≤cap:=by
 refine open_items CHd wfHd Tryz.underlying74 (by kernel_rfl) (by omega) ?_ h0
 intro n l y hl htr
 have ki:Tryz.prog.cellsOf 3=1:=by kernel_rfl
 have kk:Tryz.prog.cellsOf 57=2:=by kernel_rfl
 have ka:Tryz.prog.cellsOf 42=1:=by kernel_rfl
 match l,hl with
 | [c0,c1,c2],_ =>
  obtain ⟨ys,n',_,_,_,hlen,hf⟩:=DataW.trod_struct Tryz.underlying89 htr
  match ys,hlen with
  | [y0,y1],_ =>
   have g0:DataW.trod enc Tryz.prog W 0 (fun _=>true) true n' 3 [c0]=some y0:=by simpa [ki] using hf 0 _ rfl
   have g1:DataW.trod enc Tryz.prog W 0 (fun _=>true) true n' 57 [c1,c2]=some y1:=by simpa [kk,ki] using hf 1 _ rfl
   obtain ⟨zs,n2,_,_,_,hlen2,hf2⟩:=DataW.trod_struct Tryz.underlying57 g1
   match zs,hlen2 with
   | [z0,z1],_ =>
    have f0:DataW.trod enc Tryz.prog W 0 (fun _=>true) true n2 42 [c1]=some z0:=by simpa [ka] using hf2 0 _ rfl
    have f1:DataW.trod enc Tryz.prog W 0 (fun _=>true) true n2 42 [c2]=some z1:=by simpa [ka] using hf2 1 _ rfl
    obtain ⟨a0,e0,_,w0⟩:=DataW.trod_int Tryz.underlying3 g0
    obtain ⟨a1,e1,_,w1⟩:=DataW.trod_int Tryz.underlying42 f0
    obtain ⟨a2,e2,_,w2⟩:=DataW.trod_int Tryz.underlying42 f1
    simp only [List.cons.injEq,and_true] at e0 e1 e2
    subst e0;subst e1;subst e2
    exact ⟨(a0,a1,a2),rfl,wf_i64 w0,wf_u32 w1,wf_u32 w2⟩
end Go.Proofs.YtfidicbknjoafaaGreatDoor
namespace Go.Proofs.YtfidicbknjoafaaGreatDoor
open Go.RowKit Lx Sm Go.Maps
theorem port_at2 {W:World} {M:Cm} {x:Cfg} {b o:Nat} (h:CW W M x) (hA:M.p.A=some ⟨b,o,none⟩) {j:Nat} {y:Int × Int × Int} (hx:x.ps[j]?=some y):W.cell? ⟨b,o+j*3,none⟩=some (.int .i64 y.1)∧W.cell? ⟨b,o+j*3+1,none⟩=some (.int .i64 y.2.1)∧W.cell? ⟨b,o+j*3+2,none⟩=some (.int .u32 y.2.2):=by
 obtain ⟨b2,o2,⟨r2,l2,a2⟩,hA2,_,hx2,c0,c1,c2⟩:=IPort.cells h.p (i:=j) (by have:=(List.getElem?_eq_some_iff.1 hx).1;rw [h.p.len] at this;exact this)
 rw [hA] at hA2;cases hA2
 rw [hx] at hx2;cases hx2
 exact ⟨c0,c1,c2⟩
theorem ptr_some2 {W:World} {α:Type} {enc:α→List Value} {k:Nat} {A:Option Addr} {n:Nat} {xs:List α} (h:IR enc k W A n xs) (hn:0<xs.length):∃ b o,A=some ⟨b,o,none⟩:=by
 obtain ⟨b,o,e,_⟩:=h.2 (by rw [← h.1];exact hn)
 exact ⟨b,o,e⟩
theorem sendL_at:∀ {l:List PRow} {i:Nat} {p:PRow},l[i]?=some p→0≤p.u→(sendL l)[(sendL (l.take i)).length]?=some (p.u,p.k.1,p.k.2)
 | [],i,p,h,_=>by simp at h
 | z :: l,0,p,h,hu=>by
  simp at h
  subst h
  unfold sendL
  simp [hu]
 | z :: l,i+1,p,h,hu=>by
  have ih:=sendL_at (l:=l) (i:=i) (p:=p) (by simpa using h) hu
  have e:∀ m:List PRow,sendL (z :: m)=if 0≤z.u then (z.u,z.k.1,z.k.2) :: sendL m else sendL m:=fun m=>by
   unfold sendL
   by_cases h:0≤z.u
   ·rw [if_pos h];simp [h]
   ·rw [if_neg h];simp [h]
  rw [List.take_succ_cons,e,e]
  by_cases h:0≤z.u
  ·rw [if_pos h,if_pos h]
   simpa using ih
  ·rw [if_neg h,if_neg h]
   exact ih
theorem rows_len (x:Cfg) (r:Int) (own:List Int) (hs:List (Int × Int × Int)) (ok:LtOK x):(rowsP x r own hs).length≤hs.length+5:=by
 unfold rowsP rowKeys
 rw [List.length_map]
 have h1:=keysS_len (heardK own hs ++ askK x r own hs)
 rw [List.length_append] at h1
 have h2:(heardK own hs).length≤hs.length:=by unfold heardK;rw [List.length_map];exact List.length_filter_le _ _
 have h3:(askK x r own hs).length≤5:=by
  unfold askK
  refine Nat.le_trans (List.length_filter_le _ _) ?_
  have:=keysS_len (sentP x)
  rw [sentP_len] at this
  have:=ok.sl
  omega
 omega
set_option maxHeartbeats 8000000 in
set_option maxRecDepth 100000 in
theorem law_wsends (ads:List Addr) (M:Cm) (x:Cfg) (r:Int) (A:Option Addr) (n c:Nat) (xs:List (Int × Int × Int)) (w:World) (hE:EnvC ads w) (hL:LW w M x) (hA:RI CHd 3 w A n xs) (hw:∀ y ∈ xs,wfHd y) :
  Calls Tryz.prog 9 #[.agg #[.slice M.r.A M.r.n M.r.c,.slice M.l.A M.l.n M.l.c,.slice M.p.A M.p.n M.p.c,.slice M.o.A M.o.n M.o.c,.slice M.g.A M.g.n M.g.c,.slice M.s.A M.s.n M.s.c,.slice M.m.A M.m.n M.m.c],.int .i64 r,.slice A n c] w fun e w'=>e=.returned (.bool true)∧Below w.heap.size w w':=by
 have HB0:=Lib.hid ((Below.refl w.heap.size w).alloc (Nat.le_refl _) (.cells #[.slice M.r.A M.r.n M.r.c,.slice M.l.A M.l.n M.l.c,.slice M.p.A M.p.n M.p.c,.slice M.o.A M.o.n M.o.c,.slice M.g.A M.g.n M.g.c,.slice M.s.A M.s.n M.s.c,.slice M.m.A M.m.n M.m.c] 30))
 have HK0:Hid (Blk (w.alloc (.cells #[.slice M.r.A M.r.n M.r.c,.slice M.l.A M.l.n M.l.c,.slice M.p.A M.p.n M.p.c,.slice M.o.A M.o.n M.o.c,.slice M.g.A M.g.n M.g.c,.slice M.s.A M.s.n M.s.c,.slice M.m.A M.m.n M.m.c] 30)) w.heap.size 30 #[.slice M.r.A M.r.n M.r.c,.slice M.l.A M.l.n M.l.c,.slice M.p.A M.p.n M.p.c,.slice M.o.A M.o.n M.o.c,.slice M.g.A M.g.n M.g.c,.slice M.s.A M.s.n M.s.c,.slice M.m.A M.m.n M.m.c]):=Lib.hid (Blk.new _ _ _)
 have HF:=Lib.hid (first17_any ads _ (hE.below HB0.out))
 have HE:=Lib.hid hE
 have HL:=Lib.hid hL
 clear hE hL
 go_enter Tryz.func9,Tryz.ntmps9
 go_upto_region 1 with fail
 generalize w.alloc (.cells #[.slice M.r.A M.r.n M.r.c,.slice M.l.A M.l.n M.l.c,.slice M.p.A M.p.n M.p.c,.slice M.o.A M.o.n M.o.c,.slice M.g.A M.g.n M.g.c,.slice M.s.A M.s.n M.s.c,.slice M.m.A M.m.n M.m.c] 30)=W0 at *
 go_wp2_with fail
 refine HF.out.mono ?_
 rintro e w1 ⟨rfl,hb1⟩
 have HB1:=Lib.hid (below_next HB0.out hb1)
 have HK1:=Lib.hid (HK0.out.next hb1)
 have y0:w1.cell? ⟨w.heap.size,0,none⟩=some (.slice M.r.A M.r.n M.r.c):=HK1.out.cell 0
 have y1:w1.cell? ⟨w.heap.size,1,none⟩=some (.slice M.l.A M.l.n M.l.c):=HK1.out.cell 1
 have y2:w1.cell? ⟨w.heap.size,2,none⟩=some (.slice M.p.A M.p.n M.p.c):=HK1.out.cell 2
 have y3:w1.cell? ⟨w.heap.size,3,none⟩=some (.slice M.o.A M.o.n M.o.c):=HK1.out.cell 3
 have y4:w1.cell? ⟨w.heap.size,4,none⟩=some (.slice M.g.A M.g.n M.g.c):=HK1.out.cell 4
 have y5:w1.cell? ⟨w.heap.size,5,none⟩=some (.slice M.s.A M.s.n M.s.c):=HK1.out.cell 5
 have y6:w1.cell? ⟨w.heap.size,6,none⟩=some (.slice M.m.A M.m.n M.m.c):=HK1.out.cell 6
 have HG:=Lib.hid (light_any M x 8 w1 (HL.out.next HB1.out) (by omega))
 clear hb1 HF
 go_wp2_with fail
 refine HG.out.mono ?_
 rintro e w2 ⟨rfl,hb2⟩
 have HB2:=Lib.hid (below_next HB1.out hb2)
 have HK2:=Lib.hid (HK1.out.next hb2)
 clear y0 y1 y2 y3 y4 y5 y6 HG hb2
 cases hlp:lightP x 8 with
 | false =>
  go_wp2
  go_ret
  exact ⟨rfl,HB2.out⟩
 | true =>
  have HOK:=Lib.hid (lt_ok hlp (by omega))
  have HRL:=Lib.hid (lt_rl hlp)
  have HC2:=Lib.hid ((HL.out.next HB2.out).cw HOK.out)
  have HN:=Lib.hid (new_light ads M x w2 (HE.out.below HB2.out) HC2.out HOK.out)
  have y0:w2.cell? ⟨w.heap.size,0,none⟩=some (.slice M.r.A M.r.n M.r.c):=HK2.out.cell 0
  have y1:w2.cell? ⟨w.heap.size,1,none⟩=some (.slice M.l.A M.l.n M.l.c):=HK2.out.cell 1
  have y2:w2.cell? ⟨w.heap.size,2,none⟩=some (.slice M.p.A M.p.n M.p.c):=HK2.out.cell 2
  have y3:w2.cell? ⟨w.heap.size,3,none⟩=some (.slice M.o.A M.o.n M.o.c):=HK2.out.cell 3
  have y4:w2.cell? ⟨w.heap.size,4,none⟩=some (.slice M.g.A M.g.n M.g.c):=HK2.out.cell 4
  have y5:w2.cell? ⟨w.heap.size,5,none⟩=some (.slice M.s.A M.s.n M.s.c):=HK2.out.cell 5
  have y6:w2.cell? ⟨w.heap.size,6,none⟩=some (.slice M.m.A M.m.n M.m.c):=HK2.out.cell 6
  clear hlp HL HB1 HK1 HB0 HK0
  by_cases h30:30<n
  ·have e0:decide ((30:Int)<(n:Int))=true:=by simp;omega
   go_wp2;go_ret;exact ⟨rfl,HB2.out⟩
  have e0:decide ((30:Int)<(n:Int))=false:=by simp;omega
  have e0':¬ (30:Int)<(n:Int):=by omega
  by_cases hr:r<0∨(M.r.n:Int)≤r
  ·cases e1:decide (r<0) with
   | true=>go_wp2;go_ret;exact ⟨rfl,HB2.out⟩
   | false =>
    have e2:decide ((M.r.n:Int)≤r)=true:=by simp only [decide_eq_false_iff_not,decide_eq_true_eq] at e1 ⊢;omega
    go_wp2;go_ret;exact ⟨rfl,HB2.out⟩
  obtain ⟨q,rfl⟩:∃ q:Nat,r=(q:Int):=⟨r.toNat,by omega⟩
  have hqn:q<M.r.n:=by omega
  have e1:decide ((q:Int)<0)=false:=by simp
  have e2:decide ((M.r.n:Int)≤(q:Int))=false:=by simp;omega
  clear hr
  go_wp2_with fail
  refine HN.out.mono ?_
  rintro e w4 ⟨T,x',rfl,hT,hal,hb4⟩
  have HT:=Lib.hid hT
  have HAL:=Lib.hid hal
  have HB4:=Lib.hid (below_next HB2.out hb4)
  have HK4:=Lib.hid (HK2.out.next hb4)
  have HC4:=Lib.hid (HC2.out.next hb4)
  clear y0 y1 y2 y3 y4 y5 y6 HN hT hal hb4 HC2 HK2
  have qr:M.r.n≤16:=by have:=HC4.out.r.len;have:=HOK.out.rl;omega
  have ql:M.l.n≤12:=by have:=HC4.out.l.len;have:=HOK.out.ll;omega
  have qp:M.p.n≤24:=by have:=HC4.out.p.len;have:=HOK.out.pl;omega
  have qo:M.o.n≤30:=by have:=HC4.out.o.len;have:=HOK.out.ol;omega
  have qg:M.g.n≤4:=by have:=HC4.out.g.len;have:=HOK.out.gl;omega
  have qs:M.s.n≤5:=by have:=HC4.out.s.len;have:=HOK.out.sl;omega
  have qm:M.m.n≤10:=by have:=HC4.out.m.len;have:=HOK.out.ml;omega
  clear e0 e0' e1 e2
  have HOK':=Lib.hid (HOK.out.alike HAL.out (by rw [vcode_alike HAL.out];exact HOK.out.v))
  have HUX:=Lib.hid (fun y (hy:y ∈ xs)=>(hw y hy).2)
  have HRA:=Lib.hid (fun W (hW:Below w4.heap.size w4 W)=>rows_al (q:Int) A n c xs W w4 M (HT.out.next hW) HAL.out HC4.out HOK.out HOK'.out (hA.next (below_next HB4.out hW)) HUX.out (by omega))
  have HHL:=Lib.hid hA.len
  have hn30:n≤40:=by omega
  clear hA hw
  go_upto_region 10 with (go_at_call 31;refine (HRA.out _ (Below.refl _ _)).mono ?_;rintro e w5 ⟨v5,ms,rfl,hown,hmp,hjr,hb5⟩;have HO5:=Lib.hid hown;have HMP:=Lib.hid hmp;have HJR:=Lib.hid hjr;have HB5:=Lib.hid hb5;clear hown hmp hjr hb5)
  clear HRA
  obtain ⟨A5,c5,rfl,_,hr5⟩:=RI.of_own (enc:=CRw) (k:=6) (fun _=>rfl) HO5.out
  have HR5:=Lib.hid hr5
  have hml:ms.length≤1000:=by
   have h1:=congrArg List.length HMP.out
   rw [List.length_map] at h1
   have h2:=rows_len x (q:Int) (rowF x (q:Int)) xs HOK.out
   have:=HHL.out
   omega
  have HKS:Hid (∀ m ∈ ms,∃ k,k ∈ rowKeys x (q:Int) (rowF x (q:Int)) xs∧m.p=rowK x (q:Int) (rowF x (q:Int)) xs k):=Lib.hid (fun m hm=>by
   have h1:m.p ∈ ms.map PMr.p:=List.mem_map_of_mem hm
   rw [HMP.out] at h1
   unfold rowsP at h1
   obtain ⟨k,hk,e⟩:=List.mem_map.1 h1
   exact ⟨k,hk,e.symm⟩)
  have HHC:=Lib.hid (HB4.out.trans (HB5.out.mono HB4.out.size))
  clear HO5 hr5
  have HSE:=Lib.hid (sends_any (.pointer (some ⟨T.N,0,none⟩)) A5 ms.length c5 ms w5 HR5.out hml)
  go_upto_region 11 with (go_at_call 36;refine HSE.out.mono ?_;rintro e w6 ⟨A6,c6,rfl,hri6,hb6⟩;have HR6:=Lib.hid hri6;have HB6:=Lib.hid (below_next HB5.out hb6);have HN6:=Lib.hid hb6;clear hri6 hb6)
  clear HSE
  have HSL:Hid ((sendL (ms.map PMr.p)).length≤1000):=Lib.hid (by have:=sendL_len (ms.map PMr.p);rw [List.length_map] at this;omega)
  have HIC:=Lib.hid (fun k=>inUp_cases HOK.out (q:Int) k)
  generalize hSS:sendL (ms.map PMr.p)=SS at *
  have HSS:=Lib.hid hSS
  clear hSS
  go_wp2_with fail
  go_loopw [12,13] (fun nv iv wr=>∃ (i:Nat),i≤ms.length∧iv=.int .i64 (i:Int)∧nv=.int .i64 ((sendL ((ms.map PMr.p).take i)).length:Nat)∧Hid (Below w6.heap.size w6 wr)) (fun _ iv _=>ms.length - (intOf iv).toNat)
  case atStart=>exact ⟨0,Nat.zero_le _,rfl,rfl,Lib.hid (Below.refl _ _)⟩
  case round =>
   obtain ⟨i,hi,rfl,rfl,HB⟩:=hrel
   rcases Nat.lt_or_ge i ms.length with hlt | hge
   ·have hi0:(i:Int)<(ms.length:Int):=by omega
    have hi1:(0:Int)≤(i:Int):=by omega
    obtain ⟨b5,o5,m,e5,hbl,hx,hcl⟩:=HR5.out.at_ hlt
    subst e5
    have hB5:=below_next HN6.out HB.out
    have CC:=Lib.hid (fun W (hW:Below wr.heap.size wr W) j (v:Value) (hv:(CRw m)[j]?=some v)=>((below_next hB5 hW).cell (p:=⟨b5,o5+i*6+j,none⟩) hbl).trans (hcl j v hv))
    have HTK:Hid ((ms.map PMr.p).take (i+1)=(ms.map PMr.p).take i ++ [m.p]):=Lib.hid (by rw [List.take_add_one,List.getElem?_map,hx];rfl)
    have HSN:=Lib.hid (sendL_snoc ((ms.map PMr.p).take i) m.p)
    rw [← HTK.out] at HSN
    have HSA:Hid (0≤m.p.u→SS[(sendL ((ms.map PMr.p).take i)).length]?=some (m.p.u,m.p.k.1,m.p.k.2)):=Lib.hid (fun h=>by
     rw [← HSS.out]
     exact sendL_at (by rw [List.getElem?_map,hx];rfl) h)
    obtain ⟨k,hk,hmk⟩:=HKS.out m (List.mem_of_getElem? hx)
    have hic:=HIC.out k
    have t2:wr.cell? ⟨b5,o5+i*6+2,none⟩=some (.int .i64 m.p.u):=CC.out wr (Below.refl _ _) 2 _ rfl
    have hu:m.p.u=(inUp x (q:Int) k).2:=by rw [hmk];rfl
    have hin:m.p.i=(inUp x (q:Int) k).1:=by rw [hmk];rfl
    have HL5:Hid ((sendL ((ms.map PMr.p).take i)).length≤1000):=Lib.hid (by have:=sendL_len ((ms.map PMr.p).take i);rw [List.length_take] at this;omega)
    clear hcl hx hB5 hmk hk
    generalize hNN:(sendL ((ms.map PMr.p).take i)).length=NN at *
    have HNN:=Lib.hid hNN
    clear hNN
    by_cases h0:m.p.u<0
    ·have d0:decide (m.p.u<0)=true:=by simpa using h0
     rw [if_neg (by omega)] at HSN
     clear hu hin hic
     go_wp2_with fail
     go_roundw
     case rel=>exact ⟨i+1,by omega,by go_num,by rw [HSN.out,HNN.out],HB⟩
     case measure=>simp [intOf];omega
    ·have d0:decide (m.p.u<0)=false:=by simpa using h0
     rw [if_pos (by omega)] at HSN
     have hsa:=HSA.out (by omega)
     rcases hic with hic | ⟨p,lN,a1,u,hic,hxp,hlN,_,hcase⟩
     ·rw [hic] at hu;dsimp only at hu;omega
     rcases hcase with rfl | ⟨ob,r2,a2,rfl,hxo,hne⟩
     ·rw [hic] at hu;dsimp only at hu;omega
     rw [hic] at hu hin
     dsimp only at hu hin
     have hnl:NN<SS.length:=(List.getElem?_eq_some_iff.1 hsa).1
     obtain ⟨b6,o6,y6,e6,hbl6,hx6,hcl6⟩:=HR6.out.at_ hnl
     subst e6
     rw [hsa] at hx6
     obtain rfl:(m.p.u,m.p.k.1,m.p.k.2)=y6:=by cases hx6;rfl
     have CS:=Lib.hid (fun W (hW:Below wr.heap.size wr W) j (v:Value) (hv:(CHd (m.p.u,m.p.k.1,m.p.k.2))[j]?=some v)=>((below_next HB.out hW).cell (p:=⟨b6,o6+NN*3+j,none⟩) hbl6).trans (hcl6 j v hv))
     have HBA:=Lib.hid (below_next HB6.out HB.out)
     obtain ⟨bp,op,hAp⟩:=ptr_some2 HC4.out.p (by have:=(List.getElem?_eq_some_iff.1 hxp).1;omega)
     have CP:=Lib.hid (fun W (hW:Below wr.heap.size wr W)=>And.intro (port_at2 (HC4.out.next (below_next HBA.out hW)) hAp hxp) (port_at2 (HC4.out.next (below_next HBA.out hW)) hAp hxo))
     have CF:=Lib.hid (fun W (hW:Below wr.heap.size wr W)=>(show W.cell? ⟨w.heap.size,2,none⟩=some (.slice (some ⟨bp,op,none⟩) M.p.n M.p.c) from by rw [← hAp];exact (HK4.out.next (below_next HBA.out hW)).cell 2))
     have HSK:=Lib.hid (fun W=>skey_any m.p.k.1 m.p.k.2 m.p.k.1 m.p.k.2 W)
     have hpp:(p:Int)<(M.p.n:Int):=by have:=HC4.out.p.len;have:=(List.getElem?_eq_some_iff.1 hxp).1;omega
     have hoo:(ob:Int)<(M.p.n:Int):=by have:=HC4.out.p.len;have:=(List.getElem?_eq_some_iff.1 hxo).1;omega
     have hp0:(0:Int)≤(p:Int):=by omega
     have ho0:(0:Int)≤(ob:Int):=by omega
     have hN1:(NN:Int)<(SS.length:Int):=by omega
     have hN0:(0:Int)≤(NN:Int):=by omega
     have d1:decide ((SS.length:Int)≤(NN:Int))=false:=by simp;omega
     have d1':¬ (SS.length:Int)≤(NN:Int):=by omega
     have d2:(r2 == (q:Int))=false:=by simpa using hne
     have d3:decide ((p:Int)<0)=false:=by simp
     have d3':¬ (p:Int)<0:=by omega
     have hnn5:=HL5.out
     obtain ⟨⟨pr,pi,pu,⟨ps,pg⟩,px⟩,pA,pc⟩:=m
     dsimp only at *
     subst hu hin
     have CR0:=Lib.hid (fun W (hW:Below wr.heap.size wr W)=>(show W.cell? ⟨b5,o5+i*6+1,none⟩=some (.int .i64 (p:Int))∧W.cell? ⟨b5,o5+i*6+2,none⟩=some (.int .i64 (ob:Int))∧W.cell? ⟨b5,o5+i*6+3,none⟩=some (.int .u32 ps)∧W.cell? ⟨b5,o5+i*6+4,none⟩=some (.int .u32 pg) from ⟨CC.out W hW 1 _ rfl,CC.out W hW 2 _ rfl,CC.out W hW 3 _ rfl,CC.out W hW 4 _ rfl⟩))
     have CS0:=Lib.hid (fun W (hW:Below wr.heap.size wr W)=>(show W.cell? ⟨b6,o6+NN*3,none⟩=some (.int .i64 (ob:Int))∧W.cell? ⟨b6,o6+NN*3+1,none⟩=some (.int .u32 ps)∧W.cell? ⟨b6,o6+NN*3+2,none⟩=some (.int .u32 pg) from ⟨CS.out W hW 0 _ rfl,CS.out W hW 1 _ rfl,CS.out W hW 2 _ rfl⟩))
     have hsk:((ps == ps) && (pg == pg))=true:=by simp
     rw [hsk] at HSK
     clear hsk hsa hx6 hcl6 hbl6 hne hxp hxo hic h0 hlt hi hnl hAp CC CS hbl
     go_upto_region 16 with fail
     clear t2
     have R1:∀ P:Snc wr,Calls Tryz.prog 38 #[.agg #[.int .u32 ps,.int .u32 pg],.agg #[.int .u32 ps,.int .u32 pg]] P.W fun e w'=>e=.returned (.bool true)∧∃ Q:Snc wr,w'=Q.W:=fun P=>Calls.since (HSK.out P.W)
     have s0:∀ s:Snc wr,s.W.cell? ⟨b6,o6+NN*3,none⟩=some (.int .i64 (ob:Int)):=fun s=>(CS0.out s.W s.b).1
     have s1:∀ s:Snc wr,s.W.cell? ⟨b6,o6+NN*3+1,none⟩=some (.int .u32 ps):=fun s=>(CS0.out s.W s.b).2.1
     have s2:∀ s:Snc wr,s.W.cell? ⟨b6,o6+NN*3+2,none⟩=some (.int .u32 pg):=fun s=>(CS0.out s.W s.b).2.2
     have t1:∀ s:Snc wr,s.W.cell? ⟨b5,o5+i*6+1,none⟩=some (.int .i64 (p:Int)):=fun s=>(CR0.out s.W s.b).1
     have t2:∀ s:Snc wr,s.W.cell? ⟨b5,o5+i*6+2,none⟩=some (.int .i64 (ob:Int)):=fun s=>(CR0.out s.W s.b).2.1
     have t3:∀ s:Snc wr,s.W.cell? ⟨b5,o5+i*6+3,none⟩=some (.int .u32 ps):=fun s=>(CR0.out s.W s.b).2.2.1
     have t4:∀ s:Snc wr,s.W.cell? ⟨b5,o5+i*6+4,none⟩=some (.int .u32 pg):=fun s=>(CR0.out s.W s.b).2.2.2
     have f2:∀ s:Snc wr,s.W.cell? ⟨w.heap.size,2,none⟩=some (.slice (some ⟨bp,op,none⟩) M.p.n M.p.c):=fun s=>CF.out s.W s.b
     have p0:∀ s:Snc wr,s.W.cell? ⟨bp,op+p*3+1,none⟩=some (.int .i64 (lN:Int)):=fun s=>(CP.out s.W s.b).1.2.1
     have p1:∀ s:Snc wr,s.W.cell? ⟨bp,op+ob*3,none⟩=some (.int .i64 r2):=fun s=>(CP.out s.W s.b).2.1
     have p2:∀ s:Snc wr,s.W.cell? ⟨bp,op+ob*3+1,none⟩=some (.int .i64 (lN:Int)):=fun s=>(CP.out s.W s.b).2.2.1
     refine wp_region_since (by kernel_rfl) (by kernel_rfl) ?_
     simp only [List.append_eq,List.cons_append,List.nil_append]
     repeat (go_big_quiet_step ((go_at_call 38;with_reducible exact R1 _)))
     refine wpQuiet_nil ?_
     rintro w8 ⟨P8,rfl⟩
     have HB7:=Lib.hid (below_next HB.out P8.b)
     clear s0 s1 s2 t1 t2 t3 t4 f2 p0 p1 p2 R1
     go_wp2_with fail
     go_roundw
     case rel=>exact ⟨i+1,by omega,by go_num,by rw [HSN.out,List.length_append,HNN.out];go_num,HB7⟩
     case measure=>simp [intOf];omega
   ·obtain rfl:i=ms.length:=by omega
    have d1:decide ((ms.length:Int)<(ms.length:Int))=false:=by simp
    have HSF:Hid (sendL ((ms.map PMr.p).take ms.length)=SS):=Lib.hid (by rw [List.take_of_length_le (by rw [List.length_map];exact Nat.le_refl _)];exact HSS.out)
    rw [HSF.out]
    have HNU:=Lib.hid (fun W=>number_any 1 2 W (by decide) (by decide))
    go_wp2_with (go_at_call 41;refine (HNU.out _).mono ?_;rintro e w7 ⟨rfl,rfl⟩)
    go_ret
    exact ⟨rfl,HB4.out.trans ((below_next HB6.out HB.out).mono HB4.out.size)⟩
end Go.Proofs.YtfidicbknjoafaaGreatDoor
namespace Go.Proofs.YtfidicbknjoafaaGreatDoor
open Go.RowKit Go.WideShapes Go.ChangeShapes
theorem star7:"*errors.errorString"="*" ++ "errors.errorString":=by decide
theorem rowErr7 (u:TypeId) (h:Tryz.prog.typeName? 3 u=some "*errors.errorString"):u=319 :=
 typeName_ptr_named (nm:="errors.errorString") (by rw [← star7];kernel_rfl) (by kernel_rfl) (by decide) u (by rw [← star7];exact h)
def errL7:List (String × List UInt8):=[("rivulet/api.ErrRange",[97,32,110,117,109,98,101,114,32,111,117,116,32,111,102,32,105,116,115,32,114,97,110,103,101]),
 ("rivulet/api.ErrMany",[116,111,111,32,109,97,110,121]),
 ("rivulet/api.ErrName",[110,111,116,32,97,32,110,97,109,101]),
 ("rivulet/api.ErrTwice",[116,104,101,114,101,32,105,115,32,111,110,101]),
 ("rivulet/api.ErrNone",[116,104,101,114,101,32,105,115,32,110,111,110,101]),
 ("rivulet/api.ErrAway",[110,111,116,32,111,110,32,116,104,97,116,32,108,105,110,107]),
 ("rivulet/api.ErrKind",[110,111,116,32,111,102,32,116,104,97,116,32,107,105,110,100])]
theorem errL7_named:∀ x ∈ errL7,∃ g,Tryz.prog.globalNamed x.1=some g∧(Tryz.prog.globals[g]?).map (·.type)=some 36:=by
 intro x hx
 simp only [errL7,List.mem_cons,List.not_mem_nil,or_false] at hx
 rcases hx with rfl | rfl | rfl | rfl | rfl | rfl | rfl
 ·exact ⟨1,by kernel_rfl,by kernel_rfl⟩
 ·exact ⟨5,by kernel_rfl,by kernel_rfl⟩
 ·exact ⟨6,by kernel_rfl,by kernel_rfl⟩
 ·exact ⟨0,by kernel_rfl,by kernel_rfl⟩
 ·exact ⟨3,by kernel_rfl,by kernel_rfl⟩
 ·exact ⟨4,by kernel_rfl,by kernel_rfl⟩
 ·exact ⟨2,by kernel_rfl,by kernel_rfl⟩
theorem envC_of_laid {W:World} {rest:List (String × DataW Unit)} (h:laidMet Tryz.prog (errL7.map (fun x=>(x.1,errD x.2)) ++ rest) W):∃ ads,EnvC ads W:=by
 obtain ⟨ps,hlv,hnd,hrows⟩:=h
 obtain ⟨ads,hlen,hno,hall,hat⟩:=sents (tp:=319) (te:=335) (ts:=9) (ti:=36) Tryz.underlying36 rowErr7 Tryz.underlying319 Tryz.underlying335 rfl rfl Tryz.underlying9 (by kernel_rfl) (by kernel_rfl) rest errL7 ps hlv hnd hrows errL7_named
 have hcell:∀ (i g:Nat) (n:String),(errL7.map (·.1))[i]?=some n→Tryz.prog.globalNamed n=some g→∃ a ∈ ads,W.cell? ⟨g,0,none⟩=some (ev a):=by
  intro i g n hn hg
  obtain ⟨b,hb,hv⟩:=hat i n hn
  have h0:=World.var?_cell hg hv 0
  exact ⟨b,List.mem_of_getElem? hb,by unfold ev;simpa using h0⟩
 obtain ⟨a0,k0,h0⟩:=hcell 0 1 "rivulet/api.ErrRange" rfl (by kernel_rfl)
 obtain ⟨a1,k1,h1⟩:=hcell 1 5 "rivulet/api.ErrMany" rfl (by kernel_rfl)
 obtain ⟨a2,k2,h2⟩:=hcell 2 6 "rivulet/api.ErrName" rfl (by kernel_rfl)
 obtain ⟨a3,k3,h3⟩:=hcell 3 0 "rivulet/api.ErrTwice" rfl (by kernel_rfl)
 obtain ⟨a4,k4,h4⟩:=hcell 4 3 "rivulet/api.ErrNone" rfl (by kernel_rfl)
 obtain ⟨a5,k5,h5⟩:=hcell 5 4 "rivulet/api.ErrAway" rfl (by kernel_rfl)
 obtain ⟨a6,k6,h6⟩:=hcell 6 2 "rivulet/api.ErrKind" rfl (by kernel_rfl)
 refine ⟨[a0,a0,a0,a1,a0,a0,a0,a0,a2,a3,a4,a5,a6,a0],rfl,?_,?_⟩
 ·intro j g a hg ha
  have hm:(j,g) ∈ errC:=by
   have:∀ (l:List (Nat × Nat)),l.lookup j=some g→(j,g) ∈ l:=by
    intro l
    induction l with
    | nil=>intro h;simp at h
    | cons x l ih =>
     intro h
     obtain ⟨p,q⟩:=x
     by_cases e:j=p
     ·subst e;simp at h;subst h;simp
     ·rw [List.lookup_cons] at h
      have e2:(j == p)=false:=by simpa using e
      rw [e2] at h
      exact List.mem_cons_of_mem _ (ih h)
   exact this _ hg
  simp only [errC,List.mem_cons,List.not_mem_nil,or_false,Prod.mk.injEq] at hm
  rcases hm with ⟨rfl,rfl⟩ | ⟨rfl,rfl⟩ | ⟨rfl,rfl⟩ | ⟨rfl,rfl⟩ | ⟨rfl,rfl⟩ | ⟨rfl,rfl⟩ | ⟨rfl,rfl⟩ <;> (simp at ha;subst ha;assumption)
 ·intro a ha
  have:a ∈ ads:=by
   simp only [List.mem_cons,List.not_mem_nil,or_false] at ha
   rcases ha with rfl | rfl | rfl | rfl | rfl | rfl | rfl | rfl | rfl | rfl | rfl | rfl | rfl | rfl <;> assumption
  exact (hall a this).2
end Go.Proofs.YtfidicbknjoafaaGreatDoor
namespace Go.Proofs.YtfidicbknjoafaaGreatDoor
open Go.ChangeShapes Go.WideShapes Go.ChangeAt Go.RowKit
end Go.Proofs.YtfidicbknjoafaaGreatDoor
