/- want. -/
import Derived.Test.YtfidicbknjoafaaGreatDoorQYw
import Derived.Test.YtfidicbknjoafaaGreatDoorQYs
import Derived.Test.YtfidicbknjoafaaGreatDoorQYk
namespace Go.Proofs.YtfidicbknjoafaaGreatDoor
open Go.RowKit Lx Sm Go.Maps Go.Sort Go.Shelf
theorem sortedFunc_frK (lb:Array Value) (S Sp:List (Int × Int)→Prop) (N:Nat) (hN:N≤1000000) (hS1:∀ss,S ss→ss.length≤1000000) (w w0:World) (hb0:Below w0.heap.size w0 w)
  (hseq:SeqStopsK Fence.wide 1 Tryz.prog 240 lb (fun x:(Int × Int)=>#[kv x]) KeepsWalks S Sp N w0) :
  Calls Tryz.prog 196 #[.func (.func 240) #[] lb,.func (.func 199) #[] #[]] w fun e w' =>
   ∃ (A:Option Addr) (c:Nat) (ss:List (Int × Int)),e=.returned (.slice A ss.length c)∧S ss∧RI CKy 2 w' A ss.length (sortKs ss)∧Below w.heap.size w w'∧∀a,A=some a→w.heap.size≤a.block:=by
 have hcol:=callsIn_wide.1 (collect_inK Fence.wide 3 trivial trivial rfl (by omega) _ lb trivial eKeysK S Sp N hN w w0 hb0 hseq)
 have HS:=Lib.hid hS1
 clear hS1 hseq
 go_enter Tryz.func196,Tryz.ntmps196
 go_wp2_with fail
 refine hcol.mono ?_
 rintro e w1 ⟨v,ss,rfl,hS,hrow,hb⟩
 have HSS:=Lib.hid hS
 have HB:=Lib.hid hb
 have hlen:=HS.out ss hS
 rcases hrow.2 with ⟨rfl,hl⟩|⟨g,cap,cur,rfl,hbase,_⟩
 ·obtain rfl:ss=[]:=List.eq_nil_of_length_eq_zero hl
  clear hrow hl hb hS hlen
  go_wp2_with fail
  refine (AnyF.slices_SortFunc_none Tryz.sortKy none 0 (.func (.func 199) #[] #[]) w1).mono ?_
  rintro e w2 ⟨rfl,rfl⟩
  go_wp2
  go_ret
  exact⟨none,0,[],rfl,HSS.out,(by rw[show sortKs []=[] by simp[sortKs]];exact RI.none_ _ _ _ _),HB.out,fun a h=>by cases h⟩
 ·have HR:=Lib.hid hrow
  clear hrow hb hS
  go_wp2_with fail
  refine (sort_someK g cap _ ss w1 HR.out hlen).mono ?_
  rintro e w2 ⟨rfl,hri,hgr⟩
  have HRI:=Lib.hid hri
  have hB2:Below w.heap.size w w2:=HB.out.grown hgr HB.out.size (fun k e=>by cases e;exact hbase)
  clear hri hgr
  go_wp2
  go_ret
  exact⟨_,cap,ss,rfl,HSS.out,HRI.out,hB2,fun a h=>by cases h;exact hbase⟩
set_option maxRecDepth 100000 in
set_option maxHeartbeats 2000000 in
theorem ksort_fr (A:Option Addr) (n c:Nat) (xs:List (Int × Int)) (w:World) (h:RI CKy 2 w A n xs) (hu:∀k∈xs,UK k) (hn:n≤1000000) :
  Calls Tryz.prog 126 #[.slice A n c] w fun e w'=>∃ (A':Option Addr) (c':Nat),e=.returned (.slice A' (keysS xs).length c')∧RI CKy 2 w' A' (keysS xs).length (keysS xs)∧Below w.heap.size w w'∧∀a,A'=some a→w.heap.size≤a.block:=by
 have HC:=Lib.hid (counted_any A n c xs w h hu hn)
 have HU:=Lib.hid hu
 have hln:xs.length≤1000000:=by rw[h.len];exact hn
 clear h hu
 go_enter Tryz.func126,Tryz.ntmps126
 go_wp2_with fail
 refine HC.out.mono ?_
 rintro e w1 ⟨mb,D,rfl,hD,hown,hb⟩
 have HD:=Lib.hid hD
 have kc:=callsIn_wide.1 (keys_inK Fence.wide 1 trivial rfl (some mb) w1)
 have hm:(w1.alloc (.cells #[.map (some mb)] 259)).cell? ⟨w1.heap.size,0,none⟩=some (.map (some mb)):=by go_simp
 have hB:=(Below.refl w1.heap.size w1).alloc (Nat.le_refl _) (.cells #[.map (some mb)] 259)
 have hown2:=hown.alloc (.cells #[.map (some mb)] 259)
 have hs:=sortedFunc_frK #[.pointer (some ⟨w1.heap.size,0,none⟩)] _ _ _ (Nat.le_trans hown2.size_le hn) (fun ss hss=>by rw[(met_keys HD.out HU.out hss).length_eq];exact Nat.le_trans (nubK_len xs) hln) _ _ (Below.refl _ _) (keys_stopsK Fence.wide 1 trivial rfl (by omega) w1.heap.size mb n D (w1.alloc (.cells #[.map (some mb)] 259)) (by simp) hm hown2)
 have HB:=Lib.hid hb
 have HB1:=Lib.hid (below_next hb hB)
 clear hD hown hown2 hm hB hb
 go_wp2_with fail
 refine kc.mono ?_
 rintro e w2 ⟨rfl,rfl⟩
 go_wp2_with fail
 refine hs.mono ?_
 rintro e w3 ⟨A',c',ss,rfl,hS,hri,hb3,hfr⟩
 have HFR:Hid (∀a,A'=some a→w.heap.size≤a.block):=Lib.hid fun a ha=>Nat.le_trans HB1.out.size (hfr a ha)
 clear hfr
 have hp:=met_keys HD.out HU.out hS
 have e1:sortKs ss=keysS xs:=sortKs_same (hp.nodup_iff.2 (nubK_nodup xs)) hp
 have e2:ss.length=(keysS xs).length:=by rw[←e1,sortP_lenK]
 rw[e1,e2]at hri
 rw[e2]
 have HRI:=Lib.hid hri
 have HB3:=Lib.hid (below_next HB1.out hb3)
 clear hs kc hri hb3 hS hp e1 e2
 go_wp2
 go_ret
 first|exact⟨A',⟨c',rfl⟩,HRI.out,HB3.out,HFR.out⟩|exact⟨A',c',rfl,HRI.out,HB3.out,HFR.out⟩
section
open Go.ChangeShapes Go.WideShapes Go.ChangeAt
variable {α:Type} {P:Program} {sl e:TypeId} {enc:α→List Value} {k bytes:Nat}
theorem run_itemsF (E:Elem P sl e enc k bytes) (w:World) (base:Nat) (ot:TypeId) (v:Value) (n:Nat) (xs:List α) (hown:w.ownsRow base e k v n (xs.flatMap enc))
  (A:Option Addr) (m c:Nat) (ys:List α) (hri:RI enc k w A m ys) (hn:n≤1048576) (hm:m≤1048576) (hbase:base≤w.heap.size) :
  ∃v' w',(Builtin.append_ #[sl,sl] ot #[v,.slice A m c]).run P w=.ok v' w'∧w'.ownsRow base e k v' (n+m) ((xs++ys).flatMap enc)∧Below base w w'∧w.grownBy w' v.ownBlock∧(v'.ownBlock=v.ownBlock∨v'.ownBlock=some w.heap.size):=by
 obtain⟨i,z,hi,hz,hsz,hby,hzc⟩:=E.info
 have ht:=E.under
 cases A with
 | none =>
  have h0:m=0:=by
   rcases Nat.eq_zero_or_pos m with h0|h0
   ·exact h0
   ·obtain⟨b,o,e,_⟩:=hri.2 h0
    cases e
  subst h0
  obtain rfl:ys=[]:=List.eq_nil_of_length_eq_zero hri.len
  have hrun:(Builtin.append_ #[sl,sl] ot #[v,.slice none 0 c]).run P w=.ok v w:=by
   rcases hown.2 with ⟨rfl,rfl⟩|⟨g,cap,cur,rfl,_,_,hnc,_⟩
   ·simp[Builtin.append_,run_underlying ht,sizeOf,typeInfo,hi,Builtin.lenOf,Builtin.firstCells]
   ·simp[Builtin.append_,run_underlying ht,sizeOf,typeInfo,hi,Builtin.lenOf,Builtin.firstCells,hnc,storeCells]
  exact⟨v,w,hrun,by rw[List.append_nil];exact hown,Below.refl _ _,⟨rfl,rfl,rfl,Nat.le_refl _,fun _ _ _=>rfl⟩,.inl rfl⟩
 | some ad =>
  have hb1:(n+m)*bytes≤2097152*1000:=Nat.mul_le_mul (by omega) E.by_
  obtain⟨v',w',hr,h2,h3,_,h6⟩:=run_append_own_at (P:=P) w base sl ot e i z k bytes ht hi hz hsz hby hzc E.pos v n _ hown ad m c (ys.flatMap enc) (by rw[flat_szG E.len,hri.len]) (ri_cellsG E.len E.pos hri)
   (by intro u hu;rw[List.mem_flatMap]at hu;obtain⟨y,_,hy⟩:=hu;exact E.one y u hy) (by unfold maxLen;omega) (by omega) hbase
  exact⟨v',w',hr,by rw[List.flatMap_append];exact h2,(Below.refl base w).grown h3 hbase (by intro j hj;exact (hown.lt j hj).1),h3,h6⟩
theorem wpList_itemsF (E:Elem P sl e enc k bytes) {w:World} {ops:Array Oper} {rest:List Oper} {o:Oper} {a:Act} {Q:Exit→Act→World→Prop} (hgd:o.guard=none) (s x:Operand)
  (ho:o.op=.call { callee:=.builtin .append,args:=#[s,x],argTypes:=#[sl,sl] })
  (base:Nat) (v:Value) (n:Nat) (xs:List α) (hs:a.eval s=v) (hown:w.ownsRow base e k v n (xs.flatMap enc))
  (A:Option Addr) (m c:Nat) (ys:List α) (hx:a.eval x=.slice A m c) (hri:RI enc k w A m ys) (hn:n≤1048576) (hm:m≤1048576) (hbase:base≤w.heap.size)
  (h:∀v' w',w'.ownsRow base e k v' (n+m) ((xs++ys).flatMap enc)→Below base w w'→w.grownBy w' v.ownBlock→(v'.ownBlock=v.ownBlock∨v'.ownBlock=some w.heap.size)→wpList P ops Q rest (a.put o.dst v') w'):wpList P ops Q (o :: rest) a w:=by
 refine wpList_plain hgd fun K hK=>?_
 obtain⟨v',w',hr,h2,h3,h4,h5⟩:=run_itemsF E w base o.type v n xs hown A m c ys hri hn hm hbase
 unfold Oper.wp
 simp only[execOp,ho,resolve,invoke,builtin,Sem.run_bind,Sem.run_pure,Result.andThen_ok,List.map_toArray,List.map_cons,List.map_nil,hs,hx,hr]
 exact hK _ _ (h v' w' h2 h3 h4 h5)
end
theorem RI.grown {α:Type} {enc:α→List Value} {k:Nat} {w w':World} {A:Option Addr} {n:Nat} {xs:List α} {ob:Option Nat} (h:RI enc k w A n xs) (hg:w.grownBy w' ob) (ne:∀a,A=some a→some a.block ≠ ob):RI enc k w' A n xs :=
 ⟨h.1,fun hn=>by
  obtain⟨b,o,e,hlt,hc⟩:=h.2 hn
  refine⟨b,o,e,Nat.lt_of_lt_of_le hlt hg.size,fun i x hx j v hv=>?_⟩
  have:=hc i x hx j v hv
  have hb:=hg.block b hlt (ne _ e)
  unfold World.cell? at *
  simp only[hb]
  exact this⟩
section
variable {b:Nat} {T:TP} {x:Cfg} {gs:List Int}
set_option maxRecDepth 100000 in
set_option maxHeartbeats 2000000 in
theorem sentS_fr (w:World) (h:TW w b T x gs) (k:LtOK x) :
  Calls Tryz.prog 124 #[.pointer (some ⟨T.N,0,none⟩)] w fun e w'=>∃ (A:Option Addr) (c:Nat),e=.returned (.slice A (keysS (sentP x)).length c)∧RI CKy 2 w' A (keysS (sentP x)).length (keysS (sentP x))∧Below w.heap.size w w'∧∀a,A=some a→w.heap.size≤a.block:=by
 have HS:=Lib.hid (sent_any w h k)
 have HU:=Lib.hid (sentP_u h)
 have hl5:(sentP x).length≤5:=by rw[sentP_len];exact k.sl
 clear h k
 generalize sentP x=S at *
 go_enter Tryz.func124,Tryz.ntmps124
 go_wp2_with fail
 refine HS.out.mono ?_
 rintro e w1 ⟨v,rfl,hown,hb⟩
 obtain⟨A8,c8,rfl,_,hr8⟩:=RI.of_own (enc:=CKy) (k:=2) (fun _=>rfl) hown
 have HC:=Lib.hid (ksort_fr A8 _ c8 S w1 hr8 HU.out (by omega))
 have HB:=Lib.hid hb
 clear hown hr8 hb
 go_wp2_with fail
 refine HC.out.mono ?_
 rintro e w2 ⟨A,c,rfl,hri,hb2,hfr⟩
 have HFR:Hid (∀a,A=some a→w.heap.size≤a.block):=Lib.hid fun a ha=>Nat.le_trans HB.out.size (hfr a ha)
 clear hfr
 have HRI:=Lib.hid hri
 have HB2:=Lib.hid (below_next HB.out hb2)
 clear hri hb2 HC
 go_wp2
 go_ret
 first|exact⟨A,⟨c,rfl⟩,HRI.out,HB2.out,HFR.out⟩|exact⟨A,c,rfl,HRI.out,HB2.out,HFR.out⟩
end
end Go.Proofs.YtfidicbknjoafaaGreatDoor
namespace Go.Proofs.YtfidicbknjoafaaGreatDoor
open Go.RowKit Lx Sm Go.Maps
theorem PT.keys {own:List Int} {hs:List (Int × Int × Int)} {L:Tr.Row} (h:PT own hs L) (k:Int × Int):k∈L.map (·.1) ↔ k∈heardK own hs:=by
 rw[heardK_mem]
 have e:=h.2 k
 constructor
 ·intro hm hn
  rw[if_pos hn]at e
  obtain⟨x,hx,rfl⟩:=List.mem_map.1 hm
  exact Tr.get_none.1 e x hx rfl
 ·intro hn
  rw[if_neg hn]at e
  refine Classical.byContradiction fun hm=>?_
  rw[Tr.get_none.2 (fun x hx ex=>hm (List.mem_map.2 ⟨x,hx,ex⟩))]at e
  cases e
section
variable {b:Nat} {T:TP} {x x':Cfg} {gs:List Int}
set_option maxRecDepth 100000 in
set_option maxHeartbeats 4000000 in
theorem join_al (r:Int) (own:List Int) (hs:List (Int × Int × Int)) (bm:Nat) (F:Nat→Prop) (L:Tr.Row) (es:Array MapEntry) (clock:Nat) (w wc:World) (M:Cm) (hki:KI w F bm L es clock) (hpt:PT own hs L) (hL:hs.length≤1000) (h:TW w b T x' gs) (k:Alike x x') (hc:CW wc M x) (ok:LtOK x) (ok':LtOK x') :
  Calls Tryz.prog 74 #[.pointer (some ⟨T.N,0,none⟩),.int .i64 r,.map (some bm)] w fun e w'=>∃ (A':Option Addr) (c':Nat),e=.returned (.slice A' (rowKeys x r own hs).length c')∧RI CKy 2 w' A' (rowKeys x r own hs).length (rowKeys x r own hs)∧Below w.heap.size w w'∧∀a,A'=some a→w.heap.size≤a.block:=by
 have hll:L.length≤1000:=Nat.le_trans hpt.1 hL
 have HKR:=Lib.hid (keysR_any bm w)
 have HCR:=Lib.hid (collR_any w F bm L es clock hki (by omega))
 have HB1:=Lib.hid ((Below.refl w.heap.size w).alloc (Nat.le_refl _) (.cells #[.map (some bm)] 150))
 have HS1:Hid (w.heap.size≤(w.alloc (.cells #[.map (some bm)] 150)).heap.size):=Lib.hid HB1.out.size
 have HSE:=Lib.hid (fun W (hW:Below w.heap.size w W)=>sentS_fr W (h.next hW) ok')
 have HSX:Hid (sentP x'=sentP x):=Lib.hid (by unfold sentP;rw[k.s])
 have HSL:Hid ((keysS (sentP x)).length≤1000):=Lib.hid (by have:=keysS_len (sentP x);rw[sentP_len]at this;have:=ok.sl;omega)
 have HSU:=Lib.hid (fun a (ha:a∈keysS (sentP x))=>(sentP_u h) a (by rw[HSX.out];exact (keysS_mem _ _).1 ha))
 have HRI:=Lib.hid (fun W (hW:Below w.heap.size w W) g (hg:U32 g)=>ris_al r g hg W wc M (h.next hW) k hc ok)
 have HKI:=Lib.hid hki
 have HPT:=Lib.hid hpt
 have HLL:=Lib.hid hll
 have HKE:=Lib.hid (fun y=>hpt.keys y)
 have HRK:Hid (rowKeys x r own hs=keysS (heardK own hs++(keysS (sentP x)).filter fun k=>decide (0<(portsK own (0,k.2) hs).length)&&(rtrP x k.2==some r))):=Lib.hid rfl
 clear hki hpt h k hc ok ok' hll
 rw[HSX.out]at HSE
 generalize keysS (sentP x)=S at *
 generalize rowKeys x r own hs=RK at *
 go_enter Tryz.func74,Tryz.ntmps74
 go_upto_region 2 with (first
  | (go_at_call 123;refine HKR.out.mono ?_;rintro e w1 ⟨rfl,rfl⟩)
  | (go_at_call 122;refine HCR.out.mono ?_;rintro e w2 ⟨v2,ss,rfl,hperm,hown2,hb2⟩;have HPM:=Lib.hid hperm;have HO2:=Lib.hid hown2;have HB2:=Lib.hid hb2;clear hperm hown2 hb2))
 clear HKR HCR
 have HBB:Hid ((w.alloc (.cells #[.map (some bm)] 150)).heap.size≤w2.heap.size):=Lib.hid HB2.out.size
 generalize (w.alloc (.cells #[.map (some bm)] 150)).heap.size=B1 at *
 have HB3:=Lib.hid (HB1.out.trans (HB2.out.mono HS1.out))
 have HBM:Hid (bm<w.heap.size):=Lib.hid (Array.getElem?_eq_some_iff.1 HKI.out.block).1
 have HS3:=Lib.hid (HSE.out w2 HB3.out)
 have HSS:Hid (ss.length≤1000):=Lib.hid (by have:=HPM.out.length_eq;rw[List.length_map]at this;have:=HLL.out;omega)
 rw[PF_flatK]at HO2
 clear HSE HB2 HB1
 have HV2:Hid (∀g,v2.ownBlock=some g→g<w2.heap.size):=Lib.hid (fun g hg=>(HO2.out.lt g hg).2)
 go_upto_region 3 with (go_at_call 124;refine HS3.out.mono ?_;rintro e w3 ⟨A3,c3,rfl,hri3,hb3,hfr⟩;have HI3:=Lib.hid hri3;have HFR:=Lib.hid hfr;have HO3:=Lib.hid (own_nextk HO2.out hb3);have HB4:=Lib.hid (below_next HB3.out hb3);have HBS:=Lib.hid hb3.size;clear hri3 hb3 hfr)
 have HNE:Hid (∀g,v2.ownBlock=some g→∀a,A3=some a→a.block ≠ g):=Lib.hid (fun g hg a ha e=>by have:=HV2.out g hg;have:=HFR.out a ha;omega)
 have HWB:Hid (w.heap.size≤B1):=HS1
 have HB13:Hid (B1≤w3.heap.size):=Lib.hid (by
  rcases HO3.out.2 with ⟨_,h0⟩ | _
  ·exact Nat.le_trans HBB.out HBS.out
  ·exact Nat.le_trans HBB.out HBS.out)
 clear HS3 HO2 HFR HV2
 go_loopw [7,16] (fun sv iv wr=>∃ (k:Nat) (l:List (Int × Int)),k≤S.length∧iv=.int .i64 (k:Int)∧l.length≤k∧Hid (l=(S.take k).filter fun k=>decide (0<(portsK own (0,k.2) hs).length)&&(rtrP x k.2==some r))∧Hid (wr.ownsRow B1 57 2 sv (ss.length+l.length) ((ss++l).flatMap CKy))∧Hid (RI CKy 2 wr A3 S.length S)∧Hid (∀g,sv.ownBlock=some g→∀a,A3=some a→a.block ≠ g)∧Hid (Below w.heap.size w wr)∧Hid (B1≤wr.heap.size)) (fun _ iv _=>S.length - (intOf iv).toNat)
 case atStart=>exact⟨0,[],Nat.zero_le _,rfl,Nat.le_refl _,Lib.hid (by simp),Lib.hid (by rw[List.append_nil];exact HO3.out),HI3,HNE,HB4,HB13⟩
 case round =>
  obtain⟨k,l,hk,rfl,hlk,HLE,HO,HI,HN,HB,HBB2⟩:=hrel
  generalize u7=v7 at *
  rcases Nat.lt_or_ge k S.length with hlt|hge
  ·have hi0:(k:Int)<(S.length:Int):=by omega
   have hsl:=HSL.out
   obtain⟨b5,o5,⟨s1,g1⟩,e5,hbl,hx,hc⟩:=HI.out.at_ hlt
   have t0:wr.cell? ⟨b5,o5+k*2,none⟩=some (.int .u32 s1):=hc 0 _ rfl
   have t1:wr.cell? ⟨b5,o5+k*2+1,none⟩=some (.int .u32 g1):=hc 1 _ rfl
   have HUK:=Lib.hid (HSU.out (s1,g1) (List.mem_of_getElem? hx))
   have HTK:Hid (S.take (k+1)=S.take k++[(s1,g1)]):=Lib.hid (by rw[List.take_add_one,hx];rfl)
   subst e5
   have HBL:=Lib.hid hbl
   obtain⟨vr,ys,_,hys,hlo,hown,_⟩:=HKI.out.look (p:=(0,g1)) ⟨⟨by omega,by omega⟩,HUK.out.2⟩
   rw[HPT.out.val]at hys
   obtain⟨Ar,cr,rfl,_⟩:=own_jr hown
   have HLO:=Lib.hid (fun W (hW:Below w.heap.size w W)=>(show (Instr.lookup 150 (.map (some bm)) (.agg #[.int .u32 0,.int .u32 g1]) false).run Tryz.prog W=.ok (.slice Ar ys.length cr) W from hlo W (hW.block bm HBM.out)))
   have HYS:=Lib.hid hys
   have HRG:=Lib.hid (fun W hW=>HRI.out W hW g1 HUK.out.2)
   have HBa:=Lib.hid (HB.out.alloc HB.out.size (.cells #[.int .u32 s1,.int .u32 g1] 57))
   have HNa:=Lib.hid ((Below.refl wr.heap.size wr).alloc (Nat.le_refl _) (.cells #[.int .u32 s1,.int .u32 g1] 57))
   have HKa:=Lib.hid (Blk.new wr 57 #[.int .u32 s1,.int .u32 g1])
   clear hx hc hlo hys hown hbl
   go_upto_region 5 with fail
   clear t0 t1
   generalize wr.alloc (.cells #[.int .u32 s1,.int .u32 g1] 57)=Wa at *
   generalize hNk:wr.heap.size=Nk at HKa ⊢
   have q0:Wa.cell? ⟨Nk,0,none⟩=some (.int .u32 s1):=HKa.out.cell 0
   have q1:Wa.cell? ⟨Nk,1,none⟩=some (.int .u32 g1):=HKa.out.cell 1
   have HNK:=Lib.hid hNk
   clear hNk
   by_cases h0:0<ys.length
   ·have h1:(0:Int)<(ys.length:Int):=by omega
    have h2:decide ((0:Int)<(ys.length:Int))=true:=by simpa using h1
    obtain⟨bR,hbR⟩:∃bR,(rtrP x g1==some r)=bR:=⟨_,rfl⟩
    rw[hbR]at HRG
    have HBR:=Lib.hid hbR
    have HPY:Hid (decide (0<(portsK own (0,g1) hs).length)=true):=Lib.hid (by rw[←HYS.out];simpa using h0)
    clear hbR
    cases bR with
    | false =>
     go_wp2_with (first
      | (go_at_call 77;refine (anyS_any s1 g1 _).mono ?_;rintro e w6 ⟨rfl,hb6⟩;have HB6:=Lib.hid (HBa.out.trans (hb6.mono HBa.out.size));have HN6:=Lib.hid (below_next HNa.out hb6);have hlk6:=HLO.out w6 HB6.out;replace q0:w6.cell? ⟨Nk,0,none⟩=some (.int .u32 s1):=(HKa.out.next hb6).cell 0;replace q1:w6.cell? ⟨Nk,1,none⟩=some (.int .u32 g1):=(HKa.out.next hb6).cell 1;have HK6:=Lib.hid (HKa.out.next hb6);clear hb6)
      | (go_at_call 125;refine (HRG.out w6 HB6.out).mono ?_;rintro e w7 ⟨rfl,hb7⟩;have HB7:=Lib.hid (HB6.out.trans (hb7.mono HB6.out.size));have HN7:=Lib.hid (below_next HN6.out hb7);have HK7:=Lib.hid (HK6.out.next hb7);clear hb7))
     go_roundw
     case rel=>exact⟨k+1,l,by omega,by go_num,by omega,Lib.hid (by rw[HTK.out,List.filter_append,←HLE.out];simp[HPY.out,HBR.out]),Lib.hid (own_nextk HO.out HN7.out),Lib.hid (HI.out.next HN7.out),HN,HB7,Lib.hid (Nat.le_trans HBB2.out HN7.out.size)⟩
     case measure=>simp[intOf];omega
    | true =>
     go_upto_region 6 with (first
      | (go_at_call 77;refine (anyS_any s1 g1 _).mono ?_;rintro e w6 ⟨rfl,hb6⟩;have HB6:=Lib.hid (HBa.out.trans (hb6.mono HBa.out.size));have HN6:=Lib.hid (below_next HNa.out hb6);have hlk6:=HLO.out w6 HB6.out;replace q0:w6.cell? ⟨Nk,0,none⟩=some (.int .u32 s1):=(HKa.out.next hb6).cell 0;replace q1:w6.cell? ⟨Nk,1,none⟩=some (.int .u32 g1):=(HKa.out.next hb6).cell 1;have HK6:=Lib.hid (HKa.out.next hb6);clear hb6)
      | (go_at_call 125;refine (HRG.out w6 HB6.out).mono ?_;rintro e w7 ⟨rfl,hb7⟩;have HB7:=Lib.hid (HB6.out.trans (hb7.mono HB6.out.size));have HN7:=Lib.hid (below_next HN6.out hb7);have HK7:=Lib.hid (HK6.out.next hb7);clear hb7))
     have p0:w7.cell? ⟨Nk,0,none⟩=some (.int .u32 s1):=HK7.out.cell 0
     have p1:w7.cell? ⟨Nk,1,none⟩=some (.int .u32 g1):=HK7.out.cell 1
     have HO7:=Lib.hid (own_nextk HO.out HN7.out)
     have HO8:=Lib.hid (HO7.out.alloc (.cells #[.int .u32 s1,.int .u32 g1] 57))
     have HB8:=Lib.hid (HB7.out.alloc HB7.out.size (.cells #[.int .u32 s1,.int .u32 g1] 57))
     have HN8:=Lib.hid (HN7.out.alloc HN7.out.size (.cells #[.int .u32 s1,.int .u32 g1] 57))
     have HSZ:Hid (B1≤(w7.alloc (.cells #[.int .u32 s1,.int .u32 g1] 57)).heap.size):=Lib.hid (Nat.le_trans HBB2.out HN8.out.size)
     have HLL2:Hid (l.length≤1000):=Lib.hid (by have:=HSL.out;omega)
     go_wp2_with (at_builtin;refine wpList_itemsF elemK rfl _ _ rfl B1 v7 (ss.length+l.length) (ss++l) rfl HO8.out _ 1 1 [(s1,g1)] rfl (RI.new _ _ (s1,g1) (by simp) rfl) (by have:=HSS.out;have:=HLL2.out;omega) (by omega) HSZ.out ?_;intro v9 w9 hown9 hb9 hg9 ho9)
     have HI9:Hid (RI CKy 2 w9 (some ⟨b5,o5,none⟩) S.length S):=Lib.hid ((HI.out.next HN8.out).grown hg9 (fun a ha e=>HN.out _ e.symm a ha rfl))
     have HN9:Hid (∀g,v9.ownBlock=some g→∀a,(some ⟨b5,o5,none⟩:Option Addr)=some a→a.block ≠ g):=Lib.hid (fun g hg a ha=>by
      rcases ho9 with e|e
      ·exact HN.out g (e ▸ hg) a ha
      ·rw[e]at hg;cases hg;cases ha
       have:=HBL.out;have:=HN8.out.size
       show b5 ≠ _
       omega)
     have HO9:Hid (w9.ownsRow B1 57 2 v9 (ss.length+(l++[(s1,g1)]).length) ((ss++(l++[(s1,g1)])).flatMap CKy)):=Lib.hid (by rw[List.length_append,←List.append_assoc,←Nat.add_assoc];exact hown9)
     have HB9:=Lib.hid (HB8.out.trans (hb9.mono HWB.out))
     have HS9:Hid (B1≤w9.heap.size):=Lib.hid (Nat.le_trans HSZ.out hg9.size)
     clear hown9 hb9 hg9 ho9 HO7 HO8 HB8 HN8 HSZ
     go_wp2
     go_roundw
     case rel=>exact⟨k+1,l++[(s1,g1)],by omega,by go_num,by rw[List.length_append];simp;omega,Lib.hid (by rw[HTK.out,List.filter_append,←HLE.out];simp[HPY.out,HBR.out]),HO9,HI9,HN9,HB9,HS9⟩
     case measure=>simp[intOf];omega
   ·have h1:¬ (0:Int)<(ys.length:Int):=by omega
    have h2:decide ((0:Int)<(ys.length:Int))=false:=by simpa using h1
    have HPY:Hid (decide (0<(portsK own (0,g1) hs).length)=false):=Lib.hid (by rw[←HYS.out];simpa using h0)
    go_wp2_with (go_at_call 77;refine (anyS_any s1 g1 _).mono ?_;rintro e w6 ⟨rfl,hb6⟩;have HB6:=Lib.hid (HBa.out.trans (hb6.mono HBa.out.size));have HN6:=Lib.hid (below_next HNa.out hb6);have hlk6:=HLO.out w6 HB6.out;clear hb6)
    go_roundw
    case rel=>exact⟨k+1,l,by omega,by go_num,by omega,Lib.hid (by rw[HTK.out,List.filter_append,←HLE.out];simp[HPY.out]),Lib.hid (own_nextk HO.out HN6.out),Lib.hid (HI.out.next HN6.out),HN,HB6,Lib.hid (Nat.le_trans HBB2.out HN6.out.size)⟩
    case measure=>simp[intOf];omega
  ·obtain rfl:k=S.length:=by omega
   have hd:decide ((S.length:Int)<(S.length:Int))=false:=by simp
   obtain⟨A9,c9,rfl,_,hr9⟩:=RI.of_own (enc:=CKy) (k:=2) (xs:=ss++l) (fun _=>rfl) (by rw[List.length_append];exact HO.out)
   rw[List.length_append]at hr9 ⊢
   have HEQ:Hid (keysS (ss++l)=RK):=Lib.hid (by
    rw[HRK.out]
    refine keysS_same fun y=>?_
    rw[List.mem_append,List.mem_append,HPM.out.mem_iff,HKE.out,HLE.out,List.take_length])
   have HUU:∀y∈ss++l,UK y:=fun y hy=>by
    rcases List.mem_append.1 hy with h|h
    ·obtain⟨j,hj⟩:=List.mem_iff_getElem?.1 (HPM.out.mem_iff.1 h)
     rw[List.getElem?_map]at hj
     cases hL:L[j]? with
     | none=>rw[hL]at hj;cases hj
     | some z =>
      rw[hL]at hj
      cases hj
      obtain⟨e,he⟩:∃e,es.toList[j]?=some e:=by
       have:=(List.getElem?_eq_some_iff.1 hL).1
       exact⟨_,List.getElem?_eq_getElem (by rw[Array.length_toList,HKI.out.size];exact this)⟩
      exact (HKI.out.each j e z he hL).2.1
    ·rw[HLE.out]at h
     exact HSU.out y (List.mem_of_mem_take (List.mem_filter.1 h).1)
   have HSO:=Lib.hid (ksort_fr A9 (ss.length+l.length) c9 (ss++l) wr hr9 HUU (by have:=HSS.out;have:=HSL.out;omega))
   rw[HEQ.out]at HSO
   clear hr9 HUU
   go_wp2_with (go_at_call 126;refine HSO.out.mono ?_;rintro e w9 ⟨A8,c8,rfl,hri8,hb8,hf8⟩;have HI8:=Lib.hid hri8;have HB8:=Lib.hid (below_next HB.out hb8);have HF8:Hid (∀a,A8=some a→w.heap.size≤a.block):=Lib.hid (fun a ha=>Nat.le_trans HB.out.size (hf8 a ha));clear hri8 hb8 hf8)
   go_ret
   first|exact⟨A8,⟨c8,rfl⟩,HI8.out,HB8.out,HF8.out⟩|exact⟨A8,c8,rfl,HI8.out,HB8.out,HF8.out⟩
end
end Go.Proofs.YtfidicbknjoafaaGreatDoor
