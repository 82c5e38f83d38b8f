/- No row sends back where its packets come in; a row of a source sends wherever one of any does, and where it was asked for itself; walked. -/
import Derived.Test.YtfidicbknjoafaaGreatDoorQYu
namespace Go.Proofs.YtfidicbknjoafaaGreatDoor
open Go.RowKit Lx Sm Go.Maps
set_option maxHeartbeats 8000000 in
set_option maxRecDepth 100000 in
theorem law_wout (ads:List Addr) (M:Cm) (x:Cfg) (r:Int) (A:Option Addr) (n c:Nat) (xs:List (Int × Int × Int)) (w:World) (hE:EnvC ads w) (hL:LW w M x) (hA:RI CHd 3 w A n xs) (hw:∀y∈xs,wfHd y) :
  Calls Tryz.prog 8 #[.agg #[.slice M.r.A M.r.n M.r.c,.slice M.l.A M.l.n M.l.c,.slice M.p.A M.p.n M.p.c,.slice M.o.A M.o.n M.o.c,.slice M.g.A M.g.n M.g.c,.slice M.s.A M.s.n M.s.c,.slice M.m.A M.m.n M.m.c],.int .i64 r,.slice A n c] w fun e w'=>e=.returned (.bool true)∧Below w.heap.size w w':=by
 have HB0:=Lib.hid ((Below.refl w.heap.size w).alloc (Nat.le_refl _) (.cells #[.slice M.r.A M.r.n M.r.c,.slice M.l.A M.l.n M.l.c,.slice M.p.A M.p.n M.p.c,.slice M.o.A M.o.n M.o.c,.slice M.g.A M.g.n M.g.c,.slice M.s.A M.s.n M.s.c,.slice M.m.A M.m.n M.m.c] 30))
 have HK0:Hid (Blk (w.alloc (.cells #[.slice M.r.A M.r.n M.r.c,.slice M.l.A M.l.n M.l.c,.slice M.p.A M.p.n M.p.c,.slice M.o.A M.o.n M.o.c,.slice M.g.A M.g.n M.g.c,.slice M.s.A M.s.n M.s.c,.slice M.m.A M.m.n M.m.c] 30)) w.heap.size 30 #[.slice M.r.A M.r.n M.r.c,.slice M.l.A M.l.n M.l.c,.slice M.p.A M.p.n M.p.c,.slice M.o.A M.o.n M.o.c,.slice M.g.A M.g.n M.g.c,.slice M.s.A M.s.n M.s.c,.slice M.m.A M.m.n M.m.c]):=Lib.hid (Blk.new _ _ _)
 have HF:=Lib.hid (first17_any ads _ (hE.below HB0.out))
 have HE:=Lib.hid hE
 have HL:=Lib.hid hL
 clear hE hL
 go_enter Tryz.func8,Tryz.ntmps8
 go_upto_region 1 with fail
 generalize w.alloc (.cells #[.slice M.r.A M.r.n M.r.c,.slice M.l.A M.l.n M.l.c,.slice M.p.A M.p.n M.p.c,.slice M.o.A M.o.n M.o.c,.slice M.g.A M.g.n M.g.c,.slice M.s.A M.s.n M.s.c,.slice M.m.A M.m.n M.m.c] 30)=W0 at *
 go_wp2_with fail
 refine HF.out.mono ?_
 rintro e w1 ⟨rfl,hb1⟩
 have HB1:=Lib.hid (below_next HB0.out hb1)
 have HK1:=Lib.hid (HK0.out.next hb1)
 have y0:w1.cell? ⟨w.heap.size,0,none⟩=some (.slice M.r.A M.r.n M.r.c):=HK1.out.cell 0
 have y1:w1.cell? ⟨w.heap.size,1,none⟩=some (.slice M.l.A M.l.n M.l.c):=HK1.out.cell 1
 have y2:w1.cell? ⟨w.heap.size,2,none⟩=some (.slice M.p.A M.p.n M.p.c):=HK1.out.cell 2
 have y3:w1.cell? ⟨w.heap.size,3,none⟩=some (.slice M.o.A M.o.n M.o.c):=HK1.out.cell 3
 have y4:w1.cell? ⟨w.heap.size,4,none⟩=some (.slice M.g.A M.g.n M.g.c):=HK1.out.cell 4
 have y5:w1.cell? ⟨w.heap.size,5,none⟩=some (.slice M.s.A M.s.n M.s.c):=HK1.out.cell 5
 have y6:w1.cell? ⟨w.heap.size,6,none⟩=some (.slice M.m.A M.m.n M.m.c):=HK1.out.cell 6
 have HG:=Lib.hid (light_any M x 8 w1 (HL.out.next HB1.out) (by omega))
 clear hb1 HF
 go_wp2_with fail
 refine HG.out.mono ?_
 rintro e w2 ⟨rfl,hb2⟩
 have HB2:=Lib.hid (below_next HB1.out hb2)
 have HK2:=Lib.hid (HK1.out.next hb2)
 clear y0 y1 y2 y3 y4 y5 y6 HG hb2
 cases hlp:lightP x 8 with
 | false =>
  go_wp2
  go_ret
  exact⟨rfl,HB2.out⟩
 | true =>
  have HOK:=Lib.hid (lt_ok hlp (by omega))
  have HRL:=Lib.hid (lt_rl hlp)
  have HC2:=Lib.hid ((HL.out.next HB2.out).cw HOK.out)
  have HN:=Lib.hid (new_light ads M x w2 (HE.out.below HB2.out) HC2.out HOK.out)
  have y0:w2.cell? ⟨w.heap.size,0,none⟩=some (.slice M.r.A M.r.n M.r.c):=HK2.out.cell 0
  have y1:w2.cell? ⟨w.heap.size,1,none⟩=some (.slice M.l.A M.l.n M.l.c):=HK2.out.cell 1
  have y2:w2.cell? ⟨w.heap.size,2,none⟩=some (.slice M.p.A M.p.n M.p.c):=HK2.out.cell 2
  have y3:w2.cell? ⟨w.heap.size,3,none⟩=some (.slice M.o.A M.o.n M.o.c):=HK2.out.cell 3
  have y4:w2.cell? ⟨w.heap.size,4,none⟩=some (.slice M.g.A M.g.n M.g.c):=HK2.out.cell 4
  have y5:w2.cell? ⟨w.heap.size,5,none⟩=some (.slice M.s.A M.s.n M.s.c):=HK2.out.cell 5
  have y6:w2.cell? ⟨w.heap.size,6,none⟩=some (.slice M.m.A M.m.n M.m.c):=HK2.out.cell 6
  clear hlp HL HB1 HK1 HB0 HK0
  by_cases h30:30<n
  ·have e0:decide ((30:Int)<(n:Int))=true:=by simp;omega
   go_wp2;go_ret;exact⟨rfl,HB2.out⟩
  have e0:decide ((30:Int)<(n:Int))=false:=by simp;omega
  have e0':¬ (30:Int)<(n:Int):=by omega
  by_cases hr:r<0∨(M.r.n:Int)≤r
  ·cases e1:decide (r<0) with
   | true=>go_wp2;go_ret;exact⟨rfl,HB2.out⟩
   | false =>
    have e2:decide ((M.r.n:Int)≤r)=true:=by simp only[decide_eq_false_iff_not,decide_eq_true_eq]at e1 ⊢;omega
    go_wp2;go_ret;exact⟨rfl,HB2.out⟩
  obtain⟨q,rfl⟩:∃q:Nat,r=(q:Int):=⟨r.toNat,by omega⟩
  have hqn:q<M.r.n:=by omega
  have e1:decide ((q:Int)<0)=false:=by simp
  have e2:decide ((M.r.n:Int)≤(q:Int))=false:=by simp;omega
  clear hr
  go_wp2_with fail
  refine HN.out.mono ?_
  rintro e w4 ⟨T,x',rfl,hT,hal,hb4⟩
  have HT:=Lib.hid hT
  have HAL:=Lib.hid hal
  have HB4:=Lib.hid (below_next HB2.out hb4)
  have HK4:=Lib.hid (HK2.out.next hb4)
  have HC4:=Lib.hid (HC2.out.next hb4)
  clear y0 y1 y2 y3 y4 y5 y6 HN hT hal hb4 HC2 HK2
  have qr:M.r.n≤16:=by have:=HC4.out.r.len;have:=HOK.out.rl;omega
  have ql:M.l.n≤12:=by have:=HC4.out.l.len;have:=HOK.out.ll;omega
  have qp:M.p.n≤24:=by have:=HC4.out.p.len;have:=HOK.out.pl;omega
  have qo:M.o.n≤30:=by have:=HC4.out.o.len;have:=HOK.out.ol;omega
  have qg:M.g.n≤4:=by have:=HC4.out.g.len;have:=HOK.out.gl;omega
  have qs:M.s.n≤5:=by have:=HC4.out.s.len;have:=HOK.out.sl;omega
  have qm:M.m.n≤10:=by have:=HC4.out.m.len;have:=HOK.out.ml;omega
  clear e0 e0' e1 e2
  have HOK':=Lib.hid (HOK.out.alike HAL.out (by rw[vcode_alike HAL.out];exact HOK.out.v))
  have HUX:=Lib.hid (fun y (hy:y∈xs)=>(hw y hy).2)
  have HRA:=Lib.hid (fun W (hW:Below w4.heap.size w4 W)=>rows_al (q:Int) A n c xs W w4 M (HT.out.next hW) HAL.out HC4.out HOK.out HOK'.out (hA.next (below_next HB4.out hW)) HUX.out (by omega))
  have HHL:=Lib.hid hA.len
  have hn30:n≤40:=by omega
  have HHA:=Lib.hid (hA.next HB4.out)
  have HLX:=Lib.hid hA.len
  clear hA hw
  go_upto_region 10 with (go_at_call 31;refine (HRA.out _ (Below.refl _ _)).mono ?_;rintro e w5 ⟨v5,ms,rfl,hown,hmp,hjr,hb5⟩;have HO5:=Lib.hid hown;have HMP:=Lib.hid hmp;have HJR:=Lib.hid hjr;have HB5:=Lib.hid hb5;clear hown hmp hjr hb5)
  clear HRA
  obtain⟨A5,c5,rfl,_,hr5⟩:=RI.of_own (enc:=CRw) (k:=6) (fun _=>rfl) HO5.out
  have HR5:=Lib.hid hr5
  have hml:ms.length≤1000:=by
   have h1:=congrArg List.length HMP.out
   rw[List.length_map]at h1
   have h2:=rows_len x (q:Int) (rowF x (q:Int)) xs HOK.out
   have:=HHL.out
   omega
  have HKS:Hid (∀m∈ms,∃k,k∈rowKeys x (q:Int) (rowF x (q:Int)) xs∧m.p=rowK x (q:Int) (rowF x (q:Int)) xs k):=Lib.hid (fun m hm=>by
   have h1:m.p∈ms.map PMr.p:=List.mem_map_of_mem hm
   rw[HMP.out]at h1
   unfold rowsP at h1
   obtain⟨k,hk,e⟩:=List.mem_map.1 h1
   exact⟨k,hk,e.symm⟩)
  have HHC:=Lib.hid (HB4.out.trans (HB5.out.mono HB4.out.size))
  clear HO5 hr5
  have HOF:=Lib.hid (of_al (q:Int) w5 (HT.out.next HB5.out) HAL.out)
  go_upto_region 11 with (go_at_call 47;refine HOF.out.mono ?_;rintro e w6 ⟨A6,c6,rfl,hj6,hb6⟩;have HJ6:=Lib.hid hj6;have HB6:=Lib.hid (below_next HB5.out hb6);have HN6:=Lib.hid hb6;clear hj6 hb6)
  have hOL:(rowF x (q:Int)).length≤1000:=by
   rw[rowF_all HOK.out.po (q:Int)]
   have:=picks_len (fun y:Int × Int × Int=>y.1==(q:Int)) x.ps x.ps.length
   have:=HOK.out.pl
   omega
  have HPL:Hid (∀k,(outP (inUp x (q:Int) k).1 (portsK (rowF x (q:Int)) k xs) (portsK (rowF x (q:Int)) (0,k.2) xs)).length≤1000):=Lib.hid (fun k=>by
   have h1:=outP_len (inUp x (q:Int) k).1 (portsK (rowF x (q:Int)) k xs) (portsK (rowF x (q:Int)) (0,k.2) xs)
   have h2:=portsK_len (rowF x (q:Int)) k xs
   have h3:=portsK_len (rowF x (q:Int)) (0,k.2) xs
   have:=HLX.out
   omega)
  clear HOF
  generalize hOO:rowF x (q:Int)=O at *
  clear hOO
  go_wp2_with fail
  go_loopw [12] (fun iv wr=>∃ (i:Nat),i≤ms.length∧iv=.int .i64 (i:Int)∧Hid (Below w6.heap.size w6 wr)) (fun iv _=>ms.length - (intOf iv).toNat)
  case atStart=>exact⟨0,Nat.zero_le _,rfl,Lib.hid (Below.refl _ _)⟩
  case round =>
   obtain⟨i,hi,rfl,HB⟩:=hrel
   generalize wr=W7 at *
   rcases Nat.lt_or_ge i ms.length with hlt|hge
   ·have hi0:(i:Int)<(ms.length:Int):=by omega
    have hi1:(0:Int)≤(i:Int):=by omega
    obtain⟨b5,o5,m,e5,hbl,hx,hcl⟩:=HR5.out.at_ hlt
    subst e5
    have hB5:=below_next HN6.out HB.out
    obtain⟨k,hk,hmk⟩:=HKS.out m (List.mem_of_getElem? hx)
    have hj:=HJR.out m (List.mem_of_getElem? hx)
    have HXS:Hid (m.p.xs=outP m.p.i (portsK O k xs) (portsK O (0,k.2) xs)∧m.p.k=k∧m.p.r=(q:Int)):=Lib.hid (by rw[hmk];exact⟨rfl,rfl,rfl⟩)
    have hpl:m.p.xs.length≤1000:=by rw[hmk];exact HPL.out k
    obtain⟨⟨pr,ri,ru,⟨ks,kg⟩,px⟩,pA,pc⟩:=m
    have HJX:=Lib.hid (fun W (hW:Below W7.heap.size W7 W)=>hj.next (below_next hB5 hW))
    clear hmk hk hx hj
    dsimp only at HXS hpl HJX
    obtain⟨hxs,hkk,hpr⟩:=HXS.out
    subst hpr
    obtain rfl:k=(ks,kg):=hkk.symm
    dsimp only at hxs
    clear HXS hkk
    have HMEM:Hid (∀a,px.contains a=true ↔ (a∈portsK O (ks,kg) xs∨a∈portsK O (0,kg) xs)∧a ≠ ri):=Lib.hid (fun a=>by rw[List.contains_iff_mem,hxs,outP_mem])
    have HRIS:Hid (px.Pairwise (·<·)):=Lib.hid (by rw[hxs];exact outP_rises _ _ _)
    clear hxs
    have t0:W7.cell? ⟨b5,o5+i*6,none⟩=some (.int .i64 (q:Int)):=(hB5.cell (p:=⟨b5,o5+i*6,none⟩) hbl).trans (hcl 0 _ rfl)
    have t1:W7.cell? ⟨b5,o5+i*6+1,none⟩=some (.int .i64 ri):=(hB5.cell (p:=⟨b5,o5+i*6+1,none⟩) hbl).trans (hcl 1 _ rfl)
    have t2:W7.cell? ⟨b5,o5+i*6+2,none⟩=some (.int .i64 ru):=(hB5.cell (p:=⟨b5,o5+i*6+2,none⟩) hbl).trans (hcl 2 _ rfl)
    have t3:W7.cell? ⟨b5,o5+i*6+3,none⟩=some (.int .u32 ks):=(hB5.cell (p:=⟨b5,o5+i*6+3,none⟩) hbl).trans (hcl 3 _ rfl)
    have t4:W7.cell? ⟨b5,o5+i*6+4,none⟩=some (.int .u32 kg):=(hB5.cell (p:=⟨b5,o5+i*6+4,none⟩) hbl).trans (hcl 4 _ rfl)
    have t5:W7.cell? ⟨b5,o5+i*6+5,none⟩=some (.slice pA px.length pc):=(hB5.cell (p:=⟨b5,o5+i*6+5,none⟩) hbl).trans (hcl 5 _ rfl)
    clear hcl hbl hB5
    have HNa:=Lib.hid ((Below.refl W7.heap.size W7).alloc (Nat.le_refl _) (.cells #[.int .i64 (q:Int),.int .i64 ri,.int .i64 ru,.int .u32 ks,.int .u32 kg,.slice pA px.length pc] 83))
    have HKa:=Lib.hid (Blk.new W7 83 #[.int .i64 (q:Int),.int .i64 ri,.int .i64 ru,.int .u32 ks,.int .u32 kg,.slice pA px.length pc])
    go_upto_region 15 with fail
    clear t0 t1 t2 t3 t4 t5
    generalize W7.alloc (.cells #[.int .i64 (q:Int),.int .i64 ri,.int .i64 ru,.int .u32 ks,.int .u32 kg,.slice pA px.length pc] 83)=W8 at *
    generalize hNk:W7.heap.size=Nk at HKa ⊢
    have HNK:=Lib.hid hNk
    clear hNk
    have q0:W8.cell? ⟨Nk,0,none⟩=some (.int .i64 (q:Int)):=HKa.out.cell 0
    have q1:W8.cell? ⟨Nk,1,none⟩=some (.int .i64 ri):=HKa.out.cell 1
    have q5:W8.cell? ⟨Nk,5,none⟩=some (.slice pA px.length pc):=HKa.out.cell 5
    have HA1:=Lib.hid (among_any pA px.length pc px ri W8 (HJX.out W8 HNa.out) (by omega))
    have hnc:px.contains ri=false:=by
     cases h:px.contains ri with
     | false=>rfl
     | true=>exact absurd rfl ((HMEM.out ri).1 h).2
    rw[hnc]at HA1
    clear hnc
    go_wp2_with (go_at_call 42;refine HA1.out.mono ?_;rintro e W9 ⟨rfl,hb9⟩;have HN9:=Lib.hid (below_next HNa.out hb9);have HK9:=Lib.hid (HKa.out.next hb9);clear hb9)
    clear q0 q1 q5 HA1 HKa
    go_loopw [14] (fun kv wr=>∃ (k:Nat),k≤px.length∧kv=.int .i64 (k:Int)∧Hid (Below W9.heap.size W9 wr)) (fun kv _=>px.length - (intOf kv).toNat)
    case atStart=>exact⟨0,Nat.zero_le _,rfl,Lib.hid (Below.refl _ _)⟩
    case round =>
     obtain⟨k,hk,rfl,HBk⟩:=hrel
     have HBW:=Lib.hid (below_next HN9.out HBk.out)
     have q5:wr.cell? ⟨Nk,5,none⟩=some (.slice pA px.length pc):=(HK9.out.next HBk.out).cell 5
     rcases Nat.lt_or_ge k px.length with hkl|hkg
     ·have hk0:(k:Int)<(px.length:Int):=by omega
      have hk1:(0:Int)≤(k:Int):=by omega
      go_upto_region 20 with fail
      clear q5
      obtain⟨bo,oo,hpA,hblo,hco⟩:=(HJX.out wr HBW.out).at_ hkl
      have hpk:px[k]?=some (px.getD k 0):=by rw[List.getD_eq_getElem?_getD,List.getElem?_eq_getElem hkl];rfl
      have hmem:=(HMEM.out (px.getD k 0)).1 (List.contains_iff_mem.2 (List.mem_of_getElem? hpk))
      have hown:O.contains (px.getD k 0)=true:=by
       rw[List.contains_iff_mem]
       rcases hmem.1 with h|h
       ·exact (portsK_mem.1 h).1
       ·exact (portsK_mem.1 h).1
      have R1:∀P:Snc wr,Calls Tryz.prog 42 #[.slice A6 O.length c6,.int .i64 (px.getD k 0)] P.W fun e w'=>e=.returned (.bool true)∧∃Q:Snc wr,w'=Q.W:=fun P=>Calls.since (by
       have:=among_any A6 O.length c6 O (px.getD k 0) P.W (HJ6.out.next (below_next HB.out (below_next HBW.out P.b))) (by omega)
       rw[hown]at this
       exact this)
      have R2:=R1
      have q5:∀s:Snc wr,s.W.cell? ⟨Nk,5,none⟩=some (.slice pA px.length pc):=fun s=>((HK9.out.next HBk.out).next s.b).cell 5
      have v1:∀s:Snc wr,s.W.cell? ⟨bo,oo+k,none⟩=some (.int .i64 (px.getD k 0)):=fun s=>(s.b.cell (p:=⟨bo,oo+k,none⟩) hblo).trans hco
      subst hpA
      have HC2:Hid (k=0∨∃j,k=j+1∧wr.cell? ⟨bo,oo+j,none⟩=some (.int .i64 (px.getD j 0))∧px.getD j 0<px.getD k 0):=Lib.hid (by
       cases k with
       | zero=>exact .inl rfl
       | succ j =>
        obtain⟨bo2,oo2,hpA2,_,hco2⟩:=(HJX.out wr HBW.out).at_ (k:=j) (by omega)
        cases hpA2
        refine .inr ⟨j,rfl,hco2,?_⟩
        have:=List.pairwise_iff_getElem.1 HRIS.out j (j+1) (by omega) hkl (by omega)
        rw[List.getD_eq_getElem?_getD,List.getD_eq_getElem?_getD,List.getElem?_eq_getElem hkl,List.getElem?_eq_getElem (show j<px.length by omega)]
        exact this)
      clear hmem hown hpk hco
      generalize px.getD k 0=pk at *
      rcases HC2.out with rfl|⟨j,rfl,hcj,hlt2⟩
      ·clear HC2
       simp only[Nat.add_zero]at v1
       have hk0':(0:Int)<(px.length:Int):=by omega
       refine wp_region_since (by kernel_rfl) (by kernel_rfl) ?_
       try simp only[List.append_eq,List.cons_append,List.nil_append]
       repeat (go_big_quiet_step ((go_at_call 42;first|with_reducible exact R1 _|with_reducible exact R2 _)))
       refine wpQuiet_nil ?_
       rintro w9_ ⟨P9_,rfl⟩
       have HB9:=Lib.hid (below_next HBk.out P9_.b)
       clear R1 R2 q5 v1
       go_wp2_with fail
       go_roundw
       case rel=>exact⟨0+1,by omega,by go_num,HB9⟩
       case measure=>simp[intOf];omega
      ·clear HC2
       have v2:∀s:Snc wr,s.W.cell? ⟨bo,oo+j,none⟩=some (.int .i64 (px.getD j 0)):=fun s=>(s.b.cell (p:=⟨bo,oo+j,none⟩) hblo).trans hcj
       have hjj:(0:Int)≤(j:Int):=by omega
       have hjl:(j:Int)<(px.length:Int):=by omega
       have g1:decide (pk≤px.getD j 0)=false:=decide_eq_false (by omega)
       have hk5:(j:Int)+1<(px.length:Int):=by omega
       have hpl':(px.length:Int)≤1000:=by omega
       have hpos:decide ((0:Int)<(j:Int)+1)=true:=decide_eq_true (by omega)
       have hpos':(0:Int)<(j:Int)+1:=by omega
       have hw1:IntKind.i64.wrap ((j:Int)+1 - 1)=(j:Int):=(IntWalk.i64_in _ (by omega)).trans (by omega)
       have hw2:IntKind.i64.wrap (j:Int)=(j:Int):=IntWalk.i64_in _ (by omega)
       generalize px.getD j 0=pj at *
       refine wp_region_since (by kernel_rfl) (by kernel_rfl) ?_
       try simp only[List.append_eq,List.cons_append,List.nil_append]
       repeat (go_big_quiet_step ((go_at_call 42;first|with_reducible exact R1 _|with_reducible exact R2 _)))
       refine wpQuiet_nil ?_
       rintro w9_ ⟨P9_,rfl⟩
       have HB9:=Lib.hid (below_next HBk.out P9_.b)
       clear R1 R2 q5 v1 v2 hw1 hw2
       go_wp2_with fail
       go_roundw
       case rel=>exact⟨j+1+1,by omega,by go_num,HB9⟩
       case measure=>simp[intOf];omega
     ·obtain rfl:k=px.length:=by omega
      have hd:decide ((px.length:Int)<(px.length:Int))=false:=by simp
      go_wp2_with fail
      generalize hK4:wr=W4 at *
      clear hK4 q5
      go_loopw [15] (fun jv wr=>∃ (j:Nat),j≤n∧jv=.int .i64 (j:Int)∧Hid (Below W9.heap.size W9 wr)) (fun jv _=>n - (intOf jv).toNat)
      case atStart=>exact⟨0,Nat.zero_le _,rfl,HBk⟩
      case round =>
       obtain⟨j,hj,rfl,HBj⟩:=hrel
       have HBX:=Lib.hid (below_next HN9.out HBj.out)
       rcases Nat.lt_or_ge j n with hjl|hjg
       ·have hj0:(j:Int)<(n:Int):=by omega
        have hj1:(0:Int)≤(j:Int):=by omega
        obtain⟨bh,oh,⟨pt,s1,g1⟩,hAh,hblh,hxh,hch⟩:=HHA.out.at_ hjl
        subst hAh
        have HBH:=Lib.hid (HB5.out.trans ((HN6.out.trans ((below_next HB.out HBX.out).mono HN6.out.size)).mono HB5.out.size))
        have c0:∀s:Snc wr,s.W.cell? ⟨bh,oh+j*3,none⟩=some (.int .i64 pt):=fun s=>((below_next HBH.out s.b).cell (p:=⟨bh,oh+j*3,none⟩) hblh).trans (hch 0 _ rfl)
        have c1:∀s:Snc wr,s.W.cell? ⟨bh,oh+j*3+1,none⟩=some (.int .u32 s1):=fun s=>((below_next HBH.out s.b).cell (p:=⟨bh,oh+j*3+1,none⟩) hblh).trans (hch 1 _ rfl)
        have c2:∀s:Snc wr,s.W.cell? ⟨bh,oh+j*3+2,none⟩=some (.int .u32 g1):=fun s=>((below_next HBH.out s.b).cell (p:=⟨bh,oh+j*3+2,none⟩) hblh).trans (hch 2 _ rfl)
        have HIN:=Lib.hid (List.mem_of_getElem? hxh)
        have k1:∀s:Snc wr,s.W.cell? ⟨Nk,1,none⟩=some (.int .i64 ri):=fun s=>((HK9.out.next HBj.out).next s.b).cell 1
        have k3:∀s:Snc wr,s.W.cell? ⟨Nk,3,none⟩=some (.int .u32 ks):=fun s=>((HK9.out.next HBj.out).next s.b).cell 3
        have k4:∀s:Snc wr,s.W.cell? ⟨Nk,4,none⟩=some (.int .u32 kg):=fun s=>((HK9.out.next HBj.out).next s.b).cell 4
        have k5:∀s:Snc wr,s.W.cell? ⟨Nk,5,none⟩=some (.slice pA px.length pc):=fun s=>((HK9.out.next HBj.out).next s.b).cell 5
        clear hch hxh
        obtain⟨V,hV⟩:∃V,((s1==ks)&&(g1==kg))=V:=⟨_,rfl⟩
        have R1:∀P:Snc wr,Calls Tryz.prog 38 #[.agg #[.int .u32 s1,.int .u32 g1],.agg #[.int .u32 ks,.int .u32 kg]] P.W fun e w'=>e=.returned (.bool V)∧∃Q:Snc wr,w'=Q.W:=fun P=>Calls.since (by rw[←hV];exact skey_any s1 g1 ks kg P.W)
        have HAS:Hid ((V=true∨(s1=0∧g1=kg))→O.contains pt=true→pt ≠ ri→px.contains pt=true):=Lib.hid (fun h h1 h2=>by
         rw[HMEM.out]
         refine⟨?_,h2⟩
         rcases h with h|⟨h3,h4⟩
         ·left
          rw[h]at hV
          simp only[Bool.and_eq_true,beq_iff_eq]at hV
          obtain⟨rfl,rfl⟩:=hV
          exact portsK_mem.2 ⟨List.contains_iff_mem.1 h1,HIN.out⟩
         ·right
          subst h3 h4
          exact portsK_mem.2 ⟨List.contains_iff_mem.1 h1,HIN.out⟩)
        clear hV
        have S1:∀P:Snc wr,Calls Tryz.prog 42 #[.slice A6 O.length c6,.int .i64 pt] P.W fun e w'=>e=.returned (.bool (O.contains pt))∧Below P.W.heap.size P.W w':=fun P=>among_any A6 O.length c6 O pt P.W (HJ6.out.next (below_next HB.out (below_next HBX.out P.b))) (by omega)
        have S2:∀P:Snc wr,Calls Tryz.prog 42 #[.slice pA px.length pc,.int .i64 pt] P.W fun e w'=>e=.returned (.bool (px.contains pt))∧Below P.W.heap.size P.W w':=fun P=>among_any pA px.length pc px pt P.W (HJX.out P.W (below_next HBX.out P.b)) (by omega)
        generalize O.contains pt=VO at *
        generalize px.contains pt=VP at *
        go_upto_region 25 with fail
        cases V with
        | true =>
         refine wp_region_since (by kernel_rfl) (by kernel_rfl) ?_
         try simp only[List.append_eq,List.cons_append,List.nil_append]
         repeat (go_big_quiet_step ((go_at_call 38;with_reducible exact R1 _)))
         refine wpQuiet_nil ?_
         rintro w9_ ⟨P9_,rfl⟩
         clear R1
         have hb9:=P9_.b
         generalize P9_.W=wb at *
         replace c0:∀s:Snc wb,s.W.cell? ⟨bh,oh+j*3,none⟩=some (.int .i64 pt):=fun s=>c0 ⟨s.W,below_next hb9 s.b⟩
         replace k1:∀s:Snc wb,s.W.cell? ⟨Nk,1,none⟩=some (.int .i64 ri):=fun s=>k1 ⟨s.W,below_next hb9 s.b⟩
         replace k5:∀s:Snc wb,s.W.cell? ⟨Nk,5,none⟩=some (.slice pA px.length pc):=fun s=>k5 ⟨s.W,below_next hb9 s.b⟩
         have R1:∀P:Snc wb,Calls Tryz.prog 42 #[.slice A6 O.length c6,.int .i64 pt] P.W fun e w'=>e=.returned (.bool VO)∧∃Q:Snc wb,w'=Q.W:=fun P=>Calls.since (S1 ⟨P.W,below_next hb9 P.b⟩)
         have R2:∀P:Snc wb,Calls Tryz.prog 42 #[.slice pA px.length pc,.int .i64 pt] P.W fun e w'=>e=.returned (.bool VP)∧∃Q:Snc wb,w'=Q.W:=fun P=>Calls.since (S2 ⟨P.W,below_next hb9 P.b⟩)
         have HB9_:=Lib.hid (below_next HBj.out hb9)
         clear hb9 S1 S2 c1 c2 k3 k4
         cases VO with
         | false =>
          go_upto_region 26 with fail
          refine wp_region_since (by kernel_rfl) (by kernel_rfl) ?_
          try simp only[List.append_eq,List.cons_append,List.nil_append]
          repeat (go_big_quiet_step ((go_at_call 42;first|with_reducible exact R1 _|with_reducible exact R2 _)))
          refine wpQuiet_nil ?_
          rintro w9_ ⟨P9_,rfl⟩
          have HBZ:=Lib.hid (below_next HB9_.out P9_.b)
          clear R1 R2 c0 k1 k5
          go_wp2_with fail
          go_roundw
          case rel=>exact⟨j+1,by omega,by go_num,HBZ⟩
          case measure=>simp[intOf];omega
         | true =>
          by_cases hpi:pt=ri
          ·subst hpi
           have hne:(pt != pt)=false:=by simp
           go_upto_region 26 with fail
           refine wp_region_since (by kernel_rfl) (by kernel_rfl) ?_
           try simp only[List.append_eq,List.cons_append,List.nil_append]
           repeat (go_big_quiet_step ((go_at_call 42;first|with_reducible exact R1 _|with_reducible exact R2 _)))
           refine wpQuiet_nil ?_
           rintro w9_ ⟨P9_,rfl⟩
           have HBZ:=Lib.hid (below_next HB9_.out P9_.b)
           clear R1 R2 c0 k1 k5
           go_wp2_with fail
           go_roundw
           case rel=>exact⟨j+1,by omega,by go_num,HBZ⟩
           case measure=>simp[intOf];omega
          ·obtain rfl:VP=true:=HAS.out (.inl rfl) rfl hpi
           have hne:(pt != ri)=true:=by simpa using hpi
           clear hpi
           go_upto_region 26 with fail
           refine wp_region_since (by kernel_rfl) (by kernel_rfl) ?_
           try simp only[List.append_eq,List.cons_append,List.nil_append]
           repeat (go_big_quiet_step ((go_at_call 42;first|with_reducible exact R1 _|with_reducible exact R2 _)))
           refine wpQuiet_nil ?_
           rintro w9_ ⟨P9_,rfl⟩
           have HBZ:=Lib.hid (below_next HB9_.out P9_.b)
           clear R1 R2 c0 k1 k5
           go_wp2_with fail
           go_roundw
           case rel=>exact⟨j+1,by omega,by go_num,HBZ⟩
           case measure=>simp[intOf];omega
        | false =>
         by_cases hs:s1=0
         ·by_cases hg:g1=kg
          ·subst hs hg
           have h1:(g1==g1)=true:=by simp
           refine wp_region_since (by kernel_rfl) (by kernel_rfl) ?_
           try simp only[List.append_eq,List.cons_append,List.nil_append]
           repeat (go_big_quiet_step ((go_at_call 38;with_reducible exact R1 _)))
           refine wpQuiet_nil ?_
           rintro w9_ ⟨P9_,rfl⟩
           clear R1
           have hb9:=P9_.b
           generalize P9_.W=wb at *
           replace c0:∀s:Snc wb,s.W.cell? ⟨bh,oh+j*3,none⟩=some (.int .i64 pt):=fun s=>c0 ⟨s.W,below_next hb9 s.b⟩
           replace k1:∀s:Snc wb,s.W.cell? ⟨Nk,1,none⟩=some (.int .i64 ri):=fun s=>k1 ⟨s.W,below_next hb9 s.b⟩
           replace k5:∀s:Snc wb,s.W.cell? ⟨Nk,5,none⟩=some (.slice pA px.length pc):=fun s=>k5 ⟨s.W,below_next hb9 s.b⟩
           have R1:∀P:Snc wb,Calls Tryz.prog 42 #[.slice A6 O.length c6,.int .i64 pt] P.W fun e w'=>e=.returned (.bool VO)∧∃Q:Snc wb,w'=Q.W:=fun P=>Calls.since (S1 ⟨P.W,below_next hb9 P.b⟩)
           have R2:∀P:Snc wb,Calls Tryz.prog 42 #[.slice pA px.length pc,.int .i64 pt] P.W fun e w'=>e=.returned (.bool VP)∧∃Q:Snc wb,w'=Q.W:=fun P=>Calls.since (S2 ⟨P.W,below_next hb9 P.b⟩)
           have HB9_:=Lib.hid (below_next HBj.out hb9)
           clear hb9 S1 S2 c1 c2 k3 k4
           cases VO with
           | false =>
            go_upto_region 26 with fail
            refine wp_region_since (by kernel_rfl) (by kernel_rfl) ?_
            try simp only[List.append_eq,List.cons_append,List.nil_append]
            repeat (go_big_quiet_step ((go_at_call 42;first|with_reducible exact R1 _|with_reducible exact R2 _)))
            refine wpQuiet_nil ?_
            rintro w9_ ⟨P9_,rfl⟩
            have HBZ:=Lib.hid (below_next HB9_.out P9_.b)
            clear R1 R2 c0 k1 k5
            go_wp2_with fail
            go_roundw
            case rel=>exact⟨j+1,by omega,by go_num,HBZ⟩
            case measure=>simp[intOf];omega
           | true =>
            by_cases hpi:pt=ri
            ·subst hpi
             have hne:(pt != pt)=false:=by simp
             go_upto_region 26 with fail
             refine wp_region_since (by kernel_rfl) (by kernel_rfl) ?_
             try simp only[List.append_eq,List.cons_append,List.nil_append]
             repeat (go_big_quiet_step ((go_at_call 42;first|with_reducible exact R1 _|with_reducible exact R2 _)))
             refine wpQuiet_nil ?_
             rintro w9_ ⟨P9_,rfl⟩
             have HBZ:=Lib.hid (below_next HB9_.out P9_.b)
             clear R1 R2 c0 k1 k5
             go_wp2_with fail
             go_roundw
             case rel=>exact⟨j+1,by omega,by go_num,HBZ⟩
             case measure=>simp[intOf];omega
            ·obtain rfl:VP=true:=HAS.out (.inr ⟨rfl,rfl⟩) rfl hpi
             have hne:(pt != ri)=true:=by simpa using hpi
             clear hpi
             go_upto_region 26 with fail
             refine wp_region_since (by kernel_rfl) (by kernel_rfl) ?_
             try simp only[List.append_eq,List.cons_append,List.nil_append]
             repeat (go_big_quiet_step ((go_at_call 42;first|with_reducible exact R1 _|with_reducible exact R2 _)))
             refine wpQuiet_nil ?_
             rintro w9_ ⟨P9_,rfl⟩
             have HBZ:=Lib.hid (below_next HB9_.out P9_.b)
             clear R1 R2 c0 k1 k5
             go_wp2_with fail
             go_roundw
             case rel=>exact⟨j+1,by omega,by go_num,HBZ⟩
             case measure=>simp[intOf];omega
          ·subst hs
           have h1:(g1==kg)=false:=by simpa using hg
           clear hg
           refine wp_region_since (by kernel_rfl) (by kernel_rfl) ?_
           try simp only[List.append_eq,List.cons_append,List.nil_append]
           repeat (go_big_quiet_step ((go_at_call 38;with_reducible exact R1 _)))
           refine wpQuiet_nil ?_
           rintro w9_ ⟨P9_,rfl⟩
           clear R1
           have hb9:=P9_.b
           generalize P9_.W=wb at *
           replace c0:∀s:Snc wb,s.W.cell? ⟨bh,oh+j*3,none⟩=some (.int .i64 pt):=fun s=>c0 ⟨s.W,below_next hb9 s.b⟩
           replace k1:∀s:Snc wb,s.W.cell? ⟨Nk,1,none⟩=some (.int .i64 ri):=fun s=>k1 ⟨s.W,below_next hb9 s.b⟩
           replace k5:∀s:Snc wb,s.W.cell? ⟨Nk,5,none⟩=some (.slice pA px.length pc):=fun s=>k5 ⟨s.W,below_next hb9 s.b⟩
           have R1:∀P:Snc wb,Calls Tryz.prog 42 #[.slice A6 O.length c6,.int .i64 pt] P.W fun e w'=>e=.returned (.bool VO)∧∃Q:Snc wb,w'=Q.W:=fun P=>Calls.since (S1 ⟨P.W,below_next hb9 P.b⟩)
           have R2:∀P:Snc wb,Calls Tryz.prog 42 #[.slice pA px.length pc,.int .i64 pt] P.W fun e w'=>e=.returned (.bool VP)∧∃Q:Snc wb,w'=Q.W:=fun P=>Calls.since (S2 ⟨P.W,below_next hb9 P.b⟩)
           have HB9_:=Lib.hid (below_next HBj.out hb9)
           clear hb9 S1 S2 c1 c2 k3 k4
           go_upto_region 26 with fail
           refine wp_region_since (by kernel_rfl) (by kernel_rfl) ?_
           try simp only[List.append_eq,List.cons_append,List.nil_append]
           repeat (go_big_quiet_step ((go_at_call 42;first|with_reducible exact R1 _|with_reducible exact R2 _)))
           refine wpQuiet_nil ?_
           rintro w9_ ⟨P9_,rfl⟩
           have HBZ:=Lib.hid (below_next HB9_.out P9_.b)
           clear R1 R2 c0 k1 k5
           go_wp2_with fail
           go_roundw
           case rel=>exact⟨j+1,by omega,by go_num,HBZ⟩
           case measure=>simp[intOf];omega
         ·have h1:(s1==0)=false:=by simpa using hs
          clear hs
          refine wp_region_since (by kernel_rfl) (by kernel_rfl) ?_
          try simp only[List.append_eq,List.cons_append,List.nil_append]
          repeat (go_big_quiet_step ((go_at_call 38;with_reducible exact R1 _)))
          refine wpQuiet_nil ?_
          rintro w9_ ⟨P9_,rfl⟩
          clear R1
          have hb9:=P9_.b
          generalize P9_.W=wb at *
          replace c0:∀s:Snc wb,s.W.cell? ⟨bh,oh+j*3,none⟩=some (.int .i64 pt):=fun s=>c0 ⟨s.W,below_next hb9 s.b⟩
          replace k1:∀s:Snc wb,s.W.cell? ⟨Nk,1,none⟩=some (.int .i64 ri):=fun s=>k1 ⟨s.W,below_next hb9 s.b⟩
          replace k5:∀s:Snc wb,s.W.cell? ⟨Nk,5,none⟩=some (.slice pA px.length pc):=fun s=>k5 ⟨s.W,below_next hb9 s.b⟩
          have R1:∀P:Snc wb,Calls Tryz.prog 42 #[.slice A6 O.length c6,.int .i64 pt] P.W fun e w'=>e=.returned (.bool VO)∧∃Q:Snc wb,w'=Q.W:=fun P=>Calls.since (S1 ⟨P.W,below_next hb9 P.b⟩)
          have R2:∀P:Snc wb,Calls Tryz.prog 42 #[.slice pA px.length pc,.int .i64 pt] P.W fun e w'=>e=.returned (.bool VP)∧∃Q:Snc wb,w'=Q.W:=fun P=>Calls.since (S2 ⟨P.W,below_next hb9 P.b⟩)
          have HB9_:=Lib.hid (below_next HBj.out hb9)
          clear hb9 S1 S2 c1 c2 k3 k4
          go_upto_region 26 with fail
          refine wp_region_since (by kernel_rfl) (by kernel_rfl) ?_
          try simp only[List.append_eq,List.cons_append,List.nil_append]
          repeat (go_big_quiet_step ((go_at_call 42;first|with_reducible exact R1 _|with_reducible exact R2 _)))
          refine wpQuiet_nil ?_
          rintro w9_ ⟨P9_,rfl⟩
          have HBZ:=Lib.hid (below_next HB9_.out P9_.b)
          clear R1 R2 c0 k1 k5
          go_wp2_with fail
          go_roundw
          case rel=>exact⟨j+1,by omega,by go_num,HBZ⟩
          case measure=>simp[intOf];omega
       ·obtain rfl:j=n:=by omega
        have hd2:decide ((j:Int)<(j:Int))=false:=by simp
        go_wp2_with fail
        go_roundw
        case rel=>exact⟨i+1,by omega,by go_num,Lib.hid (below_next HB.out HBX.out)⟩
        case measure=>simp[intOf];omega
   ·obtain rfl:i=ms.length:=by omega
    have d1:decide ((ms.length:Int)<(ms.length:Int))=false:=by simp
    go_wp2
    go_ret
    exact⟨rfl,HB4.out.trans ((below_next HB6.out HB.out).mono HB4.out.size)⟩
end Go.Proofs.YtfidicbknjoafaaGreatDoor
