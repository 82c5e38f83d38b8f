/- rib. -/
import Derived.Test.YtfidicbknjoafaaGreatDoorQStrb
import Derived.Test.YtfidicbknjoafaaGreatDoorQTab
import Derived.Test.YtfidicbknjoafaaGreatDoorQCp
import Derived.Test.YtfidicbknjoafaaGreatDoorQCg
import Derived.Test.YtfidicbknjoafaaGreatDoorQAddr
import Derived.Test.YtfidicbknjoafaaGreatDoorQNw
import Derived.Test.YtfidicbknjoafaaGreatDoorQLg
import Derived.Test.YtfidicbknjoafaaGreatDoorQLi
import Derived.Test.YtfidicbknjoafaaGreatDoorQTn
import Derived.RangeFuncBox
import Derived.Deep.Cut
import Derived.Test.YtfidicbknjoafaaGreatDoorQShw
import Derived.Test.YtfidicbknjoafaaGreatDoorQSort
namespace Go.Proofs.YtfidicbknjoafaaGreatDoor
def rowG (gs:List (Int × Int × Int)):Nat→Tr.Row
 | 0=>[]
 | k+1=>match gs[k]? with
  | some y=>Tr.putv (rowG gs k) (y.1,y.2.1) (k:Int)
  | none=>rowG gs k
def rootP (x:Cfg) (g:Int):Option Int:=(Tr.look (rowG x.gs x.gs.length) g).map fun q=>(x.gs.getD (q.2.headD 0).toNat (0,0,0)).2.2
structure RowIn (L:Tr.Row) (k:Nat):Prop where
 len:L.length≤k
 at_:∀p xs,Tr.get L p=some xs→xs ≠ []∧xs.length≤k∧∀q∈xs,∃j:Nat,j<k∧q=(j:Int)
theorem RowIn.nil:RowIn [] 0:=⟨Nat.le_refl _,fun p xs h=>by cases h⟩
theorem RowIn.more {L:Tr.Row} {k:Nat} (h:RowIn L k):RowIn L (k+1) :=
 ⟨Nat.le_succ_of_le h.len,fun p xs hx=>⟨(h.at_ p xs hx).1,Nat.le_succ_of_le (h.at_ p xs hx).2.1,fun q hq=>by
  obtain⟨j,hj,e⟩:=(h.at_ p xs hx).2.2 q hq
  exact⟨j,by omega,e⟩⟩⟩
theorem RowIn.putv {L:Tr.Row} {k:Nat} (h:RowIn L k) (p:Tr.Pf):RowIn (Tr.putv L p (k:Int)) (k+1):=by
 unfold Tr.putv
 split
 ·refine⟨?_,fun q xs hx=>?_⟩
  ·rw[Tr.put_len]
   have:=h.len
   split <;> omega
  ·rw[Tr.get_put]at hx
   split at hx
   ·simp only[Option.some.injEq]at hx
    subst hx
    have hg:∀ys,Tr.get L p=some ys→ys.length≤k∧∀q∈ys,∃j:Nat,j<k∧q=(j:Int):=fun ys e=>(h.at_ p ys e).2
    cases e:Tr.get L p with
    | none =>
     refine⟨by simp,by simp,fun q hq=>?_⟩
     simp at hq
     exact⟨k,by omega,hq⟩
    | some ys =>
     obtain⟨h1,h2⟩:=hg ys e
     refine⟨by simp,by simp;exact h1,fun q hq=>?_⟩
     simp only[Option.getD_some,List.mem_append,List.mem_singleton]at hq
     rcases hq with hq|hq
     ·obtain⟨j,hj,e⟩:=h2 q hq
      exact⟨j,by omega,e⟩
     ·exact⟨k,by omega,hq⟩
   ·exact h.more.at_ q xs hx
 ·exact h.more
theorem rowG_in (gs:List (Int × Int × Int)):∀k,RowIn (rowG gs k) k
 | 0=>RowIn.nil
 | k+1=>by
  unfold rowG
  split
  ·exact (rowG_in gs k).putv _
  ·exact (rowG_in gs k).more
theorem lk_get {L:Tr.Row} {a:Int}:∀ (n k:Nat) (xs:List Int),Tr.lk L a n=some (k,xs)→∃p,Tr.get L p=some xs
 | 0,k,xs,h=>by cases h
 | n+1,k,xs,h=>by
  unfold Tr.lk at h
  split at h
  ·rename_i ys e
   simp only[Option.some.injEq,Prod.mk.injEq]at h
   exact⟨_,by rw[←h.2];exact e⟩
  ·exact lk_get n k xs h
theorem look_in {L:Tr.Row} {m:Nat} (h:RowIn L m) {a:Int} {k:Nat} {xs:List Int} (e:Tr.look L a=some (k,xs)):xs.length≤m∧∃ (j:Nat) (t:List Int),j<m∧xs=(j:Int) :: t:=by
 obtain⟨p,hp⟩:=lk_get _ _ _ e
 obtain⟨h1,h2,h3⟩:=h.at_ p xs hp
 cases xs with
 | nil=>exact absurd rfl h1
 | cons q t =>
  obtain⟨j,hj,rfl⟩:=h3 q (List.mem_cons_self ..)
  exact⟨h2,j,t,hj,rfl⟩
theorem rowG_get_len (gs:List (Int × Int × Int)) (k:Nat) (p:Tr.Pf):((Tr.get (rowG gs k) p).getD []).length≤k:=by
 cases e:Tr.get (rowG gs k) p with
 | none=>simp
 | some xs=>exact ((rowG_in gs k).at_ p xs e).2.1
end Go.Proofs.YtfidicbknjoafaaGreatDoor
namespace Go.Proofs.YtfidicbknjoafaaGreatDoor
open Go.RowKit Lx Sm
end Go.Proofs.YtfidicbknjoafaaGreatDoor
namespace Go.Proofs.YtfidicbknjoafaaGreatDoor
open Go.RowKit Lx Go.Maps
theorem fld_ranges (M:Cm) (w:World):(Instr.field 30 (.agg #[.slice M.r.A M.r.n M.r.c,.slice M.l.A M.l.n M.l.c,.slice M.p.A M.p.n M.p.c,.slice M.o.A M.o.n M.o.c,.slice M.g.A M.g.n M.g.c,.slice M.s.A M.s.n M.s.c,.slice M.m.A M.m.n M.m.c]) 4).run Tryz.prog w=.ok (.slice M.g.A M.g.n M.g.c) w:=by kernel_rfl
theorem fld_rports (M:Cm) (w:World):(Instr.field 30 (.agg #[.slice M.r.A M.r.n M.r.c,.slice M.l.A M.l.n M.l.c,.slice M.p.A M.p.n M.p.c,.slice M.o.A M.o.n M.o.c,.slice M.g.A M.g.n M.g.c,.slice M.s.A M.s.n M.s.c,.slice M.m.A M.m.n M.m.c]) 2).run Tryz.prog w=.ok (.slice M.p.A M.p.n M.p.c) w:=by kernel_rfl
section
variable {b:Nat} {T:TP} {x:Cfg} {gs:List Int}
set_option maxHeartbeats 4000000 in
set_option maxRecDepth 100000 in
theorem rootof_any (g:Int) (hg:U32 g) (w:World) (h:TW w b T x gs) (hrn:∀y∈x.rs,(str y.1).size≤281474976710656) (hln:∀y∈x.ls,(str y.1).size≤281474976710656)
  (hgs:∀y∈x.gs,wfP (y.1,y.2.1)) (hl:x.gs.length≤1000) :
  Calls Tryz.prog 67 #[.pointer (some ⟨T.N,0,none⟩),.int .u32 g] w fun e w'=>e=.returned (.tuple #[.int .u32 ((rootP x g).getD 0),.bool (rootP x g).isSome])∧Below w.heap.size w w':=by
 have HCF:=Lib.hid (config_any w h hrn hln)
 have HGS:=Lib.hid hgs
 have HG:=Lib.hid hg
 have HRP:Hid (rootP x g=(Tr.look (rowG x.gs x.gs.length) g).map fun q=>(x.gs.getD (q.2.headD 0).toNat (0,0,0)).2.2):=Lib.hid rfl
 generalize rootP x g=rp at *
 clear h hrn hln hgs hg
 go_enter Tryz.func67,Tryz.ntmps67
 go_upto_region 2 with (go_at_call 63;(with_reducible refine HCF.out.mono ?_);rintro e w1 ⟨M,x',rfl,hc,hal,hb1⟩;have HIG:=Lib.hid hc.cw.g;have HAL:=Lib.hid hal;have HB1:=Lib.hid hb1;have hfd:=fld_ranges M;clear hc hal hb1)
 clear hfd HCF
 rw[HAL.out.g]at HIG
 have HLN:Hid (x.gs.length=M.g.n):=Lib.hid HIG.out.1
 have hnb:M.g.n≤1000:=by have:=HLN.out;omega
 rw[HLN.out]at HRP
 clear HAL hl
 go_upto_region 3 with fail
 have HO0:=Lib.hid (OT.new (B:=w1.heap.size) w1 (Nat.le_refl _))
 have HB2:=Lib.hid ((Below.refl w1.heap.size w1).alloc (Nat.le_refl _) (.cells #[.map none] 194))
 generalize w1.alloc (.cells #[.map none] 194)=W2 at *
 generalize hgz:w1.heap.size=B at *
 have HGZ:=Lib.hid hgz
 clear hgz
 go_wp2_with fail
 go_loopw [18] (fun iv wr=>∃k:Nat,k≤M.g.n∧iv=.int .i64 k∧Hid (OT B wr B (rowG x.gs k))∧Hid (Below B w1 wr)) (fun iv _=>M.g.n - (intOf iv).toNat)
 case atStart=>exact⟨0,by omega,rfl,HO0,HB2⟩
 case round =>
  obtain⟨k,hk,rfl,HO,HB⟩:=hrel
  rcases Nat.lt_or_ge k M.g.n with hlt|hge
  ·obtain⟨bk,ok,⟨a1,b1,r1⟩,hA,hbk,hx,f0,f1,f2⟩:=IRange.cells (IR.next HIG.out (HGZ.out ▸ HB.out)) hlt
   have HX:=Lib.hid hx
   have hi0:(k:Int)<(M.g.n:Int):=by omega
   have hi1:(0:Int)≤(k:Int):=by omega
   have HR1:Hid (rowG x.gs (k+1)=Tr.putv (rowG x.gs k) (a1,b1) (k:Int)):=Lib.hid (by
    show (match x.gs[k]? with|some y=>Tr.putv (rowG x.gs k) (y.1,y.2.1) (k:Int)|none=>rowG x.gs k)=_
    rw[hx])
   have HW:=Lib.hid (HGS.out _ (List.mem_of_getElem? hx))
   have HIN:=Lib.hid (rowG_in x.gs k)
   have HGL:=Lib.hid (rowG_get_len x.gs k (a1,b1))
   have HBz:Hid (B≤wr.heap.size):=Lib.hid (by have:=HB.out.size;rw[HGZ.out]at this;exact this)
   dsimp only at HW
   rw[hA]
   generalize rowG x.gs k=L at *
   clear hA hx
   go_wp2_with (go_at_call 115;(with_reducible refine (ot_put _ _ _ _ (HO.out.next ((Below.refl _ _).alloc (Nat.le_refl _) _)) (by have:=HBz.out;simp;omega) HW.out (by have:=HIN.out.len;omega) (by have:=HGL.out;omega)).mono ?_);rintro e w3 ⟨rfl,ho3,hb3⟩;have HO3:=Lib.hid ho3;have HB3:=Lib.hid (HB.out.trans (((Below.refl wr.heap.size wr).alloc (Nat.le_refl _) _).mono HBz.out |>.trans hb3));clear ho3 hb3)
   go_roundw
   case rel=>exact⟨k+1,by omega,by go_num,by rw[HR1.out];exact HO3,HB3⟩
   case measure=>simp[intOf];omega
  ·have hk2:k=M.g.n:=by omega
   subst hk2
   have hd:decide ((M.g.n:Int)<(M.g.n:Int))=false:=by simp
   have HLK:=Lib.hid (ot_look wr g HO.out HG.out.1 HG.out.2 (fun p=>by have:=rowG_get_len x.gs M.g.n p;omega))
   have HIN:=Lib.hid (rowG_in x.gs M.g.n)
   generalize rowG x.gs M.g.n=L at *
   have HBz:Hid (Below w.heap.size w wr):=Lib.hid (HB1.out.trans ((HGZ.out ▸ HB.out:Below w1.heap.size w1 wr).mono HB1.out.size))
   have HIGw:=Lib.hid (IR.next HIG.out (HGZ.out ▸ HB.out:Below w1.heap.size w1 wr))
   cases hlk:Tr.look L g with
   | none =>
    have HL2:Hid (Calls Tryz.prog 116 #[.pointer (some ⟨B,0,none⟩),.int .u32 g] wr fun e w'=>e=.returned (.tuple #[.agg #[.int .u32 0,.int .i64 0],.slice none 0 0,.bool false])∧Below wr.heap.size wr w'):=Lib.hid (HLK.out.mono fun e w' hh=>by
     obtain⟨hb,h1|⟨k,xs,v,h2,_⟩⟩:=hh
     ·exact⟨h1.2,hb⟩
     ·rw[hlk]at h2;cases h2)
    have HR2:Hid (rp=none):=Lib.hid (by rw[HRP.out,hlk];rfl)
    clear hlk HLK
    go_wp2_with (go_at_call 116;(with_reducible refine HL2.out.mono ?_);rintro e w4 ⟨rfl,hb4⟩)
    go_ret2
    exact⟨by rw[HR2.out];rfl,below_next HBz.out (hb4.alloc hb4.size _)⟩
   | some q =>
    obtain⟨kk,xs⟩:=q
    obtain⟨_,j,t,hj,rfl⟩:=look_in HIN.out hlk
    have HL2:Hid (Calls Tryz.prog 116 #[.pointer (some ⟨B,0,none⟩),.int .u32 g] wr fun e w'=>∃A4 c4,e=.returned (.tuple #[.agg #[.int .u32 (Tr.ar g kk),.int .i64 (kk:Int)],.slice A4 ((j:Int) :: t).length c4,.bool true])∧JR w' A4 ((j:Int) :: t).length ((j:Int) :: t)∧Below wr.heap.size wr w'):=Lib.hid (HLK.out.mono fun e w' hh=>by
     obtain⟨hb,h1|⟨k,xs,v,h2,h3,h4⟩⟩:=hh
     ·rw[hlk]at h1;cases h1.1
     ·rw[hlk]at h2
      simp only[Option.some.injEq,Prod.mk.injEq]at h2
      obtain⟨rfl,rfl⟩:=h2
      obtain⟨A4,c4,rfl,hjr⟩:=own_jr h4
      exact⟨A4,c4,h3,hjr,hb⟩)
    obtain⟨bk,ok,⟨a1,b1,r1⟩,hA,hbk,hx,f0,f1,f2⟩:=IRange.cells HIGw.out hj
    have HR2:Hid (rp=some r1):=Lib.hid (by
     rw[HRP.out,hlk]
     show some (x.gs.getD ((j:Int)).toNat (0,0,0)).2.2=some r1
     rw[Int.toNat_natCast,List.getD_eq_getElem?_getD,hx];rfl)
    have HF2:=Lib.hid f2
    have HBK:=Lib.hid hbk
    have hj1:(j:Int)<(M.g.n:Int):=by omega
    have hj0:(0:Int)≤(j:Int):=by omega
    have hlen:(0:Int)<((((j:Int) :: t).length:Nat):Int):=by simp only[List.length_cons];omega
    have HHD:Hid (((j:Int) :: t).getD 0 0=(j:Int)):=Lib.hid rfl
    have HLT:Hid (0<((j:Int) :: t).length):=Lib.hid (by simp)
    rw[hA]
    clear hlk HLK hx f0 f1 f2 hbk hA hd
    generalize ((j:Int) :: t)=xs at *
    go_upto_region 9 with (go_at_call 116;(with_reducible refine HL2.out.mono ?_);rintro e w4 ⟨A4,c4,rfl,hjr,hb4⟩)
    obtain⟨bj,oj,rfl,hbj,hcj⟩:=hjr.at_ HLT.out
    rw[HHD.out,Nat.add_zero]at hcj
    have HB5:=Lib.hid (hb4.alloc hb4.size (.cells #[.int .u32 (Tr.ar g kk),.int .i64 (kk:Int)] 125))
    have cj:(w4.alloc (.cells #[.int .u32 (Tr.ar g kk),.int .i64 (kk:Int)] 125)).cell? ⟨bj,oj,none⟩=some (.int .i64 (j:Int)):=(((Below.refl w4.heap.size w4).alloc (Nat.le_refl _) _).cell (p:=⟨bj,oj,none⟩) hbj).trans hcj
    have cr:(w4.alloc (.cells #[.int .u32 (Tr.ar g kk),.int .i64 (kk:Int)] 125)).cell? ⟨bk,ok+j*3+2,none⟩=some (.int .u32 r1):=(HB5.out.cell (p:=⟨bk,ok+j*3+2,none⟩) HBK.out).trans HF2.out
    generalize w4.alloc (.cells #[.int .u32 (Tr.ar g kk),.int .i64 (kk:Int)] 125)=W5 at *
    clear hjr hb4 hbj hcj
    go_wp2
    go_ret2
    exact⟨by rw[HR2.out];rfl,below_next HBz.out HB5.out⟩
theorem rootP_mem {g a:Int} (hr:rootP x g=some a):∃y∈x.gs,a=y.2.2:=by
 unfold rootP at hr
 cases hlk:Tr.look (rowG x.gs x.gs.length) g with
 | none=>rw[hlk]at hr;cases hr
 | some q =>
  obtain⟨kk,xs⟩:=q
  obtain⟨_,j,t,hj,rfl⟩:=look_in (rowG_in x.gs x.gs.length) hlk
  rw[hlk]at hr
  simp only[Option.map_some,List.headD_cons,Option.some.injEq,Int.toNat_natCast]at hr
  refine⟨x.gs[j],List.getElem_mem _,?_⟩
  rw[←hr,List.getD_eq_getElem?_getD,List.getElem?_eq_getElem hj]
  rfl
def rtrP (x:Cfg) (g:Int):Option Int:=(rootP x g).bind fun a=>(lastAt a x.ps x.ps.length).map fun j=>(x.ps.getD j (0,0,0)).1
theorem lastAt_lt {a:Int} {ps:List (Int × Int × Int)}:∀ {k o:Nat},lastAt a ps k=some o→o<ps.length
 | 0,_,h=>by cases h
 | k+1,o,h=>by
  unfold lastAt at h
  split at h
  ·rename_i y hy
   split at h
   ·cases h
    exact (List.getElem?_eq_some_iff.1 hy).1
   ·exact lastAt_lt h
  ·exact lastAt_lt h
set_option maxHeartbeats 4000000 in
set_option maxRecDepth 100000 in
theorem rootr_any (g:Int) (hg:U32 g) (w:World) (h:TW w b T x gs) (hrn:∀y∈x.rs,(str y.1).size≤281474976710656) (hln:∀y∈x.ls,(str y.1).size≤281474976710656)
  (hgs:∀y∈x.gs,wfP (y.1,y.2.1)) (hgr:∀y∈x.gs,U32 y.2.2) (hl:x.gs.length≤1000) :
  Calls Tryz.prog 195 #[.pointer (some ⟨T.N,0,none⟩),.int .u32 g] w fun e w'=>e=.returned (.tuple #[.int .i64 ((rtrP x g).getD 0),.bool (rtrP x g).isSome])∧Below w.heap.size w w':=by
 have HOF:=Lib.hid (rootof_any g hg w h hrn hln hgs hl)
 have HTW:=Lib.hid h
 have HRN:=Lib.hid (And.intro hrn hln)
 have HRR:Hid (rtrP x g=(rootP x g).bind fun a=>(lastAt a x.ps x.ps.length).map fun j=>(x.ps.getD j (0,0,0)).1):=Lib.hid rfl
 generalize rtrP x g=rr at *
 cases hr:rootP x g with
 | none =>
  rw[hr]at HOF HRR
  have HR2:Hid (rr=none):=Lib.hid HRR.out
  clear hr h hrn hln hgs hgr hl hg
  go_enter Tryz.func195,Tryz.ntmps195
  go_wp2_with (go_at_call 67;(with_reducible refine HOF.out.mono ?_);rintro e w1 ⟨rfl,hb1⟩)
  go_ret2
  exact⟨by rw[HR2.out];rfl,hb1⟩
 | some a =>
  obtain⟨y,hy,ea⟩:=rootP_mem hr
  have ha:U32 a:=ea ▸ hgr y hy
  rw[hr]at HOF HRR
  have HTA:=Lib.hid fun W (hW:Below w.heap.size w W)=>tat_any a ha W (h.next hW)
  have HCF:=Lib.hid fun W (hW:Below w.heap.size w W)=>config_any W (h.next hW) hrn hln
  clear hr h hrn hln hgs hgr hl hg hy ea ha
  cases hj:lastAt a x.ps x.ps.length with
  | none =>
   rw[hj]at HTA
   have HR2:Hid (rr=none):=Lib.hid (by rw[HRR.out];show Option.map _ (lastAt a x.ps x.ps.length)=none;rw[hj];rfl)
   clear hj
   go_enter Tryz.func195,Tryz.ntmps195
   go_wp2_with (first
    | (go_at_call 67;(with_reducible refine HOF.out.mono ?_);rintro e w1 ⟨rfl,hb1⟩;have HB1:=Lib.hid hb1;clear hb1)
    | (go_at_call 58;(with_reducible refine (HTA.out _ HB1.out).mono ?_);rintro e w2 ⟨rfl,hb2⟩;have HB2:=Lib.hid (below_next HB1.out hb2);clear hb2))
   go_ret2
   exact⟨by rw[HR2.out];rfl,HB2.out⟩
  | some j =>
   rw[hj]at HTA
   have HJ:=Lib.hid (lastAt_lt hj)
   have HR2:Hid (rr=some (x.ps.getD j (0,0,0)).1):=Lib.hid (by rw[HRR.out];show Option.map _ (lastAt a x.ps x.ps.length)=_;rw[hj];rfl)
   clear hj
   go_enter Tryz.func195,Tryz.ntmps195
   go_wp2_with (first
    | (go_at_call 67;(with_reducible refine HOF.out.mono ?_);rintro e w1 ⟨rfl,hb1⟩;have HB1:=Lib.hid hb1;clear hb1)
    | (go_at_call 58;(with_reducible refine (HTA.out _ HB1.out).mono ?_);rintro e w2 ⟨rfl,hb2⟩;have HB2:=Lib.hid (below_next HB1.out hb2);clear hb2)
    | (go_at_call 63;(with_reducible refine (HCF.out _ HB2.out).mono ?_);rintro e w3 ⟨M,x',rfl,hc,hal,hb3⟩;have HB3:=Lib.hid (below_next HB2.out hb3);have hip:=hc.cw.p;rw[hal.p]at hip;obtain⟨bp,op,⟨r2,l2,a2⟩,hA2,hbp,hx2,f0,f1,f2⟩:=IPort.cells hip (i:=j) (by rw[←hip.1];exact HJ.out);have hfd:=fld_rports M;rw[hA2]at hfd;rw[hA2];have hji:(j:Int)<(M.p.n:Int):=(by have:=hip.1;have:=HJ.out;omega);have hj0:(0:Int)≤(j:Int):=(by omega);have HXP:=Lib.hid hx2;clear hc hal hb3 hip hx2 f1 f2 hbp hA2))
   go_ret2
   exact⟨by rw[HR2.out,List.getD_eq_getElem?_getD,HXP.out];rfl,HB3.out⟩
set_option maxHeartbeats 4000000 in
theorem rootis_any (r g:Int) (hg:U32 g) (w:World) (h:TW w b T x gs) (hrn:∀y∈x.rs,(str y.1).size≤281474976710656) (hln:∀y∈x.ls,(str y.1).size≤281474976710656)
  (hgs:∀y∈x.gs,wfP (y.1,y.2.1)) (hgr:∀y∈x.gs,U32 y.2.2) (hl:x.gs.length≤1000) :
  Calls Tryz.prog 125 #[.pointer (some ⟨T.N,0,none⟩),.int .i64 r,.int .u32 g] w fun e w'=>e=.returned (.bool (rtrP x g==some r))∧Below w.heap.size w w':=by
 have HRO:=Lib.hid (rootr_any g hg w h hrn hln hgs hgr hl)
 clear h hrn hln hgs hgr hl hg
 cases hr:rtrP x g with
 | none =>
  rw[hr]at HRO
  clear hr
  go_enter Tryz.func125,Tryz.ntmps125
  go_wp2_with (go_at_call 195;(with_reducible refine HRO.out.mono ?_);rintro e w1 ⟨rfl,hb1⟩)
  go_ret
  exact⟨rfl,hb1⟩
 | some q =>
  rw[hr]at HRO
  clear hr
  have HQ:Hid (((some q:Option Int)==some r)=(q==r)):=Lib.hid rfl
  rw[HQ.out]
  go_enter Tryz.func125,Tryz.ntmps125
  go_wp2_with (go_at_call 195;(with_reducible refine HRO.out.mono ?_);rintro e w1 ⟨rfl,hb1⟩)
  go_ret
  exact⟨rfl,hb1⟩
end
end Go.Proofs.YtfidicbknjoafaaGreatDoor
namespace Go.Proofs.YtfidicbknjoafaaGreatDoor
open Go.RowKit Lx Sm Go.Maps Go.Sort Go.Shelf
theorem CW.ranges {w:World} {M:Cm} {x:Cfg} (h:CW w M x) {A:Option Addr} {n c:Nat} {gs:List (Int × Int × Int)} (hg:IRange w A n gs) (hc:n≤c) (hn:n≤1000000) (hu:∀y∈gs,U32 y.1∧U32 y.2.2):CW w { M with g:=⟨A,n,c⟩ } { x with gs:=gs } :=
 ⟨h.r,h.l,h.p,h.o,hg,h.s,h.m,h.rok,h.lok,h.pok,h.ook,⟨hc,hn⟩,h.sok,h.mok,h.src,⟨h.ok.1,h.ok.2.1,h.ok.2.2.1,hu,h.ok.2.2.2.2⟩⟩
end Go.Proofs.YtfidicbknjoafaaGreatDoor
namespace Go.Proofs.YtfidicbknjoafaaGreatDoor
open Go.RowKit Lx Sm Go.Maps
theorem gs_valid {x:Cfg} (h:vcode x=0):∀y∈x.gs,Ad.valid y.1 y.2.1=true:=by
 intro y hy
 obtain⟨ah,he⟩:=atc_all (v_parts h).2.2.2.2.1 hy
 unfold gcode at he
 split at he
 ·cases he
 ·rename_i h1;simpa using h1
theorem gs_ok {w:World} {M:Cm} {x:Cfg} (h:CW w M x) (k:LtOK x):(∀y∈x.gs,wfP (y.1,y.2.1))∧(∀y∈x.gs,U32 y.2.2)∧x.gs.length≤1000:=by
 refine⟨fun y hy=>?_,fun y hy=>(h.ok.2.2.2.1 y hy).2,by have:=k.gl;omega⟩
 have hv:=gs_valid k.v y hy
 unfold Ad.valid at hv
 simp only[decide_eq_true_eq]at hv
 exact⟨(h.ok.2.2.2.1 y hy).1,by omega,by omega⟩
theorem rootP_al {x x':Cfg} (k:Alike x x') (g:Int):rootP x' g=rootP x g:=by unfold rootP;rw[k.g]
theorem rtrP_al {x x':Cfg} (k:Alike x x') (g:Int):rtrP x' g=rtrP x g:=by unfold rtrP;rw[rootP_al k,k.p]
section
variable {b:Nat} {T:TP} {x x':Cfg} {gs:List Int}
theorem rof_al (g:Int) (hg:U32 g) (w wc:World) (M:Cm) (h:TW w b T x' gs) (k:Alike x x') (hc:CW wc M x) (o:LtOK x) :
  Calls Tryz.prog 67 #[.pointer (some ⟨T.N,0,none⟩),.int .u32 g] w fun e w'=>e=.returned (.tuple #[.int .u32 ((rootP x g).getD 0),.bool (rootP x g).isSome])∧Below w.heap.size w w':=by
 obtain⟨h1,h2,h3⟩:=gs_ok hc o
 have:=rootof_any g hg w h (by rw[k.r];exact o.rn) (by rw[k.l];exact o.ln) (by rw[k.g];exact h1) (by rw[k.g];exact h3)
 rw[rootP_al k]at this
 exact this
theorem ris_al (r g:Int) (hg:U32 g) (w wc:World) (M:Cm) (h:TW w b T x' gs) (k:Alike x x') (hc:CW wc M x) (o:LtOK x) :
  Calls Tryz.prog 125 #[.pointer (some ⟨T.N,0,none⟩),.int .i64 r,.int .u32 g] w fun e w'=>e=.returned (.bool (rtrP x g==some r))∧Below w.heap.size w w':=by
 obtain⟨h1,h2,h3⟩:=gs_ok hc o
 have:=rootis_any r g hg w h (by rw[k.r];exact o.rn) (by rw[k.l];exact o.ln) (by rw[k.g];exact h1) (by rw[k.g];exact h2) (by rw[k.g];exact h3)
 rw[rtrP_al k]at this
 exact this
theorem rootP_u {w:World} {M:Cm} (h:CW w M x) (g:Int):U32 ((rootP x g).getD 0):=by
 cases ha:rootP x g with
 | none=>exact⟨by simp,by simp⟩
 | some a =>
  obtain⟨y,hy,e⟩:=rootP_mem ha
  rw[Option.getD_some,e]
  exact (h.ok.2.2.2.1 y hy).2
end
end Go.Proofs.YtfidicbknjoafaaGreatDoor
namespace Go.Proofs.YtfidicbknjoafaaGreatDoor
open Go.ChangeShapes Go.WideShapes Go.ChangeAt Go.RowKit Lx Sm Go.Maps
end Go.Proofs.YtfidicbknjoafaaGreatDoor
namespace Go.Proofs.YtfidicbknjoafaaGreatDoor
open Go.RowKit Lx Sm Go.Maps
def hd (s:List Int × Int):Int:=s.1.headD (-1)
structure GoodS (P:Int→Int × Int) (s:List Int × Int):Prop where
 z:s.1=[]→s.2=0
 a:∀i∈s.1,0≤i∧(P i).2=s.2
theorem GoodS.nil (P:Int→Int × Int):GoodS P ([],0):=⟨fun _=>rfl,fun i h=>by cases h⟩
theorem GoodS.step {P:Int→Int × Int} {s:List Int × Int} (h:GoodS P s) (a:Int) {i:Int} (hi:0≤i):GoodS P (stepP P a s i):=by
 unfold stepP
 split
 ·exact h
 ·split
  ·exact⟨(fun e=>by cases e),fun j hj=>(by simp only[List.mem_singleton]at hj;subst hj;exact⟨hi,rfl⟩)⟩
  ·rename_i h1 h2
   refine⟨fun e=>by simp at e,fun j hj=>?_⟩
   rcases List.mem_append.1 hj with hj|hj
   ·exact h.a j hj
   ·simp only[List.mem_singleton]at hj
    subst hj
    exact⟨hi,by have:¬ (P j).2<s.2:=fun h=>h1 (.inr h);show (P j).2=s.2;omega⟩
theorem rowF_all {x:Cfg} (h:∀y∈x.ps,0≤y.1∧y.1<x.rs.length∧0≤y.2.1∧y.2.1<x.ls.length) (p:Int):rowF x p=picks (fun y=>y.1==p) x.ps x.ps.length:=by
 by_cases hp:0≤p∧p<(x.rs.length:Int)
 ·exact rowF_at hp.1 hp.2
 ·have e1:rowF x p=[]:=rowIn_out hp
  rw[e1]
  symm
  refine List.eq_nil_iff_forall_not_mem.2 fun q hq=>?_
  obtain⟨j,h1,rfl,y,hy,hyp⟩:=picks_mem hq
  have:=h y (List.mem_of_getElem? hy)
  have e:y.1=p:=by simpa using hyp
  omega
end Go.Proofs.YtfidicbknjoafaaGreatDoor
namespace Go.Proofs.YtfidicbknjoafaaGreatDoor
open Go.RowKit Lx Sm Go.Maps
section
variable {b:Nat} {T:TP} {x x':Cfg} {gs:List Int}
def keyA (x:Cfg) (r:Int) (k:Int × Int):(Int × Int × Int × Bool) × Bool:=if k.1=0 then (match rootP x k.2 with|some a=>toA x r a|none=>((0,0,0,false),false)) else toA x r k.1
theorem ret_rkey (tm:Array Value) (N:Nat) (W:World) (v0 v1 v2 v3 u:Value) (h2:tm.getD 6 undef=.pointer (some ⟨N,0,none⟩)) (h3:tm.getD 7 undef=u) (c0:W.cell? ⟨N,0,none⟩=some v0) (c1:W.cell? ⟨N,1,none⟩=some v1) (c2:W.cell? ⟨N,2,none⟩=some v2) (c3:W.cell? ⟨N,3,none⟩=some v3) :
  (results Tryz.f26 tm).run Tryz.prog W=.ok (.tuple #[.agg #[v0,v1,v2,v3],u]) W:=by
 have h2':tm[6]?.getD undef=.pointer (some ⟨N,0,none⟩):=by simpa using h2
 have h3':tm[7]?.getD undef=u:=by simpa using h3
 simp[results,Tryz.results26,go_sem,h2',h3',c0,c1,c2,c3]
set_option maxRecDepth 100000 in
set_option maxHeartbeats 4000000 in
theorem rkey_al (r:Int) (p:Int × Int) (hp:UK p) (w wc:World) (M:Cm) (h:TW w b T x' gs) (k:Alike x x') (hc:CW wc M x) (ok:LtOK x) :
  Calls Tryz.prog 26 #[.pointer (some ⟨T.N,0,none⟩),.int .i64 r,.agg #[.int .u32 p.1,.int .u32 p.2]] w fun e w'=>e=.returned (.tuple #[.agg #[.int .i64 (keyA x r p).1.1,.int .i64 (keyA x r p).1.2.1,.int .i64 (keyA x r p).1.2.2.1,.bool (keyA x r p).1.2.2.2],.bool (keyA x r p).2])∧Below w.heap.size w w':=by
 have HB0:=Lib.hid (((Below.refl w.heap.size w).alloc (Nat.le_refl _) (.cells #[.int .u32 p.1,.int .u32 p.2] 57)).alloc (by simp) (.cells #[.int .i64 0,.int .i64 0,.int .i64 0,.bool false] 59))
 have HK:Hid (Blk ((w.alloc (.cells #[.int .u32 p.1,.int .u32 p.2] 57)).alloc (.cells #[.int .i64 0,.int .i64 0,.int .i64 0,.bool false] 59)) w.heap.size 57 #[.int .u32 p.1,.int .u32 p.2]):=Lib.hid ((Blk.new _ _ _).alloc _)
 have HS:Hid (Blk ((w.alloc (.cells #[.int .u32 p.1,.int .u32 p.2] 57)).alloc (.cells #[.int .i64 0,.int .i64 0,.int .i64 0,.bool false] 59)) (w.heap.size+1) 59 #[.int .i64 0,.int .i64 0,.int .i64 0,.bool false]):=Lib.hid (by simpa using Blk.new (w.alloc (.cells #[.int .u32 p.1,.int .u32 p.2] 57)) 59 #[.int .i64 0,.int .i64 0,.int .i64 0,.bool false])
 have HTO:=Lib.hid (fun W (hW:Below w.heap.size w W) a (ha:U32 a)=>to_al r a ha W (h.next hW) k ok)
 have HRO:=Lib.hid (fun W (hW:Below w.heap.size w W)=>rof_al p.2 hp.2 W wc M (h.next hW) k hc ok)
 have HRU:=Lib.hid (rootP_u hc p.2)
 have HKA:Hid (keyA x r p=if p.1=0 then (match rootP x p.2 with|some a=>toA x r a|none=>((0,0,0,false),false)) else toA x r p.1):=Lib.hid rfl
 have HP:=Lib.hid hp
 clear h k hc ok hp
 obtain⟨s,g⟩:=p
 dsimp only at HB0 HK HS HRO HRU HKA HP ⊢
 generalize keyA x r (s,g)=KA at *
 go_enter Tryz.func26,Tryz.ntmps26
 go_upto_region 1 with fail
 generalize (w.alloc (.cells #[.int .u32 s,.int .u32 g] 57)).alloc (.cells #[.int .i64 0,.int .i64 0,.int .i64 0,.bool false] 59)=W1 at *
 have HNB:Hid (w.heap.size≤w.heap.size+1):=Lib.hid (by omega)
 have z0:W1.cell? ⟨w.heap.size,0,none⟩=some (.int .u32 s):=HK.out.cell 0
 by_cases hs:s=0
 ·rw[if_pos hs]at HKA
  have hsb:(s != 0)=false:=by simp[hs]
  clear hs
  have z1:W1.cell? ⟨w.heap.size,1,none⟩=some (.int .u32 g):=HK.out.cell 1
  have HR1:=Lib.hid (HRO.out W1 HB0.out)
  obtain⟨ro,hro⟩:∃ro,rootP x g=ro:=⟨_,rfl⟩
  rw[hro]at HR1 HRU HKA
  clear hro
  go_upto_region 4 with (go_at_call 67;refine HR1.out.mono ?_;rintro e w2 ⟨rfl,hb2⟩;have HB2:=Lib.hid (HB0.out.trans (hb2.mono HB0.out.size));have HS2:=Lib.hid (HS.out.next hb2);clear hb2)
  clear z0 z1 hsb
  cases ro with
  | none =>
   obtain⟨W9,hW9,hk9,hb9,_⟩:=store4 HS2.out.slot HNB.out w HB2.out (.int .i64 0) (.int .i64 0) (.int .i64 0) (.bool false)
   have HW9:=Lib.hid hW9
   have m0:=HS2.out.cell 0;have m1:=HS2.out.cell 1;have m2:=HS2.out.cell 2;have m3:=HS2.out.cell 3
   have f0:=HS2.out.frozen 0;have f1:=HS2.out.frozen 1;have f2:=HS2.out.frozen 2;have f3:=HS2.out.frozen 3
   clear hW9
   have HK9:=Lib.hid (And.intro hk9 hb9)
   clear hk9 hb9
   go_wp2
   rw[←HW9.out]
   refine bodyPost_ret (ret_rkey _ (w.heap.size+1) _ _ _ _ _ _ rfl rfl (HK9.out.1.cell 0) (HK9.out.1.cell 1) (HK9.out.1.cell 2) (HK9.out.1.cell 3)) rfl ?_
   rw[HKA.out]
   exact⟨rfl,HK9.out.2⟩
  | some a =>
   simp only[Option.getD_some,Option.isSome_some]at HRU ⊢
   have HT1:=Lib.hid (HTO.out w2 HB2.out a HRU.out)
   dsimp only at HKA
   rw[←HKA.out]at HT1
   obtain⟨⟨i,u,cst,t⟩,ok⟩:=KA
   dsimp only at HT1 HKA ⊢
   go_upto_region 6 with fail
   have HFIN:Hid (∀W,Below w2.heap.size w2 W→Blk W (w.heap.size+1) 59 #[.int .i64 0,.int .i64 0,.int .i64 0,.bool false]∧Below w.heap.size w W):=Lib.hid fun W hW=>⟨HS2.out.next hW,HB2.out.trans (hW.mono HB2.out.size)⟩
   go_wp2_with fail
   refine HT1.out.mono ?_
   rintro e w3 ⟨rfl,hb3⟩
   have HS3:=Lib.hid (HFIN.out w3 hb3).1
   have HB3:=Lib.hid (HFIN.out w3 hb3).2
   clear hb3
   obtain⟨W9,hW9,hk9,hb9,_⟩:=store4 HS3.out.slot HNB.out w HB3.out (.int .i64 i) (.int .i64 u) (.int .i64 cst) (.bool t)
   have HW9:=Lib.hid hW9
   have m0:=HS3.out.cell 0;have m1:=HS3.out.cell 1;have m2:=HS3.out.cell 2;have m3:=HS3.out.cell 3
   have f0:=HS3.out.frozen 0;have f1:=HS3.out.frozen 1;have f2:=HS3.out.frozen 2;have f3:=HS3.out.frozen 3
   clear hW9
   have HK9:=Lib.hid (And.intro hk9 hb9)
   clear hk9 hb9
   go_wp2
   rw[←HW9.out]
   refine bodyPost_ret (ret_rkey _ (w.heap.size+1) _ _ _ _ _ _ rfl rfl (HK9.out.1.cell 0) (HK9.out.1.cell 1) (HK9.out.1.cell 2) (HK9.out.1.cell 3)) rfl ?_
   exact⟨rfl,HK9.out.2⟩
 ·rw[if_neg hs]at HKA
  have hsb:(s != 0)=true:=by simpa using hs
  clear hs
  have HT1:=Lib.hid (HTO.out W1 HB0.out s HP.out.1)
  rw[←HKA.out]at HT1
  obtain⟨⟨i,u,cst,t⟩,ok⟩:=KA
  dsimp only at HT1 HKA ⊢
  have HFIN:Hid (∀W,Below W1.heap.size W1 W→Blk W (w.heap.size+1) 59 #[.int .i64 0,.int .i64 0,.int .i64 0,.bool false]∧Below w.heap.size w W):=Lib.hid fun W hW=>⟨HS.out.next hW,HB0.out.trans (hW.mono HB0.out.size)⟩
  go_wp2_with fail
  refine HT1.out.mono ?_
  rintro e w3 ⟨rfl,hb3⟩
  have HS3:=Lib.hid (HFIN.out w3 hb3).1
  have HB3:=Lib.hid (HFIN.out w3 hb3).2
  clear hb3
  obtain⟨W9,hW9,hk9,hb9,_⟩:=store4 HS3.out.slot HNB.out w HB3.out (.int .i64 i) (.int .i64 u) (.int .i64 cst) (.bool t)
  have HW9:=Lib.hid hW9
  have m0:=HS3.out.cell 0;have m1:=HS3.out.cell 1;have m2:=HS3.out.cell 2;have m3:=HS3.out.cell 3
  have f0:=HS3.out.frozen 0;have f1:=HS3.out.frozen 1;have f2:=HS3.out.frozen 2;have f3:=HS3.out.frozen 3
  clear hW9
  have HK9:=Lib.hid (And.intro hk9 hb9)
  clear hk9 hb9
  go_wp2
  rw[←HW9.out]
  refine bodyPost_ret (ret_rkey _ (w.heap.size+1) _ _ _ _ _ _ rfl rfl (HK9.out.1.cell 0) (HK9.out.1.cell 1) (HK9.out.1.cell 2) (HK9.out.1.cell 3)) rfl ?_
  exact⟨rfl,HK9.out.2⟩
end
end Go.Proofs.YtfidicbknjoafaaGreatDoor
