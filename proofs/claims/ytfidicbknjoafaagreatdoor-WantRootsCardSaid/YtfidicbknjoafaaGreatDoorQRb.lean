/- Prefixes and the places of the most bits as plain data. -/
import Derived.Test.YtfidicbknjoafaaGreatDoorQKit
import Derived.Test.YtfidicbknjoafaaGreatDoorQCg
import Derived.Test.YtfidicbknjoafaaGreatDoorQOn
import Derived.Deep.Cut
namespace Go.Proofs.YtfidicbknjoafaaGreatDoor
def beg (a p b:Int):Bool:=decide (a / 2 ^ (32 - b).toNat=p / 2 ^ (32 - b).toNat)
def longP (P:Int→Int × Int) (a:Int):List Int→List Int→Int→List Int × Int
 | [],f,m=>(f,m)
 | i :: L,f,m=>if beg a (P i).1 (P i).2=false∨(P i).2<m then longP P a L f m else if m<(P i).2 then longP P a L [i] (P i).2 else longP P a L (f++[i]) m
end Go.Proofs.YtfidicbknjoafaaGreatDoor
namespace Go.Proofs.YtfidicbknjoafaaGreatDoor
open Go.RowKit Lx Sm
def linkP (x:Cfg) (l:Int):Int × Int:=((x.ls[l.toNat]?).map fun y=>y.2).getD (0,0)
def preP (x:Cfg) (i:Int):Int × Int:=linkP x (((x.ps[i.toNat]?).map fun y=>y.2.1).getD 0)
def preO (x:Cfg) (i:Int):Int × Int:=((x.os[i.toNat]?).map fun y=>(y.2.1,y.2.2.1)).getD (0,0)
def portsOf (x:Cfg) (r:Int):List Int:=rowIn (tabs x x.ps.length x.ps.length x.ms.length 1) x.rs.length r
def routesOf (x:Cfg) (r:Int):List Int:=picks (fun y=>y.1==r) x.os x.os.length
def nearP (x:Cfg) (r a:Int):List Int × Int:=longP (preP x) a (portsOf x r) [] 0
def farP (x:Cfg) (r a:Int):List Int × Int:=longP (preO x) a (routesOf x r) [] 0
def routeAt (os:List (Int × Int × Int × Int × Int)) (i:Int):Int × Int × Int × Int × Int:=(os[i.toNat]?).getD (0,0,0,0,0)
def cheapR (os:List (Int × Int × Int × Int × Int)) (b:Int × Int × Int × Int × Int):List Int→Int × Int × Int × Int × Int
 | []=>b
 | i :: L=>cheapR os (if (routeAt os i).2.2.2.2<b.2.2.2.2 then routeAt os i else b) L
def cheap (os:List (Int × Int × Int × Int × Int)):List Int→Int × Int × Int × Int × Int
 | []=>(0,0,0,0,0)
 | i :: L=>cheapR os (routeAt os i) L
def lookP (x:Cfg) (r:Int):Nat→Int→Int→Int→Option (Int × Int × Int)
 | 0,_,_,_=>none
 | k+1,a,v,c =>
  match (nearP x r a).1,(farP x r a).1 with
  | p :: _,_=>if (farP x r a).2≤(nearP x r a).2 then some (p,v,c) else match (farP x r a).1 with
   | []=>none
   | f=>lookP x r k (cheap x.os f).2.2.2.1 (cheap x.os f).2.2.2.1 (min (c+(cheap x.os f).2.2.2.2) 65535)
  | [],[]=>none
  | [],f=>lookP x r k (cheap x.os f).2.2.2.1 (cheap x.os f).2.2.2.1 (min (c+(cheap x.os f).2.2.2.2) 65535)
def lookA (x:Cfg) (r a:Int):(Int × Int × Int) × Bool:=((lookP x r 7 a 0 0).getD (0,0,0),(lookP x r 7 a 0 0).isSome)
end Go.Proofs.YtfidicbknjoafaaGreatDoor
namespace Go.Proofs.YtfidicbknjoafaaGreatDoor
open Go.RowKit Lx Sm
set_option maxHeartbeats 1000000 in
theorem begins_any (a p b:Int) (h0:0≤b) (h1:b≤32) (w:World) :
  Calls Tryz.prog 185 #[.int .u32 a,.agg #[.int .u32 p,.int .i64 b]] w fun e w'=>e=.returned (.bool (beg a p b))∧Below w.heap.size w w':=by
 have h2:wrap64 (32 - b)=32 - b:=by unfold wrap64;omega
 have h3:¬ (32 - b<0):=by omega
 go_enter Tryz.func185,Tryz.ntmps185
 go_wp2
 go_quiet (fail)
 go_wp2
 go_ret
 exact⟨ret_bool (by unfold beg;rfl),below_drewN ((Below.refl _ _).alloc (Nat.le_refl _) _) _⟩
theorem own_jrc {W:World} {base:Nat} {v:Value} {xs:List Int} (h:W.ownsRow base 3 1 v xs.length (I64 xs)):∃A c,v=.slice A xs.length c∧xs.length≤c∧JR W A xs.length xs:=by
 have h0:=h
 rcases h.2 with ⟨rfl,hl⟩|⟨g,cap,cur,rfl,hbg,hh,hnc,_⟩
 ·exact⟨none,0,by rw[hl],by omega,rfl,fun hn=>by omega⟩
 ·refine⟨_,cap,rfl,hnc,rfl,fun _=>⟨g,0,rfl,(Array.getElem?_eq_some_iff.1 hh).1,fun i hi=>?_⟩⟩
  rw[Nat.zero_add,h0.cellAt i (by omega)]
  simp[I64,List.getD,hi]
def stepP (P:Int→Int × Int) (a:Int) (s:List Int × Int) (i:Int):List Int × Int:=if beg a (P i).1 (P i).2=false∨(P i).2<s.2 then s else if s.2<(P i).2 then ([i],(P i).2) else (s.1++[i],s.2)
theorem longP_fold (P:Int→Int × Int) (a:Int):∀ (L f:List Int) (m:Int),longP P a L f m=L.foldl (stepP P a) (f,m)
 | [],_,_=>rfl
 | i :: L,f,m=>by
  have ih:=longP_fold P a L
  simp only[longP,List.foldl_cons,stepP]
  split
  ·exact ih _ _
  ·split <;> exact ih _ _
theorem foldP_len (P:Int→Int × Int) (a:Int):∀ (L:List Int) (s:List Int × Int),(L.foldl (stepP P a) s).1.length≤s.1.length+L.length
 | [],_=>by simp
 | i :: L,s=>by
  have:=foldP_len P a L (stepP P a s i)
  have h2:(stepP P a s i).1.length≤s.1.length+1:=by
   unfold stepP
   split
   ·omega
   ·split <;> simp
  simp only[List.foldl_cons,List.length_cons]
  omega
set_option maxHeartbeats 4000000 in
set_option maxRecDepth 100000 in
theorem longest_any (g:Nat) (lb:Array Value) (eg:∀args w,(callFunc g args).run Tryz.prog w=.ok (.enter g args) w) (P:Int→Int × Int) (A:Option Addr) (n c:Nat) (xs:List Int) (a:Int) (w:World) (hj:JR w A n xs) (hn:n≤1000000)
  (hb:∀i∈xs,0≤(P i).2∧(P i).2≤32)
  (hp:∀ (W:World) (i:Int),i∈xs→Below w.heap.size w W→Calls Tryz.prog g (#[.int .i64 i]++lb) W fun e w'=>e=.returned (.agg #[.int .u32 (P i).1,.int .i64 (P i).2])∧Below W.heap.size W w') :
  Calls Tryz.prog 108 #[.slice A n c,.int .u32 a,.func (.func g) #[] lb] w fun e w'=>∃A' c',e=.returned (.tuple #[.slice A' (longP P a xs [] 0).1.length c',.int .i64 (longP P a xs [] 0).2])∧(longP P a xs [] 0).1.length≤c'∧JR w' A' (longP P a xs [] 0).1.length (longP P a xs [] 0).1∧Below w.heap.size w w':=by
 obtain⟨i0,hi,hz0,hz1,hz2⟩:=info_parts info_int
 have HP:=Lib.hid hp
 have HJ:=Lib.hid hj
 have HBB:=Lib.hid hb
 have HL:=Lib.hid hj.1
 have hB0:=Lib.hid (Below.refl w.heap.size w)
 rw[longP_fold]
 clear hp hj hb
 go_enter Tryz.func108,Tryz.ntmps108
 go_wp2
 go_loopw [6,7,13] (fun v u i wr=>∃ (k:Nat) (F:List Int) (m:Int),k≤n∧i=.int .i64 k∧u=.int .i64 m∧Hid ((xs.take k).foldl (stepP P a) ([],0)=(F,m))∧Hid (wr.ownsRow w.heap.size 3 1 v F.length (I64 F))∧Hid (Below w.heap.size w wr)) (fun _ _ i _=>n - (intOf i).toNat)
 case atStart=>exact⟨0,[],0,Nat.zero_le _,rfl,rfl,rfl,Lib.hid (by simpa [I64] using World.ownsRow_nil _ _ _ _),hB0⟩
 case round =>
  obtain⟨k,F,m,hk,rfl,rfl,HF,HO,HBK⟩:=hrel
  rcases Nat.lt_or_ge k n with hlt|hge
  ·obtain⟨b2,o2,rfl,_,hc2⟩:=(HJ.out.next HBK.out).at_ hlt
   have hmem:xs.getD k 0∈xs:=by
    have:k<xs.length:=by have:=HL.out;omega
    rw[List.getD_eq_getElem?_getD,List.getElem?_eq_getElem this]
    exact List.getElem_mem this
   have HT:Hid ((xs.take (k+1)).foldl (stepP P a) ([],0)=stepP P a (F,m) (xs.getD k 0)):=Lib.hid (by
    rw[take_next (by have:=HL.out;omega),List.foldl_append,HF.out];rfl)
   have HFL:Hid (F.length≤1000000):=Lib.hid (by
    have h:=foldP_len P a (xs.take k) ([],0)
    rw[HF.out,List.length_take]at h
    simp at h
    omega)
   obtain⟨hq0,hq1⟩:=HBB.out _ hmem
   have hcall:=Lib.hid (HP.out wr _ hmem HBK.out)
   generalize xs.getD k 0=q at *
   have HSt:Hid (stepP P a (F,m) q=if beg a (P q).1 (P q).2=false∨(P q).2<m then (F,m) else if m<(P q).2 then ([q],(P q).2) else (F++[q],m)):=Lib.hid rfl
   generalize P q=pq at *
   obtain⟨pa,pb⟩:=pq
   dsimp only at hq0 hq1 hcall HSt
   have hbg:=Lib.hid fun W=>begins_any a pa pb hq0 hq1 W
   have hi0:(k:Int)<(n:Int):=by omega
   clear hmem
   cases hbq:beg a pa pb with
   | false =>
    rw[hbq]at hbg
    have HS2:Hid ((xs.take (k+1)).foldl (stepP P a) ([],0)=(F,m)):=Lib.hid (by rw[HT.out,HSt.out,if_pos (.inl hbq)])
    clear hbq hq0 hq1
    go_wp2_with (first
     | (go_at_fn g;refine hcall.out.mono ?_;rintro e w1 ⟨rfl,hb1⟩;have HB1:=Lib.hid (below_next HBK.out hb1);have HO1:=Lib.hid (ownk_next HO.out hb1);clear hb1)
     | (go_at_call 185;refine (hbg.out _).mono ?_;rintro e w2 ⟨rfl,hb2⟩;have HB2:=Lib.hid (below_next (HB1.out.alloc HB1.out.size _) hb2);have HO2:=Lib.hid (ownk_next (HO1.out.alloc _) hb2);clear hb2))
    go_roundw
    case rel=>exact⟨k+1,F,m,by omega,by go_num,rfl,HS2,HO2,HB2⟩
    case measure=>simp[intOf];omega
   | true =>
    rw[hbq]at hbg
    by_cases hlm:pb<m
    ·have HS2:Hid ((xs.take (k+1)).foldl (stepP P a) ([],0)=(F,m)):=Lib.hid (by rw[HT.out,HSt.out,if_pos (.inr hlm)])
     clear hbq hq0 hq1
     go_wp2_with (first
      | (go_at_fn g;refine hcall.out.mono ?_;rintro e w1 ⟨rfl,hb1⟩;have HB1:=Lib.hid (below_next HBK.out hb1);have HO1:=Lib.hid (ownk_next HO.out hb1);clear hb1)
      | (go_at_call 185;refine (hbg.out _).mono ?_;rintro e w2 ⟨rfl,hb2⟩;have y1:w2.cell? ⟨w1.heap.size,1,none⟩=some (.int .i64 pb):=(hb2.cell (p:=⟨w1.heap.size,1,none⟩) (by simp)).trans (by go_simp);have HB2:=Lib.hid (below_next (HB1.out.alloc HB1.out.size _) hb2);have HO2:=Lib.hid (ownk_next (HO1.out.alloc _) hb2);clear hb2))
     go_roundw
     case rel=>exact⟨k+1,F,m,by omega,by go_num,rfl,HS2,HO2,HB2⟩
     case measure=>simp[intOf];omega
    ·by_cases hgm:m<pb
     ·have HS2:Hid ((xs.take (k+1)).foldl (stepP P a) ([],0)=([q],pb)):=Lib.hid (by rw[HT.out,HSt.out,if_neg (by rw[hbq];simp;omega),if_pos hgm])
      clear hbq hq0 hq1
      go_wp2_with (first
       | (go_at_fn g;refine hcall.out.mono ?_;rintro e w1 ⟨rfl,hb1⟩;have HB1:=Lib.hid (below_next HBK.out hb1);clear hb1)
       | (go_at_call 185;refine (hbg.out _).mono ?_;rintro e w2 ⟨rfl,hb2⟩;have y1:w2.cell? ⟨w1.heap.size,1,none⟩=some (.int .i64 pb):=(hb2.cell (p:=⟨w1.heap.size,1,none⟩) (by simp)).trans (by go_simp);have HB2:=Lib.hid (below_next (HB1.out.alloc HB1.out.size _) hb2);clear hb2))
      go_quiet (fail)
      have HW3:=Lib.hid (below_drewN (Below.refl w2.heap.size w2) nq)
      generalize w2.drewN nq=w3 at *
      have HO3:Hid (w3.ownsRow w.heap.size 3 1 (.slice none 0 0) ([]:List Int).length (I64 [])):=Lib.hid (by simpa [I64] using World.ownsRow_nil _ _ _ _)
      have HB3:=Lib.hid (HB2.out.trans (HW3.out.mono HB2.out.size))
      clear y1
      go_wp2_with (at_builtin;refine wpList_append_own _ rfl _ _ 52 rfl w.heap.size 3 i0 (.int .i64 0) 1 8 Tryz.underlying52 hi hz0 hz1 hz2 rfl (by decide) _ ([]:List Int).length (I64 ([]:List Int)) rfl (HO3.out.alloc _) ⟨w3.heap.size,0,none⟩ 1 1 [.int .i64 q] rfl rfl (cell_one_new _ _ _) (by intro x hx;simp at hx;subst hx;rfl) (by first|(unfold maxLen;omega)|(unfold maxLen;simp;done)) (by first|omega|(simp;done)) (by have:=HB3.out.size;simp;omega) ?_;intro v' wz hown1 hgrow1 _)
      have hbz:Below w.heap.size w wz:=(HB3.out.alloc HB3.out.size _).grown hgrow1 (by have:=HB3.out.size;simp;omega) (fun j e=>(HO3.out.lt j e).1)
      have HO4:=Lib.hid hown1
      have HB4:=Lib.hid hbz
      clear hown1 hgrow1 hbz
      go_roundw
      case rel=>exact⟨k+1,[q],pb,by omega,by go_num,rfl,HS2,Lib.hid (by simpa [I64,List.length_append] using HO4.out),HB4⟩
      case measure=>simp[intOf];omega
     ·have HS2:Hid ((xs.take (k+1)).foldl (stepP P a) ([],0)=(F++[q],m)):=Lib.hid (by rw[HT.out,HSt.out,if_neg (by rw[hbq];simp;omega),if_neg hgm])
      have hfl:=HFL.out
      clear hbq hq0 hq1
      go_upto_region 8 with (first
       | (go_at_fn g;refine hcall.out.mono ?_;rintro e w1 ⟨rfl,hb1⟩;have HB1:=Lib.hid (below_next HBK.out hb1);have HO1:=Lib.hid (ownk_next HO.out hb1);clear hb1)
       | (go_at_call 185;refine (hbg.out _).mono ?_;rintro e w2 ⟨rfl,hb2⟩;have y1:w2.cell? ⟨w1.heap.size,1,none⟩=some (.int .i64 pb):=(hb2.cell (p:=⟨w1.heap.size,1,none⟩) (by simp)).trans (by go_simp);have HB2:=Lib.hid (below_next (HB1.out.alloc HB1.out.size _) hb2);have HO2:=Lib.hid (ownk_next (HO1.out.alloc _) hb2);clear hb2))
      clear y1
      go_wp2_with (at_builtin;refine wpList_append_own _ rfl _ _ 52 rfl w.heap.size 3 i0 (.int .i64 0) 1 8 Tryz.underlying52 hi hz0 hz1 hz2 rfl (by decide) _ F.length (I64 F) rfl (HO2.out.alloc _) ⟨w2.heap.size,0,none⟩ 1 1 [.int .i64 q] rfl rfl (cell_one_new _ _ _) (by intro x hx;simp at hx;subst hx;rfl) (by first|(unfold maxLen;omega)|(unfold maxLen;simp;done)) (by first|omega|(simp;done)) (by have:=HB2.out.size;simp;omega) ?_;intro v' wz hown1 hgrow1 _)
      have hbz:Below w.heap.size w wz:=(HB2.out.alloc HB2.out.size _).grown hgrow1 (by have:=HB2.out.size;simp;omega) (fun j e=>(HO2.out.lt j e).1)
      have HO4:=Lib.hid hown1
      have HB4:=Lib.hid hbz
      clear hown1 hgrow1 hbz
      go_roundw
      case rel=>exact⟨k+1,(F++[q]),m,by omega,by go_num,rfl,HS2,Lib.hid (by simpa [I64,List.length_append] using HO4.out),HB4⟩
      case measure=>simp[intOf];omega
  ·obtain rfl:k=n:=by omega
   have hlk:xs.take k=xs:=List.take_of_length_le (by have:=HL.out;omega)
   rw[hlk]at HF
   have hi0:¬ ((k:Int)<(k:Int)):=by omega
   obtain⟨A',c',rfl,hcc,hj'⟩:=own_jrc HO.out
   have HCC:=Lib.hid hcc
   clear hcc
   have HJ':=Lib.hid hj'
   clear hj' HO hlk
   go_wp2
   go_ret2
   rw[HF.out]
   exact⟨A',c',rfl,HCC.out,HJ'.out,HBK.out⟩
end Go.Proofs.YtfidicbknjoafaaGreatDoor
namespace Go.Proofs.YtfidicbknjoafaaGreatDoor
open Go.RowKit Lx Sm
theorem cell_up {w W:World} {p:Addr} {v:Value} (h:w.cell? p=some v) (hb:Below w.heap.size w W):W.cell? p=some v:=(hb.cell (World.block_lt_of_cell? w _ h)).trans h
theorem ret_conn1 (tm:Array Value) (N:Nat) (W:World) (v0 v1:Value) (h2:tm.getD 3 undef=.pointer (some ⟨N,0,none⟩)) (c0:W.cell? ⟨N,0,none⟩=some v0) (c1:W.cell? ⟨N,1,none⟩=some v1) :
  (results Tryz.f109 tm).run Tryz.prog W=.ok (.agg #[v0,v1]) W:=by
 have h2':tm[3]?.getD undef=.pointer (some ⟨N,0,none⟩):=by simpa using h2
 simp[results,Tryz.results109,go_sem,h2',c0,c1]
theorem ret_rout1 (tm:Array Value) (N:Nat) (W:World) (v0 v1:Value) (h2:tm.getD 3 undef=.pointer (some ⟨N,0,none⟩)) (c0:W.cell? ⟨N,0,none⟩=some v0) (c1:W.cell? ⟨N,1,none⟩=some v1) :
  (results Tryz.f112 tm).run Tryz.prog W=.ok (.agg #[v0,v1]) W:=by
 have h2':tm[3]?.getD undef=.pointer (some ⟨N,0,none⟩):=by simpa using h2
 simp[results,Tryz.results112,go_sem,h2',c0,c1]
theorem store2 {W:World} {N b:Nat} {t:TypeId} {u0 u1:Value} (h:Blk W N t #[u0,u1]) (hN:b≤N) (w:World) (hB:Below b w W) (v0 v1:Value):∃W2,W2=(W.setCell ⟨N,0,none⟩ v0).setCell ⟨N,1,none⟩ v1∧W2.cell? ⟨N,0,none⟩=some v0∧W2.cell? ⟨N,1,none⟩=some v1∧Below b w W2:=by
 have hk:Blk ((W.setCell ⟨N,0,none⟩ v0).setCell ⟨N,1,none⟩ v1) N t #[v0,v1]:=(h.set_ 0 v0).set_ 1 v1
 exact⟨_,rfl,hk.cell 0,hk.cell 1,(hB.setCell (by simpa using hN) _).setCell (by simpa using hN) _⟩
theorem store2d {W:World} {N b:Nat} {t:TypeId} {u0 u1:Value} (h:Blk W N t #[u0,u1]) (hN:b≤N) (w:World) (hB:Below b w W) (v0 v1:Value):∃W2,W2=((W.setCell ⟨N,0,none⟩ v0).setCell ⟨N,1,none⟩ v1).drew∧W2.cell? ⟨N,0,none⟩=some v0∧W2.cell? ⟨N,1,none⟩=some v1∧Below b w W2:=by
 obtain⟨W2,rfl,c0,c1,hb⟩:=store2 h hN w hB v0 v1
 exact⟨_,rfl,c0,c1,hb.drew⟩
set_option maxHeartbeats 4000000 in
theorem conn1_any (M:Cm) (A B:Option Addr) (n c m d N:Nat) (x:Cfg) (w:World) (hK:Blk w N 120 #[.slice M.r.A M.r.n M.r.c,.slice M.l.A M.l.n M.l.c,.slice M.p.A M.p.n M.p.c,.slice M.o.A M.o.n M.o.c,.slice M.g.A M.g.n M.g.c,.slice M.s.A M.s.n M.s.c,.slice M.m.A M.m.n M.m.c,.slice A n c,.slice B m d]) (hC:CW w M x) (i:Nat) (hi:i<x.ps.length) (hl:∀y∈x.ps,0≤y.2.1∧y.2.1<x.ls.length) :
  Calls Tryz.prog 109 #[.int .i64 (i:Int),.pointer (some ⟨N,0,none⟩)] w fun e w'=>e=.returned (.agg #[.int .u32 (preP x (i:Int)).1,.int .i64 (preP x (i:Int)).2])∧Below w.heap.size w w':=by
 obtain⟨bp,op,⟨r1,l1,a1⟩,hA,hbp,hx,e0,e1,e2⟩:=IPort.cells hC.p (i:=i) (by have:=hC.p.1;omega)
 have hlk:=hl _ (List.mem_of_getElem? hx)
 dsimp only at hlk
 obtain⟨ln,rfl⟩:∃ln:Nat,l1=ln:=⟨l1.toNat,by omega⟩
 obtain⟨bl,ol,⟨s1,pa,pb⟩,hAl,hbl,hxl,g0,g1,g2⟩:=ILink.cells hC.l (i:=ln) (by have:=hC.l.1;omega)
 have HR:Hid (preP x (i:Int)=(pa,pb)):=Lib.hid (by unfold preP linkP;simp[hx,hxl])
 have k1:w.cell? ⟨N,1,none⟩=some (.slice M.l.A M.l.n M.l.c):=hK.cell 1
 have k2:w.cell? ⟨N,2,none⟩=some (.slice M.p.A M.p.n M.p.c):=hK.cell 2
 rw[hAl]at k1
 rw[hA]at k2
 have hi0:(i:Int)<(M.p.n:Int):=by have:=hC.p.1;omega
 have hi1:(ln:Int)<(M.l.n:Int):=by have:=hC.l.1;omega
 rw[HR.out]
 clear hC hK hA hAl hx hxl hl hlk hi e0 e2 g0
 generalize M.p.n=pn at *
 generalize M.l.n=lnn at *
 go_enter Tryz.func109,Tryz.ntmps109
 go_wp2
 have HB1:=Lib.hid ((Below.refl w.heap.size w).alloc (Nat.le_refl _) (.cells #[.int .u32 0,.int .i64 0] 125))
 have HBk:=Lib.hid (Blk.new w 125 #[.int .u32 0,.int .i64 0])
 have z0:(w.alloc (.cells #[.int .u32 0,.int .i64 0] 125)).cell? ⟨w.heap.size,0,none⟩=some (.int .u32 0):=by go_simp
 have z1:(w.alloc (.cells #[.int .u32 0,.int .i64 0] 125)).cell? ⟨w.heap.size,1,none⟩=some (.int .i64 0):=by go_simp
 have zf:(w.alloc (.cells #[.int .u32 0,.int .i64 0] 125)).frozen? ⟨w.heap.size,0,none⟩=false:=(Blk.new w _ _).frozen 0
 have zg:(w.alloc (.cells #[.int .u32 0,.int .i64 0] 125)).frozen? ⟨w.heap.size,1,none⟩=false:=(Blk.new w _ _).frozen 1
 replace k1:=cell_up k1 HB1.out
 replace k2:=cell_up k2 HB1.out
 replace e1:=cell_up e1 HB1.out
 replace g1:=cell_up g1 HB1.out
 replace g2:=cell_up g2 HB1.out
 generalize w.alloc (.cells #[.int .u32 0,.int .i64 0] 125)=W1 at *
 go_region
 obtain⟨W2,hW2,c0,c1,hB2⟩:=store2d HBk.out (Nat.le_refl _) w HB1.out (.int .u32 pa) (.int .i64 pb)
 rw[←hW2]
 clear hW2 k1 k2 e1 g1 g2 z0 z1 zf zg
 go_wp2
 refine bodyPost_ret (ret_conn1 _ w.heap.size _ _ _ rfl c0 c1) rfl ?_
 exact⟨rfl,hB2⟩
set_option maxHeartbeats 4000000 in
theorem rout1_any (M:Cm) (A B:Option Addr) (n c m d N:Nat) (x:Cfg) (w:World) (hK:Blk w N 120 #[.slice M.r.A M.r.n M.r.c,.slice M.l.A M.l.n M.l.c,.slice M.p.A M.p.n M.p.c,.slice M.o.A M.o.n M.o.c,.slice M.g.A M.g.n M.g.c,.slice M.s.A M.s.n M.s.c,.slice M.m.A M.m.n M.m.c,.slice A n c,.slice B m d]) (hC:CW w M x) (i:Nat) (hi:i<x.os.length) :
  Calls Tryz.prog 112 #[.int .i64 (i:Int),.pointer (some ⟨N,0,none⟩)] w fun e w'=>e=.returned (.agg #[.int .u32 (preO x (i:Int)).1,.int .i64 (preO x (i:Int)).2])∧Below w.heap.size w w':=by
 obtain⟨bl,ol,⟨r1,pa,pb,v1,q1⟩,hAl,hbl,hxl,g0,g1,g2,g3,g4⟩:=IRoute.cells hC.o (i:=i) (by have:=hC.o.1;omega)
 have HR:Hid (preO x (i:Int)=(pa,pb)):=Lib.hid (by unfold preO;simp[hxl])
 have k1:w.cell? ⟨N,3,none⟩=some (.slice M.o.A M.o.n M.o.c):=hK.cell 3
 rw[hAl]at k1
 have hi0:(i:Int)<(M.o.n:Int):=by have:=hC.o.1;omega
 rw[HR.out]
 clear hC hK hAl hxl hi g0 g3 g4
 generalize M.o.n=pn at *
 go_enter Tryz.func112,Tryz.ntmps112
 go_upto_region 1 with fail
 have HB1:=Lib.hid ((Below.refl w.heap.size w).alloc (Nat.le_refl _) (.cells #[.int .u32 0,.int .i64 0] 125))
 have HBk:=Lib.hid (Blk.new w 125 #[.int .u32 0,.int .i64 0])
 have z0:(w.alloc (.cells #[.int .u32 0,.int .i64 0] 125)).cell? ⟨w.heap.size,0,none⟩=some (.int .u32 0):=by go_simp
 have z1:(w.alloc (.cells #[.int .u32 0,.int .i64 0] 125)).cell? ⟨w.heap.size,1,none⟩=some (.int .i64 0):=by go_simp
 have zf:(w.alloc (.cells #[.int .u32 0,.int .i64 0] 125)).frozen? ⟨w.heap.size,0,none⟩=false:=(Blk.new w _ _).frozen 0
 have zg:(w.alloc (.cells #[.int .u32 0,.int .i64 0] 125)).frozen? ⟨w.heap.size,1,none⟩=false:=(Blk.new w _ _).frozen 1
 replace k1:=cell_up k1 HB1.out
 replace g1:=cell_up g1 HB1.out
 replace g2:=cell_up g2 HB1.out
 generalize w.alloc (.cells #[.int .u32 0,.int .i64 0] 125)=W1 at *
 go_wp2
 obtain⟨W2,hW2,c0,c1,hB2⟩:=store2 HBk.out (Nat.le_refl _) w HB1.out (.int .u32 pa) (.int .i64 pb)
 rw[←hW2]
 clear hW2 k1 g1 g2 z0 z1 zf zg
 refine bodyPost_ret (ret_rout1 _ w.heap.size _ _ _ rfl c0 c1) rfl ?_
 exact⟨rfl,hB2⟩
set_option maxHeartbeats 4000000 in
set_option maxRecDepth 100000 in
theorem conn_any (M:Cm) (A B:Option Addr) (n c m d:Nat) (x:Cfg) (P:List Int) (a:Int) (w:World) (hC:CW w M x) (hj:JR w A n P) (hn:n≤1000000) (hP:∀q∈P,∃j:Nat,j<x.ps.length∧q=j) (hl:∀y∈x.ps,0≤y.2.1∧y.2.1<x.ls.length) (hb:∀y∈x.ls,0≤y.2.2∧y.2.2≤32) :
  Calls Tryz.prog 53 #[.agg #[.slice M.r.A M.r.n M.r.c,.slice M.l.A M.l.n M.l.c,.slice M.p.A M.p.n M.p.c,.slice M.o.A M.o.n M.o.c,.slice M.g.A M.g.n M.g.c,.slice M.s.A M.s.n M.s.c,.slice M.m.A M.m.n M.m.c,.slice A n c,.slice B m d],.int .u32 a] w fun e w'=>∃A' c',e=.returned (.tuple #[.slice A' (longP (preP x) a P [] 0).1.length c',.int .i64 (longP (preP x) a P [] 0).2])∧(longP (preP x) a P [] 0).1.length≤c'∧JR w' A' (longP (preP x) a P [] 0).1.length (longP (preP x) a P [] 0).1∧Below w.heap.size w w':=by
 have HB1:=Lib.hid ((Below.refl w.heap.size w).alloc (Nat.le_refl _) (.cells #[.slice M.r.A M.r.n M.r.c,.slice M.l.A M.l.n M.l.c,.slice M.p.A M.p.n M.p.c,.slice M.o.A M.o.n M.o.c,.slice M.g.A M.g.n M.g.c,.slice M.s.A M.s.n M.s.c,.slice M.m.A M.m.n M.m.c,.slice A n c,.slice B m d] 120))
 have HK:=Lib.hid (Blk.new w 120 #[.slice M.r.A M.r.n M.r.c,.slice M.l.A M.l.n M.l.c,.slice M.p.A M.p.n M.p.c,.slice M.o.A M.o.n M.o.c,.slice M.g.A M.g.n M.g.c,.slice M.s.A M.s.n M.s.c,.slice M.m.A M.m.n M.m.c,.slice A n c,.slice B m d])
 have HLO:=Lib.hid (longest_any 109 #[.pointer (some ⟨w.heap.size,0,none⟩)] (by intros;rfl) (preP x) A n c P a (w.alloc (.cells #[.slice M.r.A M.r.n M.r.c,.slice M.l.A M.l.n M.l.c,.slice M.p.A M.p.n M.p.c,.slice M.o.A M.o.n M.o.c,.slice M.g.A M.g.n M.g.c,.slice M.s.A M.s.n M.s.c,.slice M.m.A M.m.n M.m.c,.slice A n c,.slice B m d] 120)) (hj.next HB1.out) hn (fun q hq=>by
   obtain⟨j,hj,rfl⟩:=hP q hq
   have hx:x.ps[j]?=some x.ps[j]:=List.getElem?_eq_getElem hj
   have hy:=hl _ (List.getElem_mem hj)
   have hz:x.ls[(x.ps[j]).2.1.toNat]?=some (x.ls[(x.ps[j]).2.1.toNat]'(by omega)):=List.getElem?_eq_getElem (by omega)
   have:=hb _ (List.mem_of_getElem? hz)
   unfold preP linkP
   rw[Int.toNat_natCast,hx]
   simp only[Option.map_some,Option.getD_some]
   rw[hz]
   simpa using this)
  (fun W q hq hW=>by
   obtain⟨j,hj,rfl⟩:=hP q hq
   exact conn1_any M A B n c m d w.heap.size x W (HK.out.next hW) ((hC.next HB1.out).next hW) j hj hl))
 generalize longP (preP x) a P [] 0=R at *
 clear hC hj hP hl hb
 go_enter Tryz.func53,Tryz.ntmps53
 go_wp2_with (go_at_call 108;refine HLO.out.mono ?_;rintro e w2 ⟨A',c',rfl,hcc,hj2,hb2⟩;have HC:=Lib.hid hcc;have HJ2:=Lib.hid hj2;have HB2:=Lib.hid (below_next HB1.out hb2);clear hcc hj2 hb2)
 go_ret2
 exact⟨A',c',rfl,HC.out,HJ2.out,HB2.out⟩
set_option maxHeartbeats 4000000 in
set_option maxRecDepth 100000 in
theorem rout_any (M:Cm) (A B:Option Addr) (n c m d:Nat) (x:Cfg) (P:List Int) (a:Int) (w:World) (hC:CW w M x) (hj:JR w B m P) (hn:m≤1000000) (hP:∀q∈P,∃j:Nat,j<x.os.length∧q=j) (hb:∀y∈x.os,0≤y.2.2.1∧y.2.2.1≤32) :
  Calls Tryz.prog 56 #[.agg #[.slice M.r.A M.r.n M.r.c,.slice M.l.A M.l.n M.l.c,.slice M.p.A M.p.n M.p.c,.slice M.o.A M.o.n M.o.c,.slice M.g.A M.g.n M.g.c,.slice M.s.A M.s.n M.s.c,.slice M.m.A M.m.n M.m.c,.slice A n c,.slice B m d],.int .u32 a] w fun e w'=>∃A' c',e=.returned (.tuple #[.slice A' (longP (preO x) a P [] 0).1.length c',.int .i64 (longP (preO x) a P [] 0).2])∧(longP (preO x) a P [] 0).1.length≤c'∧JR w' A' (longP (preO x) a P [] 0).1.length (longP (preO x) a P [] 0).1∧Below w.heap.size w w':=by
 have HB1:=Lib.hid ((Below.refl w.heap.size w).alloc (Nat.le_refl _) (.cells #[.slice M.r.A M.r.n M.r.c,.slice M.l.A M.l.n M.l.c,.slice M.p.A M.p.n M.p.c,.slice M.o.A M.o.n M.o.c,.slice M.g.A M.g.n M.g.c,.slice M.s.A M.s.n M.s.c,.slice M.m.A M.m.n M.m.c,.slice A n c,.slice B m d] 120))
 have HK:=Lib.hid (Blk.new w 120 #[.slice M.r.A M.r.n M.r.c,.slice M.l.A M.l.n M.l.c,.slice M.p.A M.p.n M.p.c,.slice M.o.A M.o.n M.o.c,.slice M.g.A M.g.n M.g.c,.slice M.s.A M.s.n M.s.c,.slice M.m.A M.m.n M.m.c,.slice A n c,.slice B m d])
 have HLO:=Lib.hid (longest_any 112 #[.pointer (some ⟨w.heap.size,0,none⟩)] (by intros;rfl) (preO x) B m d P a (w.alloc (.cells #[.slice M.r.A M.r.n M.r.c,.slice M.l.A M.l.n M.l.c,.slice M.p.A M.p.n M.p.c,.slice M.o.A M.o.n M.o.c,.slice M.g.A M.g.n M.g.c,.slice M.s.A M.s.n M.s.c,.slice M.m.A M.m.n M.m.c,.slice A n c,.slice B m d] 120)) (hj.next HB1.out) hn (fun q hq=>by
   obtain⟨j,hj,rfl⟩:=hP q hq
   have hx:x.os[j]?=some x.os[j]:=List.getElem?_eq_getElem hj
   have:=hb _ (List.getElem_mem hj)
   unfold preO
   rw[Int.toNat_natCast,hx]
   simpa using this)
  (fun W q hq hW=>by
   obtain⟨j,hj,rfl⟩:=hP q hq
   exact rout1_any M A B n c m d w.heap.size x W (HK.out.next hW) ((hC.next HB1.out).next hW) j hj))
 generalize longP (preO x) a P [] 0=R at *
 clear hC hj hP hb
 go_enter Tryz.func56,Tryz.ntmps56
 go_wp2_with (go_at_call 108;refine HLO.out.mono ?_;rintro e w2 ⟨A',c',rfl,hcc,hj2,hb2⟩;have HC:=Lib.hid hcc;have HJ2:=Lib.hid hj2;have HB2:=Lib.hid (below_next HB1.out hb2);clear hcc hj2 hb2)
 go_ret2
 exact⟨A',c',rfl,HC.out,HJ2.out,HB2.out⟩
end Go.Proofs.YtfidicbknjoafaaGreatDoor
namespace Go.Proofs.YtfidicbknjoafaaGreatDoor
open Go.RowKit Lx Sm
theorem store5 {W:World} {N b:Nat} {t:TypeId} (hs:Slot W N t 5) (hN:b≤N) (w:World) (hB:Below b w W) (v0 v1 v2 v3 v4:Value):∃W',W'=((((W.setCell ⟨N,0,none⟩ v0).setCell ⟨N,1,none⟩ v1).setCell ⟨N,2,none⟩ v2).setCell ⟨N,3,none⟩ v3).setCell ⟨N,4,none⟩ v4∧Blk W' N t #[v0,v1,v2,v3,v4]∧Below b w W'∧(∀g t' cs,g ≠ N→Blk W g t' cs→Blk W' g t' cs):=by
 obtain⟨cs,hz,hb⟩:=hs
 refine⟨_,rfl,?_,(((((hB.setCell (by simpa using hN) v0).setCell (by simpa using hN) v1).setCell (by simpa using hN) v2).setCell (by simpa using hN) v3).setCell (by simpa using hN) v4),fun g t' cs hn hg=>(((((hg.far hn v0).far hn v1).far hn v2).far hn v3).far hn v4)⟩
 have h:=(((((hb.set_ 0 v0).set_ 1 v1).set_ 2 v2).set_ 3 v3).set_ 4 v4)
 have e:(((((cs.setIfInBounds 0 v0).setIfInBounds 1 v1).setIfInBounds 2 v2).setIfInBounds 3 v3).setIfInBounds 4 v4)=#[v0,v1,v2,v3,v4]:=by
  apply Array.ext_getElem?
  intro i
  rcases i with _ | _ | _ | _ | _|i <;> simp[hz]
 rw[e]at h
 exact h
theorem store9 {W:World} {N b:Nat} {t:TypeId} (hs:Slot W N t 9) (hN:b≤N) (w:World) (hB:Below b w W) (v0 v1 v2 v3 v4 v5 v6 v7 v8:Value):∃W',W'=((((((((W.setCell ⟨N,0,none⟩ v0).setCell ⟨N,1,none⟩ v1).setCell ⟨N,2,none⟩ v2).setCell ⟨N,3,none⟩ v3).setCell ⟨N,4,none⟩ v4).setCell ⟨N,5,none⟩ v5).setCell ⟨N,6,none⟩ v6).setCell ⟨N,7,none⟩ v7).setCell ⟨N,8,none⟩ v8∧Blk W' N t #[v0,v1,v2,v3,v4,v5,v6,v7,v8]∧Below b w W'∧(∀g t' cs,g ≠ N→Blk W g t' cs→Blk W' g t' cs):=by
 obtain⟨cs,hz,hb⟩:=hs
 refine⟨_,rfl,?_,(((((((((hB.setCell (by simpa using hN) v0).setCell (by simpa using hN) v1).setCell (by simpa using hN) v2).setCell (by simpa using hN) v3).setCell (by simpa using hN) v4).setCell (by simpa using hN) v5).setCell (by simpa using hN) v6).setCell (by simpa using hN) v7).setCell (by simpa using hN) v8),fun g t' cs hn hg=>(((((((((hg.far hn v0).far hn v1).far hn v2).far hn v3).far hn v4).far hn v5).far hn v6).far hn v7).far hn v8)⟩
 have h:=(((((((((hb.set_ 0 v0).set_ 1 v1).set_ 2 v2).set_ 3 v3).set_ 4 v4).set_ 5 v5).set_ 6 v6).set_ 7 v7).set_ 8 v8)
 have e:(((((((((cs.setIfInBounds 0 v0).setIfInBounds 1 v1).setIfInBounds 2 v2).setIfInBounds 3 v3).setIfInBounds 4 v4).setIfInBounds 5 v5).setIfInBounds 6 v6).setIfInBounds 7 v7).setIfInBounds 8 v8)=#[v0,v1,v2,v3,v4,v5,v6,v7,v8]:=by
  apply Array.ext_getElem?
  intro i
  rcases i with _ | _ | _ | _ | _ | _ | _ | _ | _|i <;> simp[hz]
 rw[e]at h
 exact h
theorem ret_cheap (tm:Array Value) (N:Nat) (W:World) (v0 v1 v2 v3 v4:Value) (h2:tm.getD 4 undef=.pointer (some ⟨N,0,none⟩)) (c0:W.cell? ⟨N,0,none⟩=some v0) (c1:W.cell? ⟨N,1,none⟩=some v1) (c2:W.cell? ⟨N,2,none⟩=some v2) (c3:W.cell? ⟨N,3,none⟩=some v3) (c4:W.cell? ⟨N,4,none⟩=some v4) :
  (results Tryz.f57 tm).run Tryz.prog W=.ok (.agg #[v0,v1,v2,v3,v4]) W:=by
 have h2':tm[4]?.getD undef=.pointer (some ⟨N,0,none⟩):=by simpa using h2
 simp[results,Tryz.results57,go_sem,h2',c0,c1,c2,c3,c4]
theorem cheap_snoc (os:List (Int × Int × Int × Int × Int)):∀ (L:List Int) (b:Int × Int × Int × Int × Int) (q:Int),cheapR os b (L++[q])=if (routeAt os q).2.2.2.2<(cheapR os b L).2.2.2.2 then routeAt os q else cheapR os b L
 | [],b,q=>rfl
 | i :: L,b,q=>by
  simp only[List.cons_append,cheapR]
  exact cheap_snoc os L _ q
set_option maxHeartbeats 8000000 in
set_option maxRecDepth 100000 in
theorem cheapest_any (M:Cm) (A B C:Option Addr) (n c m d k cc:Nat) (x:Cfg) (L:List Int) (w:World) (hC:CW w M x) (hj:JR w C k L) (h0:0<k) (hk:k≤1000000) (hkc:k≤cc) (hL:∀q∈L,∃j:Nat,j<x.os.length∧q=j) :
  Calls Tryz.prog 57 #[.agg #[.slice M.r.A M.r.n M.r.c,.slice M.l.A M.l.n M.l.c,.slice M.p.A M.p.n M.p.c,.slice M.o.A M.o.n M.o.c,.slice M.g.A M.g.n M.g.c,.slice M.s.A M.s.n M.s.c,.slice M.m.A M.m.n M.m.c,.slice A n c,.slice B m d],.slice C k cc] w fun e w'=>e=.returned (VRoute (cheap x.os L))∧Below w.heap.size w w':=by
 have hkl:=hj.1
 obtain⟨q0,L1,rfl⟩:∃q L',L=q :: L':=by
  cases L with
  | nil=>simp at hkl;omega
  | cons q L'=>exact⟨q,L',rfl⟩
 obtain⟨j0,hj0,rfl⟩:=hL _ (List.mem_cons_self ..)
 obtain⟨bo,oo,⟨r0,a0,b0,v0,c0⟩,hA,hbo,hx,d0,d1,d2,d3,d4⟩:=IRoute.cells hC.o (i:=j0) (by have:=hC.o.1;omega)
 obtain⟨bc,oc,hCa,hbc,l0⟩:=hj.at_ h0
 have HR0:Hid (routeAt x.os (j0:Int)=(r0,a0,b0,v0,c0)):=Lib.hid (by unfold routeAt;simp[hx])
 have HB1:=Lib.hid (((Below.refl w.heap.size w).alloc (Nat.le_refl _) (.cells #[.slice M.r.A M.r.n M.r.c,.slice M.l.A M.l.n M.l.c,.slice M.p.A M.p.n M.p.c,.slice M.o.A M.o.n M.o.c,.slice M.g.A M.g.n M.g.c,.slice M.s.A M.s.n M.s.c,.slice M.m.A M.m.n M.m.c,.slice A n c,.slice B m d] 120)).alloc (by simp) (.cells #[.int .i64 0,.int .u32 0,.int .i64 0,.int .u32 0,.int .i64 0] 130))
 have HK:=Lib.hid ((Blk.new w 120 #[.slice M.r.A M.r.n M.r.c,.slice M.l.A M.l.n M.l.c,.slice M.p.A M.p.n M.p.c,.slice M.o.A M.o.n M.o.c,.slice M.g.A M.g.n M.g.c,.slice M.s.A M.s.n M.s.c,.slice M.m.A M.m.n M.m.c,.slice A n c,.slice B m d]).alloc (.cells #[.int .i64 0,.int .u32 0,.int .i64 0,.int .u32 0,.int .i64 0] 130))
 have HS:Hid (Blk ((w.alloc (.cells #[.slice M.r.A M.r.n M.r.c,.slice M.l.A M.l.n M.l.c,.slice M.p.A M.p.n M.p.c,.slice M.o.A M.o.n M.o.c,.slice M.g.A M.g.n M.g.c,.slice M.s.A M.s.n M.s.c,.slice M.m.A M.m.n M.m.c,.slice A n c,.slice B m d] 120)).alloc (.cells #[.int .i64 0,.int .u32 0,.int .i64 0,.int .u32 0,.int .i64 0] 130)) (w.heap.size+1) 130 #[.int .i64 0,.int .u32 0,.int .i64 0,.int .u32 0,.int .i64 0]):=Lib.hid (by simpa using Blk.new (w.alloc (.cells #[.slice M.r.A M.r.n M.r.c,.slice M.l.A M.l.n M.l.c,.slice M.p.A M.p.n M.p.c,.slice M.o.A M.o.n M.o.c,.slice M.g.A M.g.n M.g.c,.slice M.s.A M.s.n M.s.c,.slice M.m.A M.m.n M.m.c,.slice A n c,.slice B m d] 120)) 130 #[.int .i64 0,.int .u32 0,.int .i64 0,.int .u32 0,.int .i64 0])
 replace l0:=cell_up l0 HB1.out
 replace d0:=cell_up d0 HB1.out
 replace d1:=cell_up d1 HB1.out
 replace d2:=cell_up d2 HB1.out
 replace d3:=cell_up d3 HB1.out
 replace d4:=cell_up d4 HB1.out
 have hi0:(j0:Int)<(M.o.n:Int):=by have:=hC.o.1;omega
 have hi1:(0:Int)<(k:Int):=by omega
 have HC:=Lib.hid hC
 have HJ:=Lib.hid hj
 have HL:=Lib.hid hL
 have HA:=Lib.hid hA
 subst hCa
 clear hC hj hL hA hx hj0
 simp only[List.getD_cons_zero,Nat.add_zero]at l0
 go_enter Tryz.func57,Tryz.ntmps57
 go_upto_region 1 with fail
 have hl0:=HK.out.lt
 have HW1:=Lib.hid hl0
 have hl1:=Nat.lt_of_lt_of_le hbo HB1.out.size
 have hl2:=Nat.lt_of_lt_of_le hbc HB1.out.size
 generalize (w.alloc (.cells #[.slice M.r.A M.r.n M.r.c,.slice M.l.A M.l.n M.l.c,.slice M.p.A M.p.n M.p.c,.slice M.o.A M.o.n M.o.c,.slice M.g.A M.g.n M.g.c,.slice M.s.A M.s.n M.s.c,.slice M.m.A M.m.n M.m.c,.slice A n c,.slice B m d] 120)).alloc (.cells #[.int .i64 0,.int .u32 0,.int .i64 0,.int .u32 0,.int .i64 0] 130)=W1 at *
 have k3:W1.cell? ⟨w.heap.size,3,none⟩=some (.slice (some ⟨bo,oo,none⟩) M.o.n M.o.c):=by rw[←HA.out];exact HK.out.cell 3
 go_region
 have HB2:=Lib.hid (HB1.out.trans (((Below.refl W1.heap.size W1).alloc (Nat.le_refl _) (.cells #[.int .i64 r0,.int .u32 a0,.int .i64 b0,.int .u32 v0,.int .i64 c0] 130)).drew.mono HB1.out.size))
 have HB12:=Lib.hid ((Below.refl W1.heap.size W1).alloc (Nat.le_refl _) (.cells #[.int .i64 r0,.int .u32 a0,.int .i64 b0,.int .u32 v0,.int .i64 c0] 130)).drew
 have HN:=Lib.hid (Blk.new W1 130 #[.int .i64 r0,.int .u32 a0,.int .i64 b0,.int .u32 v0,.int .i64 c0]).drew
 have HK2:=Lib.hid (HK.out.next HB12.out)
 have HS2:=Lib.hid (HS.out.next HB12.out)
 have HSl:=Lib.hid HS.out.lt
 clear k3 l0 d0 d1 d2 d3 d4 hl1 hl2
 generalize (W1.alloc (.cells #[.int .i64 r0,.int .u32 a0,.int .i64 b0,.int .u32 v0,.int .i64 c0] 130)).drew=W2 at *
 have hkk:(k:Int) - 1=((k - 1:Nat):Int):=by omega
 have HT:Hid (L1.length=k - 1):=Lib.hid (by simp at hkl;omega)
 have hk1:k - 1≤1000000:=by omega
 by_cases hcc:cc=1
 ·subst hcc
  obtain rfl:k=1:=by omega
  go_wp2
  go_loopw [20] (fun i wr=>∃ (q:Nat) (rr ra rb rv rc:Int),q≤1 - 1∧i=.int .i64 q∧Hid (cheapR x.os (r0,a0,b0,v0,c0) (L1.take q)=(rr,ra,rb,rv,rc))∧Hid (Blk wr W1.heap.size 130 #[.int .i64 rr,.int .u32 ra,.int .i64 rb,.int .u32 rv,.int .i64 rc])∧Hid (Blk wr w.heap.size 120 #[.slice M.r.A M.r.n M.r.c,.slice M.l.A M.l.n M.l.c,.slice M.p.A M.p.n M.p.c,.slice M.o.A M.o.n M.o.c,.slice M.g.A M.g.n M.g.c,.slice M.s.A M.s.n M.s.c,.slice M.m.A M.m.n M.m.c,.slice A n c,.slice B m d])∧Hid (Blk wr (w.heap.size+1) 130 #[.int .i64 0,.int .u32 0,.int .i64 0,.int .u32 0,.int .i64 0])∧Hid (Below w.heap.size w wr)) (fun i _=>1 - 1 - (intOf i).toNat)
  case atStart=>exact⟨0,r0,a0,b0,v0,c0,Nat.zero_le _,rfl,rfl,HN,HK2,HS2,HB2⟩
  case round =>
   obtain⟨q,rr,ra,rb,rv,rc,hq,rfl,HF,HN,HK,HS,HB⟩:=hrel
   rcases Nat.lt_or_ge q (1 - 1) with hlt|hge
   ·omega
   ·obtain rfl:q=1 - 1:=by omega
    have hi3:¬ (((1 - 1:Nat):Int)<((1 - 1:Nat):Int)):=by omega
    have hlk:L1.take (1 - 1)=L1:=List.take_of_length_le (by have:=HT.out;omega)
    rw[hlk]at HF
    clear hlk
    have f0:wr.cell? ⟨W1.heap.size,0,none⟩=some (.int .i64 rr):=HN.out.cell 0
    have f1:wr.cell? ⟨W1.heap.size,1,none⟩=some (.int .u32 ra):=HN.out.cell 1
    have f2:wr.cell? ⟨W1.heap.size,2,none⟩=some (.int .i64 rb):=HN.out.cell 2
    have f3:wr.cell? ⟨W1.heap.size,3,none⟩=some (.int .u32 rv):=HN.out.cell 3
    have f4:wr.cell? ⟨W1.heap.size,4,none⟩=some (.int .i64 rc):=HN.out.cell 4
    have s0:wr.cell? ⟨w.heap.size+1,0,none⟩=some (.int .i64 0):=HS.out.cell 0
    have s1:wr.cell? ⟨w.heap.size+1,1,none⟩=some (.int .u32 0):=HS.out.cell 1
    have s2:wr.cell? ⟨w.heap.size+1,2,none⟩=some (.int .i64 0):=HS.out.cell 2
    have s3:wr.cell? ⟨w.heap.size+1,3,none⟩=some (.int .u32 0):=HS.out.cell 3
    have s4:wr.cell? ⟨w.heap.size+1,4,none⟩=some (.int .i64 0):=HS.out.cell 4
    have z0:wr.frozen? ⟨w.heap.size+1,0,none⟩=false:=HS.out.frozen 0
    have z1:wr.frozen? ⟨w.heap.size+1,1,none⟩=false:=HS.out.frozen 1
    have z2:wr.frozen? ⟨w.heap.size+1,2,none⟩=false:=HS.out.frozen 2
    have z3:wr.frozen? ⟨w.heap.size+1,3,none⟩=false:=HS.out.frozen 3
    have z4:wr.frozen? ⟨w.heap.size+1,4,none⟩=false:=HS.out.frozen 4
    go_wp2
    obtain⟨W',hW',hk',hB',_⟩:=store5 HS.out.slot (Nat.le_succ _) w HB.out (.int .i64 rr) (.int .u32 ra) (.int .i64 rb) (.int .u32 rv) (.int .i64 rc)
    rw[←hW']
    clear hW' f0 f1 f2 f3 f4 s0 s1 s2 s3 s4 z0 z1 z2 z3 z4
    refine bodyPost_ret (ret_cheap _ (w.heap.size+1) _ _ _ _ _ _ rfl (hk'.cell 0) (hk'.cell 1) (hk'.cell 2) (hk'.cell 3) (hk'.cell 4)) rfl ?_
    refine⟨?_,hB'⟩
    show _=Ending.returned (VRoute (cheapR x.os (routeAt x.os (j0:Int)) L1))
    rw[HR0.out,HF.out]
    rfl
 ·have hcc':¬ (1=cc):=fun e=>hcc e.symm
  go_wp2
  go_loopw [20] (fun i wr=>∃ (q:Nat) (rr ra rb rv rc:Int),q≤k - 1∧i=.int .i64 q∧Hid (cheapR x.os (r0,a0,b0,v0,c0) (L1.take q)=(rr,ra,rb,rv,rc))∧Hid (Blk wr W1.heap.size 130 #[.int .i64 rr,.int .u32 ra,.int .i64 rb,.int .u32 rv,.int .i64 rc])∧Hid (Blk wr w.heap.size 120 #[.slice M.r.A M.r.n M.r.c,.slice M.l.A M.l.n M.l.c,.slice M.p.A M.p.n M.p.c,.slice M.o.A M.o.n M.o.c,.slice M.g.A M.g.n M.g.c,.slice M.s.A M.s.n M.s.c,.slice M.m.A M.m.n M.m.c,.slice A n c,.slice B m d])∧Hid (Blk wr (w.heap.size+1) 130 #[.int .i64 0,.int .u32 0,.int .i64 0,.int .u32 0,.int .i64 0])∧Hid (Below w.heap.size w wr)) (fun i _=>k - 1 - (intOf i).toNat)
  case atStart=>exact⟨0,r0,a0,b0,v0,c0,Nat.zero_le _,rfl,rfl,HN,HK2,HS2,HB2⟩
  case round =>
   obtain⟨q,rr,ra,rb,rv,rc,hq,rfl,HF,HN,HK,HS,HB⟩:=hrel
   rcases Nat.lt_or_ge q (k - 1) with hlt|hge
   ·obtain⟨b9,o9,hC9,hb9,l9⟩:=(HJ.out.next HB.out).at_ (k:=q+1) (by omega)
    cases hC9
    obtain⟨j,hj,hjq⟩:=HL.out (L1.getD q 0) (List.mem_cons_of_mem _ (by
     have:q<L1.length:=by have:=HT.out;omega
     rw[List.getD_eq_getElem?_getD,List.getElem?_eq_getElem this]
     exact List.getElem_mem this))
    rw[List.getD_cons_succ,hjq,show oc+(q+1)=oc+1+q by omega]at l9
    obtain⟨b8,o8,⟨sr,sa,sb,sv,sc⟩,hA8,hb8,hx8,d0,d1,d2,d3,d4⟩:=IRoute.cells (HC.out.next HB.out).o (i:=j) (by have:=HC.out.o.1;omega)
    have hcs:Hid (cheapR x.os (r0,a0,b0,v0,c0) (L1.take (q+1))=if sc<rc then (sr,sa,sb,sv,sc) else (rr,ra,rb,rv,rc)):=Lib.hid (by
     rw[take_next (by have:=HT.out;omega),cheap_snoc,HF.out,hjq]
     have:routeAt x.os (j:Int)=(sr,sa,sb,sv,sc):=by unfold routeAt;simp[hx8]
     rw[this])
    rw[HA.out]at hA8
    cases hA8
    have k3:wr.cell? ⟨w.heap.size,3,none⟩=some (.slice (some ⟨bo,oo,none⟩) M.o.n M.o.c):=by rw[←HA.out];exact HK.out.cell 3
    have hi2:(j:Int)<(M.o.n:Int):=by have:=HC.out.o.1;omega
    have hi3:(q:Int)<((k - 1:Nat):Int):=by omega
    clear hjq hx8 hj
    go_upto_region 6 with fail
    have HBa:=Lib.hid ((Below.refl wr.heap.size wr).alloc (Nat.le_refl _) (.cells #[.int .i64 sr,.int .u32 sa,.int .i64 sb,.int .u32 sv,.int .i64 sc] 130))
    have f0:(wr.alloc (.cells #[.int .i64 sr,.int .u32 sa,.int .i64 sb,.int .u32 sv,.int .i64 sc] 130)).cell? ⟨wr.heap.size,0,none⟩=some (.int .i64 sr):=by go_simp
    have f1:(wr.alloc (.cells #[.int .i64 sr,.int .u32 sa,.int .i64 sb,.int .u32 sv,.int .i64 sc] 130)).cell? ⟨wr.heap.size,1,none⟩=some (.int .u32 sa):=by go_simp
    have f2:(wr.alloc (.cells #[.int .i64 sr,.int .u32 sa,.int .i64 sb,.int .u32 sv,.int .i64 sc] 130)).cell? ⟨wr.heap.size,2,none⟩=some (.int .i64 sb):=by go_simp
    have f3:(wr.alloc (.cells #[.int .i64 sr,.int .u32 sa,.int .i64 sb,.int .u32 sv,.int .i64 sc] 130)).cell? ⟨wr.heap.size,3,none⟩=some (.int .u32 sv):=by go_simp
    have f4:(wr.alloc (.cells #[.int .i64 sr,.int .u32 sa,.int .i64 sb,.int .u32 sv,.int .i64 sc] 130)).cell? ⟨wr.heap.size,4,none⟩=some (.int .i64 sc):=by go_simp
    have HNa:=Lib.hid (HN.out.next HBa.out)
    have HKa:=Lib.hid (HK.out.next HBa.out)
    have HSa:=Lib.hid (HS.out.next HBa.out)
    have HBb:=Lib.hid (HB.out.trans (HBa.out.mono HB.out.size))
    clear k3 d0 d1 d2 d3 d4 l9 HBa HN HK HS HB
    generalize wr.alloc (.cells #[.int .i64 sr,.int .u32 sa,.int .i64 sb,.int .u32 sv,.int .i64 sc] 130)=Wa at *
    have s0:Wa.cell? ⟨W1.heap.size,0,none⟩=some (.int .i64 rr):=HNa.out.cell 0
    have s1:Wa.cell? ⟨W1.heap.size,1,none⟩=some (.int .u32 ra):=HNa.out.cell 1
    have s2:Wa.cell? ⟨W1.heap.size,2,none⟩=some (.int .i64 rb):=HNa.out.cell 2
    have s3:Wa.cell? ⟨W1.heap.size,3,none⟩=some (.int .u32 rv):=HNa.out.cell 3
    have s4:Wa.cell? ⟨W1.heap.size,4,none⟩=some (.int .i64 rc):=HNa.out.cell 4
    have z0:Wa.frozen? ⟨W1.heap.size,0,none⟩=false:=HNa.out.frozen 0
    have z1:Wa.frozen? ⟨W1.heap.size,1,none⟩=false:=HNa.out.frozen 1
    have z2:Wa.frozen? ⟨W1.heap.size,2,none⟩=false:=HNa.out.frozen 2
    have z3:Wa.frozen? ⟨W1.heap.size,3,none⟩=false:=HNa.out.frozen 3
    have z4:Wa.frozen? ⟨W1.heap.size,4,none⟩=false:=HNa.out.frozen 4
    by_cases hsc:sc<rc
    ·rw[if_pos hsc]at hcs
     go_wp2
     obtain⟨W',hW',hk',hB',hfar⟩:=store5 HNa.out.slot (Nat.le_of_lt HW1.out) w HBb.out (.int .i64 sr) (.int .u32 sa) (.int .i64 sb) (.int .u32 sv) (.int .i64 sc)
     have HK':=Lib.hid (hfar _ _ _ (by have:=HW1.out;omega) HKa.out)
     have HS':=Lib.hid (hfar _ _ _ (by have:=HSl.out;omega) HSa.out)
     rw[←hW']
     clear hW' f0 f1 f2 f3 f4 s0 s1 s2 s3 s4 z0 z1 z2 z3 z4 hfar
     go_roundw
     case rel=>exact⟨q+1,sr,sa,sb,sv,sc,by omega,by go_num,hcs,Lib.hid hk',HK',HS',Lib.hid hB'⟩
     case measure=>simp[intOf];omega
    ·rw[if_neg hsc]at hcs
     go_wp2
     clear f0 f1 f2 f3 f4 s0 s1 s2 s3 s4 z0 z1 z2 z3 z4
     go_roundw
     case rel=>exact⟨q+1,rr,ra,rb,rv,rc,by omega,by go_num,hcs,HNa,HKa,HSa,HBb⟩
     case measure=>simp[intOf];omega
   ·obtain rfl:q=k - 1:=by omega
    have hi3:¬ (((k - 1:Nat):Int)<((k - 1:Nat):Int)):=by omega
    have hlk:L1.take (k - 1)=L1:=List.take_of_length_le (by have:=HT.out;omega)
    rw[hlk]at HF
    clear hlk
    have f0:wr.cell? ⟨W1.heap.size,0,none⟩=some (.int .i64 rr):=HN.out.cell 0
    have f1:wr.cell? ⟨W1.heap.size,1,none⟩=some (.int .u32 ra):=HN.out.cell 1
    have f2:wr.cell? ⟨W1.heap.size,2,none⟩=some (.int .i64 rb):=HN.out.cell 2
    have f3:wr.cell? ⟨W1.heap.size,3,none⟩=some (.int .u32 rv):=HN.out.cell 3
    have f4:wr.cell? ⟨W1.heap.size,4,none⟩=some (.int .i64 rc):=HN.out.cell 4
    have s0:wr.cell? ⟨w.heap.size+1,0,none⟩=some (.int .i64 0):=HS.out.cell 0
    have s1:wr.cell? ⟨w.heap.size+1,1,none⟩=some (.int .u32 0):=HS.out.cell 1
    have s2:wr.cell? ⟨w.heap.size+1,2,none⟩=some (.int .i64 0):=HS.out.cell 2
    have s3:wr.cell? ⟨w.heap.size+1,3,none⟩=some (.int .u32 0):=HS.out.cell 3
    have s4:wr.cell? ⟨w.heap.size+1,4,none⟩=some (.int .i64 0):=HS.out.cell 4
    have z0:wr.frozen? ⟨w.heap.size+1,0,none⟩=false:=HS.out.frozen 0
    have z1:wr.frozen? ⟨w.heap.size+1,1,none⟩=false:=HS.out.frozen 1
    have z2:wr.frozen? ⟨w.heap.size+1,2,none⟩=false:=HS.out.frozen 2
    have z3:wr.frozen? ⟨w.heap.size+1,3,none⟩=false:=HS.out.frozen 3
    have z4:wr.frozen? ⟨w.heap.size+1,4,none⟩=false:=HS.out.frozen 4
    go_wp2
    obtain⟨W',hW',hk',hB',_⟩:=store5 HS.out.slot (Nat.le_succ _) w HB.out (.int .i64 rr) (.int .u32 ra) (.int .i64 rb) (.int .u32 rv) (.int .i64 rc)
    rw[←hW']
    clear hW' f0 f1 f2 f3 f4 s0 s1 s2 s3 s4 z0 z1 z2 z3 z4
    refine bodyPost_ret (ret_cheap _ (w.heap.size+1) _ _ _ _ _ _ rfl (hk'.cell 0) (hk'.cell 1) (hk'.cell 2) (hk'.cell 3) (hk'.cell 4)) rfl ?_
    refine⟨?_,hB'⟩
    show _=Ending.returned (VRoute (cheapR x.os (routeAt x.os (j0:Int)) L1))
    rw[HR0.out,HF.out]
    rfl
end Go.Proofs.YtfidicbknjoafaaGreatDoor
namespace Go.Proofs.YtfidicbknjoafaaGreatDoor
open Go.RowKit Lx Sm
section
variable {b:Nat} {T:TP} {x:Cfg} {gs:List Int}
set_option maxHeartbeats 8000000 in
set_option maxRecDepth 100000 in
theorem ownOf_any (r:Int) (w:World) (h:TW w b T x gs) (hrn:∀y∈x.rs,(str y.1).size≤281474976710656) (hln:∀y∈x.ls,(str y.1).size≤281474976710656) :
  Calls Tryz.prog 52 #[.pointer (some ⟨T.N,0,none⟩),.int .i64 r] w fun e w'=>∃ (M:Cm) (x':Cfg) (A B:Option Addr) (c d:Nat),e=.returned (.agg #[.slice M.r.A M.r.n M.r.c,.slice M.l.A M.l.n M.l.c,.slice M.p.A M.p.n M.p.c,.slice M.o.A M.o.n M.o.c,.slice M.g.A M.g.n M.g.c,.slice M.s.A M.s.n M.s.c,.slice M.m.A M.m.n M.m.c,.slice A (portsOf x r).length c,.slice B (routesOf x r).length d])∧CW w' M x'∧Alike x x'∧JR w' A (portsOf x r).length (portsOf x r)∧JR w' B (routesOf x r).length (routesOf x r)∧Below w.heap.size w w':=by
 obtain⟨i0,hi,hz0,hz1,hz2⟩:=info_parts info_int
 have HB0:=Lib.hid ((Below.refl w.heap.size w).alloc (Nat.le_refl _) (.cells #[.slice none 0 0,.slice none 0 0,.slice none 0 0,.slice none 0 0,.slice none 0 0,.slice none 0 0,.slice none 0 0,.slice none 0 0,.slice none 0 0] 120))
 have HS:=Lib.hid (Blk.new w 120 #[.slice none 0 0,.slice none 0 0,.slice none 0 0,.slice none 0 0,.slice none 0 0,.slice none 0 0,.slice none 0 0,.slice none 0 0,.slice none 0 0])
 have HC:=Lib.hid fun W (hW:Below w.heap.size w W)=>config_any W (h.next hW) hrn hln
 have HO:=Lib.hid fun W (hW:Below w.heap.size w W)=>tof_any r W (h.next hW)
 have HP:Hid (portsOf x r=rowIn (tabs x x.ps.length x.ps.length x.ms.length 1) x.rs.length r):=Lib.hid rfl
 rw[HP.out]
 generalize rowIn (tabs x x.ps.length x.ps.length x.ms.length 1) x.rs.length r=P at *
 clear h hrn hln
 go_enter Tryz.func52,Tryz.ntmps52
 go_upto_region 1 with fail
 have HWZ:Hid (w.heap.size<(w.alloc (.cells #[.slice none 0 0,.slice none 0 0,.slice none 0 0,.slice none 0 0,.slice none 0 0,.slice none 0 0,.slice none 0 0,.slice none 0 0,.slice none 0 0] 120)).heap.size):=Lib.hid (by simp)
 generalize w.alloc (.cells #[.slice none 0 0,.slice none 0 0,.slice none 0 0,.slice none 0 0,.slice none 0 0,.slice none 0 0,.slice none 0 0,.slice none 0 0,.slice none 0 0] 120)=W0 at *
 go_upto_region 2 with (first
  | (go_at_call 63;refine (HC.out _ HB0.out).mono ?_;rintro e w1 ⟨M,x',rfl,hc,ha,hb⟩;have HM:=Lib.hid hc;have HAL:=Lib.hid ha;have HB1:=Lib.hid (below_next HB0.out hb);have HS1:=Lib.hid (HS.out.next hb);clear hc ha hb)
  | (go_at_call 47;refine (HO.out _ HB1.out).mono ?_;rintro e w2 ⟨A,c,rfl,hj,hb⟩;have HJ:=Lib.hid hj;have HM2:=Lib.hid (HM.out.fr (Fr2.below hb));have HB2:=Lib.hid (below_next HB1.out hb);have HS2:=Lib.hid (HS1.out.next hb);clear hj hb))
 have HBN:=Lib.hid ((Below.refl w2.heap.size w2).alloc (Nat.le_refl _) (.cells #[.slice M.r.A M.r.n M.r.c,.slice M.l.A M.l.n M.l.c,.slice M.p.A M.p.n M.p.c,.slice M.o.A M.o.n M.o.c,.slice M.g.A M.g.n M.g.c,.slice M.s.A M.s.n M.s.c,.slice M.m.A M.m.n M.m.c,.slice A P.length c,.slice none 0 0] 120))
 have HN5:=Lib.hid (Blk.new w2 120 #[.slice M.r.A M.r.n M.r.c,.slice M.l.A M.l.n M.l.c,.slice M.p.A M.p.n M.p.c,.slice M.o.A M.o.n M.o.c,.slice M.g.A M.g.n M.g.c,.slice M.s.A M.s.n M.s.c,.slice M.m.A M.m.n M.m.c,.slice A P.length c,.slice none 0 0])
 have HLT:Hid (w2.heap.size<(w2.alloc (.cells #[.slice M.r.A M.r.n M.r.c,.slice M.l.A M.l.n M.l.c,.slice M.p.A M.p.n M.p.c,.slice M.o.A M.o.n M.o.c,.slice M.g.A M.g.n M.g.c,.slice M.s.A M.s.n M.s.c,.slice M.m.A M.m.n M.m.c,.slice A P.length c,.slice none 0 0] 120)).heap.size):=Lib.hid (by simp)
 have HNlt:=Lib.hid HS2.out.lt
 have HOS:=Lib.hid HAL.out.o
 have hon6:M.o.n≤1000000:=HM2.out.oks.2.2.2.1.2
 have HON:Hid (x'.os.length=M.o.n):=Lib.hid HM2.out.len.2.2.2.1
 have HRO:Hid (routesOf x r=picks (fun y=>y.1==r) x.os x.os.length):=Lib.hid rfl
 generalize w2.alloc (.cells #[.slice M.r.A M.r.n M.r.c,.slice M.l.A M.l.n M.l.c,.slice M.p.A M.p.n M.p.c,.slice M.o.A M.o.n M.o.c,.slice M.g.A M.g.n M.g.c,.slice M.s.A M.s.n M.s.c,.slice M.m.A M.m.n M.m.c,.slice A P.length c,.slice none 0 0] 120)=W5 at *
 have HIO:=Lib.hid HM2.out.cw.o
 have HAo:Hid (M.o.A=M.o.A):=Lib.hid rfl
 generalize hAo:M.o.A=Ao at HN5 HIO HAo ⊢
 have HAe:=Lib.hid hAo
 clear hAo HAo
 have k3:W5.cell? ⟨w2.heap.size,3,none⟩=some (.slice Ao M.o.n M.o.c):=HN5.out.cell 3
 go_wp2
 clear k3
 go_loopw [18] (fun i wr=>∃ (q:Nat) (v:Value),q≤M.o.n∧i=.int .i64 q∧Hid (Blk wr w2.heap.size 120 #[.slice M.r.A M.r.n M.r.c,.slice M.l.A M.l.n M.l.c,.slice M.p.A M.p.n M.p.c,.slice Ao M.o.n M.o.c,.slice M.g.A M.g.n M.g.c,.slice M.s.A M.s.n M.s.c,.slice M.m.A M.m.n M.m.c,.slice A P.length c,v])∧Hid (wr.ownsRow w2.heap.size 3 1 v (picks (fun y=>y.1==r) x.os q).length (I64 (picks (fun y=>y.1==r) x.os q)))∧Hid (Below w2.heap.size w2 wr)) (fun i _=>M.o.n - (intOf i).toNat)
 case atStart=>exact⟨0,_,Nat.zero_le _,rfl,HN5,Lib.hid (by simpa [I64,picks] using World.ownsRow_nil _ _ _ _),HBN⟩
 case round =>
  obtain⟨q,v,hq,rfl,HN,HO,HB⟩:=hrel
  rcases Nat.lt_or_ge q M.o.n with hlt|hge
  ·obtain⟨b8,o8,⟨sr,sa,sb,sv,sc⟩,hA8,hb8,hx8,d0,d1,d2,d3,d4⟩:=IRoute.cells (IR.next HIO.out HB.out) (i:=q) hlt
   subst hA8
   rw[HOS.out]at hx8
   have hi0:(q:Int)<(M.o.n:Int):=by omega
   have HFL:Hid ((picks (fun y=>y.1==r) x.os q).length≤1000000):=Lib.hid (Nat.le_trans (picks_len _ _ _) (by omega))
   go_upto_region 5 with fail
   have HBa:=Lib.hid ((Below.refl wr.heap.size wr).alloc (Nat.le_refl _) (.cells #[.int .i64 sr,.int .u32 sa,.int .i64 sb,.int .u32 sv,.int .i64 sc] 130))
   have f0:(wr.alloc (.cells #[.int .i64 sr,.int .u32 sa,.int .i64 sb,.int .u32 sv,.int .i64 sc] 130)).cell? ⟨wr.heap.size,0,none⟩=some (.int .i64 sr):=by go_simp
   have HNa:=Lib.hid (HN.out.next HBa.out)
   have HOa:=Lib.hid (ownk_next HO.out HBa.out)
   have HBb:=Lib.hid (HB.out.trans (HBa.out.mono HB.out.size))
   clear d0 d1 d2 d3 d4 HBa HN HO HB
   generalize wr.alloc (.cells #[.int .i64 sr,.int .u32 sa,.int .i64 sb,.int .u32 sv,.int .i64 sc] 130)=Wa at *
   by_cases hr:sr=r
   ·have e0:(sr==r)=true:=by simp[hr]
    have HPK:Hid (picks (fun y=>y.1==r) x.os (q+1)=picks (fun y=>y.1==r) x.os q++[(q:Int)]):=Lib.hid (picks_yes hx8 (by simp[hr]))
    clear hx8 hr
    generalize picks (fun y=>y.1==r) x.os q=F at *
    have s8:Wa.cell? ⟨w2.heap.size,8,none⟩=some v:=HNa.out.cell 8
    have hfl:=HFL.out
    go_wp2_with (
     at_builtin
     refine wpList_append_own _ rfl _ _ 52 rfl w2.heap.size 3 i0 (.int .i64 0) 1 8 Tryz.underlying52 hi hz0 hz1 hz2 rfl (by decide) _ F.length (I64 F) rfl (HOa.out.alloc _) ⟨Wa.heap.size,0,none⟩ 1 1 [.int .i64 (q:Int)] rfl rfl (cell_one_new _ _ _) (by intro x hx;simp at hx;subst hx;rfl) (by unfold maxLen;omega) (by omega) (by have:=HBb.out.size;simp;omega) ?_
     intro v' wz hown1 hgrow1 _
     have hown2:wz.ownsRow w2.heap.size 3 1 v' (F++[(q:Int)]).length (I64 (F++[(q:Int)])):=by rw[I64_app,List.length_append];exact hown1
     obtain⟨Bq,dq,rfl,_,_⟩:=own_jrc hown2
     have hbk:=blk_by (HNa.out.alloc _) (HOa.out.alloc _) hgrow1 (by decide)
     have u8:wz.cell? ⟨w2.heap.size,8,none⟩=some v:=hbk.cell 8
     have z8:wz.frozen? ⟨w2.heap.size,8,none⟩=false:=hbk.frozen 8
     have HBK:=Lib.hid hbk
     have hbz:Below w2.heap.size w2 wz:=(HBb.out.alloc HBb.out.size _).grown hgrow1 (by have:=HBb.out.size;simp;omega) (fun j e=>(HOa.out.lt j e).1)
     have HO1:=Lib.hid hown2
     have HB1:=Lib.hid hbz
     clear hbk hown1 hown2 hgrow1 hbz)
    clear u8 z8 s8 f0
    have HN2:=Lib.hid (Blk.set_to HBK.out 8 (.slice Bq (F++[(q:Int)]).length dq) (cs':=#[.slice M.r.A M.r.n M.r.c,.slice M.l.A M.l.n M.l.c,.slice M.p.A M.p.n M.p.c,.slice (some ⟨b8,o8,none⟩) M.o.n M.o.c,.slice M.g.A M.g.n M.g.c,.slice M.s.A M.s.n M.s.c,.slice M.m.A M.m.n M.m.c,.slice A P.length c,.slice Bq (F++[(q:Int)]).length dq]) rfl)
    have HO2:=Lib.hid (ownk_far (i:=8) (u:=(.slice Bq (F++[(q:Int)]).length dq)) HO1.out HBK.out.slot (by decide))
    have HB2':=Lib.hid (HB1.out.setCell (p:=⟨w2.heap.size,8,none⟩) (Nat.le_refl _) (.slice Bq (F++[(q:Int)]).length dq))
    simp only[List.length_append,List.length_cons,List.length_nil,Nat.zero_add]at HN2 HO2 HB2'
    go_roundw
    case rel=>exact⟨q+1,_,by omega,by go_num,HN2,Lib.hid (by rw[HPK.out,List.length_append];exact HO2.out),HB2'⟩
    case measure=>simp[intOf];omega
   ·have e0:(sr==r)=false:=by simpa using hr
    have HPK:Hid (picks (fun y=>y.1==r) x.os (q+1)=picks (fun y=>y.1==r) x.os q):=Lib.hid (picks_no hx8 (by simpa using hr))
    clear hx8 hr
    go_wp2
    clear f0
    go_roundw
    case rel=>exact⟨q+1,v,by omega,by go_num,HNa,Lib.hid (by rw[HPK.out];exact HOa.out),HBb⟩
    case measure=>simp[intOf];omega
  ·obtain rfl:q=M.o.n:=by omega
   have hi0:¬ ((M.o.n:Int)<(M.o.n:Int)):=by omega
   obtain⟨Bv,dv,rfl,hjB0⟩:=own_jr HO.out
   have HJB0:=Lib.hid hjB0
   clear hjB0
   have HS5:=Lib.hid (HS2.out.next HB.out)
   have n0:wr.cell? ⟨w2.heap.size,0,none⟩=some (.slice M.r.A M.r.n M.r.c):=HN.out.cell 0
   have n1:wr.cell? ⟨w2.heap.size,1,none⟩=some (.slice M.l.A M.l.n M.l.c):=HN.out.cell 1
   have n2:wr.cell? ⟨w2.heap.size,2,none⟩=some (.slice M.p.A M.p.n M.p.c):=HN.out.cell 2
   have n3:wr.cell? ⟨w2.heap.size,3,none⟩=some (.slice Ao M.o.n M.o.c):=HN.out.cell 3
   have n4:wr.cell? ⟨w2.heap.size,4,none⟩=some (.slice M.g.A M.g.n M.g.c):=HN.out.cell 4
   have n5:wr.cell? ⟨w2.heap.size,5,none⟩=some (.slice M.s.A M.s.n M.s.c):=HN.out.cell 5
   have n6:wr.cell? ⟨w2.heap.size,6,none⟩=some (.slice M.m.A M.m.n M.m.c):=HN.out.cell 6
   have n7:wr.cell? ⟨w2.heap.size,7,none⟩=some (.slice A P.length c):=HN.out.cell 7
   have n8:wr.cell? ⟨w2.heap.size,8,none⟩=some (.slice Bv (picks (fun y=>y.1==r) x.os M.o.n).length dv):=HN.out.cell 8
   have s0:wr.cell? ⟨w.heap.size,0,none⟩=some (.slice none 0 0):=HS5.out.cell 0
   have s1:wr.cell? ⟨w.heap.size,1,none⟩=some (.slice none 0 0):=HS5.out.cell 1
   have s2:wr.cell? ⟨w.heap.size,2,none⟩=some (.slice none 0 0):=HS5.out.cell 2
   have s3:wr.cell? ⟨w.heap.size,3,none⟩=some (.slice none 0 0):=HS5.out.cell 3
   have s4:wr.cell? ⟨w.heap.size,4,none⟩=some (.slice none 0 0):=HS5.out.cell 4
   have s5:wr.cell? ⟨w.heap.size,5,none⟩=some (.slice none 0 0):=HS5.out.cell 5
   have s6:wr.cell? ⟨w.heap.size,6,none⟩=some (.slice none 0 0):=HS5.out.cell 6
   have s7:wr.cell? ⟨w.heap.size,7,none⟩=some (.slice none 0 0):=HS5.out.cell 7
   have s8:wr.cell? ⟨w.heap.size,8,none⟩=some (.slice none 0 0):=HS5.out.cell 8
   have z0:wr.frozen? ⟨w.heap.size,0,none⟩=false:=HS5.out.frozen 0
   have z1:wr.frozen? ⟨w.heap.size,1,none⟩=false:=HS5.out.frozen 1
   have z2:wr.frozen? ⟨w.heap.size,2,none⟩=false:=HS5.out.frozen 2
   have z3:wr.frozen? ⟨w.heap.size,3,none⟩=false:=HS5.out.frozen 3
   have z4:wr.frozen? ⟨w.heap.size,4,none⟩=false:=HS5.out.frozen 4
   have z5:wr.frozen? ⟨w.heap.size,5,none⟩=false:=HS5.out.frozen 5
   have z6:wr.frozen? ⟨w.heap.size,6,none⟩=false:=HS5.out.frozen 6
   have z7:wr.frozen? ⟨w.heap.size,7,none⟩=false:=HS5.out.frozen 7
   have z8:wr.frozen? ⟨w.heap.size,8,none⟩=false:=HS5.out.frozen 8
   go_wp2
   have hfr:=far9 wr w.heap.size (.slice M.r.A M.r.n M.r.c) (.slice M.l.A M.l.n M.l.c) (.slice M.p.A M.p.n M.p.c) (.slice Ao M.o.n M.o.c) (.slice M.g.A M.g.n M.g.c) (.slice M.s.A M.s.n M.s.c) (.slice M.m.A M.m.n M.m.c) (.slice A P.length c) (.slice Bv (picks (fun y=>y.1==r) x.os M.o.n).length dv)
   obtain⟨W',hW',hk',hB',_⟩:=store9 HS5.out.slot (Nat.le_refl _) w (HB2.out.trans (HB.out.mono HB2.out.size)) (.slice M.r.A M.r.n M.r.c) (.slice M.l.A M.l.n M.l.c) (.slice M.p.A M.p.n M.p.c) (.slice Ao M.o.n M.o.c) (.slice M.g.A M.g.n M.g.c) (.slice M.s.A M.s.n M.s.c) (.slice M.m.A M.m.n M.m.c) (.slice A P.length c) (.slice Bv (picks (fun y=>y.1==r) x.os M.o.n).length dv)
   have hsz:wr.heap.size≤W'.heap.size:=by rw[hW'];simp
   rw[←hW']at hfr ⊢
   clear hW'
   clear n0 n1 n2 n3 n4 n5 n6 n7 n8 s0 s1 s2 s3 s4 s5 s6 s7 s8 z0 z1 z2 z3 z4 z5 z6 z7 z8
   refine bodyPost_ret (ret_own _ w.heap.size _ _ _ _ _ _ _ _ _ _ rfl (hk'.cell 0) (hk'.cell 1) (hk'.cell 2) (hk'.cell 3) (hk'.cell 4) (hk'.cell 5) (hk'.cell 6) (hk'.cell 7) (hk'.cell 8)) rfl ?_
   have hro:picks (fun y=>y.1==r) x.os M.o.n=routesOf x r:=by rw[HRO.out,←HON.out,HOS.out]
   have hjB:=jr_other HJB0.out (jr_ne HJB0.out HS5.out (fun i v h=>by
    rcases i with _ | _ | _ | _ | _ | _ | _ | _ | _|i <;> simp at h)) hsz hfr
   rw[hro]at hjB
   refine⟨M,x',A,Bv,⟨c,dv,by simp[HAe.out,hro]⟩,((HM2.out.fr (Fr2.below HB.out)).ge (fun g hg _=>hfr g (by have:=HWZ.out;omega))).cw,HAL.out,?_,hjB,hB'⟩
   exact jr_other (HJ.out.next HB.out) (jr_ne (HJ.out.next HB.out) HS5.out (fun i v h=>by
    rcases i with _ | _ | _ | _ | _ | _ | _ | _ | _|i <;> simp at h)) hsz hfr
end
end Go.Proofs.YtfidicbknjoafaaGreatDoor
namespace Go.Proofs.YtfidicbknjoafaaGreatDoor
open Go.RowKit Lx Sm
theorem ret_look (tm:Array Value) (N:Nat) (W:World) (v0 v1 v2 u:Value) (h2:tm.getD 6 undef=.pointer (some ⟨N,0,none⟩)) (h3:tm.getD 7 undef=u) (c0:W.cell? ⟨N,0,none⟩=some v0) (c1:W.cell? ⟨N,1,none⟩=some v1) (c2:W.cell? ⟨N,2,none⟩=some v2) :
  (results Tryz.f15 tm).run Tryz.prog W=.ok (.tuple #[.agg #[v0,v1,v2],u]) W:=by
 have h2':tm[6]?.getD undef=.pointer (some ⟨N,0,none⟩):=by simpa using h2
 have h3':tm[7]?.getD undef=u:=by simpa using h3
 simp[results,Tryz.results15,go_sem,h2',h3',c0,c1,c2]
structure RibOK (x:Cfg):Prop where
 l:∀y∈x.ls,0≤y.2.2∧y.2.2≤32
 p:∀y∈x.ps,0≤y.2.1∧y.2.1<x.ls.length
 o:∀y∈x.os,0≤y.2.2.1∧y.2.2.1≤32
 c:∀y∈x.os,0≤y.2.2.2.2∧y.2.2.2.2≤65535
theorem longP_mem (P:Int→Int × Int) (a:Int):∀ (L f:List Int) (m:Int) (q:Int),q∈(longP P a L f m).1→q∈L∨q∈f
 | [],f,m,q,h=>.inr h
 | i :: L,f,m,q,h=>by
  unfold longP at h
  split at h
  ·rcases longP_mem P a L _ _ q h with h|h
   ·exact .inl (List.mem_cons_of_mem _ h)
   ·exact .inr h
  ·split at h
   ·rcases longP_mem P a L _ _ q h with h|h
    ·exact .inl (List.mem_cons_of_mem _ h)
    ·simp only[List.mem_singleton]at h;subst h;exact .inl (List.mem_cons_self ..)
   ·rcases longP_mem P a L _ _ q h with h|h
    ·exact .inl (List.mem_cons_of_mem _ h)
    ·rw[List.mem_append]at h
     rcases h with h|h
     ·exact .inr h
     ·simp only[List.mem_singleton]at h;subst h;exact .inl (List.mem_cons_self ..)
theorem longP_len (P:Int→Int × Int) (a:Int) (L:List Int):(longP P a L [] 0).1.length≤L.length:=by
 have:=foldP_len P a L ([],0)
 rw[longP_fold]
 simpa using this
theorem preP_alike {x x':Cfg} (h:Alike x x'):preP x'=preP x:=by
 funext i;unfold preP linkP;rw[h.l,h.p]
theorem preO_alike {x x':Cfg} (h:Alike x x'):preO x'=preO x:=by
 funext i;unfold preO;rw[h.o]
theorem portsOf_mem {x:Cfg} {r q:Int} (h:q∈portsOf x r):∃j:Nat,j<x.ps.length∧q=j:=by
 unfold portsOf rowIn at h
 split at h
 ·have h2:q∈picks (fun p=>p.1==((r.toNat:Nat):Int)) x.ps x.ps.length:=h
  obtain⟨j,h1,h2,_⟩:=picks_mem h2
  exact⟨j,h1,h2⟩
 ·cases h
theorem portsOf_len (x:Cfg) (r:Int):(portsOf x r).length≤x.ps.length:=by
 unfold portsOf rowIn
 split
 ·exact picks_len (fun p=>p.1==((r.toNat:Nat):Int)) x.ps x.ps.length
 ·simp
theorem routesOf_mem {x:Cfg} {r q:Int} (h:q∈routesOf x r):∃j:Nat,j<x.os.length∧q=j:=by
 obtain⟨j,h1,h2,_⟩:=picks_mem h
 exact⟨j,h1,h2⟩
theorem cheapR_in (os:List (Int × Int × Int × Int × Int)):∀ (L:List Int) (b:Int × Int × Int × Int × Int),b∈os→(∀q∈L,∃j:Nat,j<os.length∧q=j)→cheapR os b L∈os
 | [],b,h,_=>h
 | i :: L,b,h,hL=>by
  unfold cheapR
  refine cheapR_in os L _ ?_ (fun q hq=>hL q (List.mem_cons_of_mem _ hq))
  split
  ·obtain⟨j,hj,rfl⟩:=hL i (List.mem_cons_self ..)
   unfold routeAt
   rw[Int.toNat_natCast,List.getElem?_eq_getElem hj]
   exact List.getElem_mem hj
  ·exact h
theorem cheap_in {os:List (Int × Int × Int × Int × Int)} {L:List Int} (h:0<L.length) (hL:∀q∈L,∃j:Nat,j<os.length∧q=j):cheap os L∈os:=by
 cases L with
 | nil=>simp at h
 | cons i L =>
  refine cheapR_in os L _ ?_ (fun q hq=>hL q (List.mem_cons_of_mem _ hq))
  obtain⟨j,hj,rfl⟩:=hL i (List.mem_cons_self ..)
  unfold routeAt
  rw[Int.toNat_natCast,List.getElem?_eq_getElem hj]
  exact List.getElem_mem hj
theorem look_near {x:Cfg} {r a v c:Int} {k:Nat} {p:Int} {l:List Int} {nb:Int} (h:nearP x r a=(p :: l,nb)) (hb:(farP x r a).2≤nb):lookP x r (k+1) a v c=some (p,v,c):=by
 unfold lookP;rw[h];simp[hb]
theorem look_far {x:Cfg} {r a v c:Int} {k:Nat} (h:(nearP x r a).1=[]∨(nearP x r a).2<(farP x r a).2) (hf:(farP x r a).1 ≠ []):lookP x r (k+1) a v c=lookP x r k (cheap x.os (farP x r a).1).2.2.2.1 (cheap x.os (farP x r a).1).2.2.2.1 (min (c+(cheap x.os (farP x r a).1).2.2.2.2) 65535):=by
 conv=>lhs;unfold lookP
 generalize nearP x r a=N at *
 generalize farP x r a=F at *
 obtain⟨NL,nb⟩:=N
 obtain⟨FL,fb⟩:=F
 dsimp only at h hf ⊢
 cases NL with
 | nil=>cases FL with
  | nil=>exact absurd rfl hf
  | cons=>rfl
 | cons p l =>
  have h2:¬ fb≤nb:=by
   rcases h with h|h
   ·cases h
   ·omega
  cases FL with
  | nil=>exact absurd rfl hf
  | cons=>simp[h2]
theorem look_none {x:Cfg} {r a v c:Int} {k:Nat} (h:(nearP x r a).1=[]∨(nearP x r a).2<(farP x r a).2) (hf:(farP x r a).1=[]):lookP x r (k+1) a v c=none:=by
 unfold lookP
 generalize nearP x r a=N at *
 generalize farP x r a=F at *
 obtain⟨NL,nb⟩:=N
 obtain⟨FL,fb⟩:=F
 dsimp only at h hf ⊢
 subst hf
 cases NL with
 | nil=>rfl
 | cons p l =>
  have h2:¬ fb≤nb:=by
   rcases h with h|h
   ·cases h
   ·omega
  simp[h2]
theorem store3z {W:World} {N b:Nat} {t:TypeId} {u0 u1 u2:Value} (h:Blk W N t #[u0,u1,u2]) (hN:b≤N) (w:World) (hB:Below b w W) (v0 v1 v2:Value):∃W',W'=((W.setCell ⟨N,0,none⟩ v0).setCell ⟨N,1,none⟩ v1).setCell ⟨N,2,none⟩ v2∧W'.cell? ⟨N,0,none⟩=some v0∧W'.cell? ⟨N,1,none⟩=some v1∧W'.cell? ⟨N,2,none⟩=some v2∧Below b w W':=by
 have hk:Blk (((W.setCell ⟨N,0,none⟩ v0).setCell ⟨N,1,none⟩ v1).setCell ⟨N,2,none⟩ v2) N t #[v0,v1,v2]:=((h.set_ 0 v0).set_ 1 v1).set_ 2 v2
 exact⟨_,rfl,hk.cell 0,hk.cell 1,hk.cell 2,((hB.setCell (by simpa using hN) _).setCell (by simpa using hN) _).setCell (by simpa using hN) _⟩
section
variable {b:Nat} {T:TP} {x:Cfg} {gs:List Int}
set_option maxHeartbeats 16000000 in
set_option maxRecDepth 100000 in
theorem look_any (r a0:Int) (w:World) (h:TW w b T x gs) (hrn:∀y∈x.rs,(str y.1).size≤281474976710656) (hln:∀y∈x.ls,(str y.1).size≤281474976710656) (hok:RibOK x) :
    Calls Tryz.prog 15 #[.pointer (some ⟨T.N,0,none⟩),.int .i64 r,.int .u32 a0] w fun e w'=>e=.returned (.tuple #[.agg #[.int .i64 (lookA x r a0).1.1,.int .u32 (lookA x r a0).1.2.1,.int .i64 (lookA x r a0).1.2.2],.bool (lookA x r a0).2])∧Below w.heap.size w w':=by
  have HPm:Hid (∀q∈portsOf x r,∃j:Nat,j<x.ps.length∧q=j):=Lib.hid fun q hq=>portsOf_mem hq
  have HQm:Hid (∀q∈routesOf x r,∃j:Nat,j<x.os.length∧q=j):=Lib.hid fun q hq=>routesOf_mem hq
  have HPl:Hid ((portsOf x r).length≤1000000):=Lib.hid (by have:=portsOf_len x r;have:=h.net.oks.2.2.1.2;have:=h.net.len.2.2.1;omega)
  have HQl:Hid ((routesOf x r).length≤1000000):=Lib.hid (by have:=picks_len (fun y=>y.1==r) x.os x.os.length;have:=h.net.oks.2.2.2.1.2;have:=h.net.len.2.2.2.1;unfold routesOf;omega)
  have HNr:Hid (∀a,nearP x r a=longP (preP x) a (portsOf x r) [] 0):=Lib.hid fun _=>rfl
  have HFr:Hid (∀a,farP x r a=longP (preO x) a (routesOf x r) [] 0):=Lib.hid fun _=>rfl
  have HOK:=Lib.hid hok
  have HB0:=Lib.hid ((Below.refl w.heap.size w).alloc (Nat.le_refl _) (.cells #[.int .i64 0,.int .u32 0,.int .i64 0] 45))
  have HS:=Lib.hid (Blk.new w 45 #[.int .i64 0,.int .u32 0,.int .i64 0])
  have HOW:=Lib.hid fun W (hW:Below w.heap.size w W)=>ownOf_any r W (h.next hW) hrn hln
  generalize portsOf x r=P at *
  generalize routesOf x r=Q at *
  clear h hrn hln hok
  go_enter Tryz.func15,Tryz.ntmps15
  go_upto_region 1 with fail
  generalize w.alloc (.cells #[.int .i64 0,.int .u32 0,.int .i64 0] 45)=W0 at *
  go_upto_region 2 with (go_at_call 52;refine (HOW.out _ HB0.out).mono ?_;rintro e w1 ⟨M,x',A,B,c,d,rfl,hm,hal,hja,hjb,hb⟩;have HM:=Lib.hid hm;have HAL:=Lib.hid hal;have HJA:=Lib.hid hja;have HJB:=Lib.hid hjb;have HB1:=Lib.hid (below_next HB0.out hb);have HS1:=Lib.hid (HS.out.next hb);clear hm hal hja hjb hb)
  have HBN:=Lib.hid ((Below.refl w1.heap.size w1).alloc (Nat.le_refl _) (.cells #[.slice M.r.A M.r.n M.r.c,.slice M.l.A M.l.n M.l.c,.slice M.p.A M.p.n M.p.c,.slice M.o.A M.o.n M.o.c,.slice M.g.A M.g.n M.g.c,.slice M.s.A M.s.n M.s.c,.slice M.m.A M.m.n M.m.c,.slice A P.length c,.slice B Q.length d] 120))
  have HN8:=Lib.hid (Blk.new w1 120 #[.slice M.r.A M.r.n M.r.c,.slice M.l.A M.l.n M.l.c,.slice M.p.A M.p.n M.p.c,.slice M.o.A M.o.n M.o.c,.slice M.g.A M.g.n M.g.c,.slice M.s.A M.s.n M.s.c,.slice M.m.A M.m.n M.m.c,.slice A P.length c,.slice B Q.length d])
  have HLT:Hid (w.heap.size<w1.heap.size):=Lib.hid HS1.out.lt
  have HS2:=Lib.hid (HS1.out.next HBN.out)
  have HM2:=Lib.hid (HM.out.next HBN.out)
  have HJA2:=Lib.hid (HJA.out.next HBN.out)
  have HJB2:=Lib.hid (HJB.out.next HBN.out)
  have HB2:=Lib.hid (HB1.out.trans (HBN.out.mono HB1.out.size))
  have HZ2:Hid ((w1.alloc (.cells #[.slice M.r.A M.r.n M.r.c,.slice M.l.A M.l.n M.l.c,.slice M.p.A M.p.n M.p.c,.slice M.o.A M.o.n M.o.c,.slice M.g.A M.g.n M.g.c,.slice M.s.A M.s.n M.s.c,.slice M.m.A M.m.n M.m.c,.slice A P.length c,.slice B Q.length d] 120)).heap.size=w1.heap.size+1):=Lib.hid (by simp)
  clear HM HJA HJB HB1 HS1 HBN HB0 HS HOW
  generalize w1.alloc (.cells #[.slice M.r.A M.r.n M.r.c,.slice M.l.A M.l.n M.l.c,.slice M.p.A M.p.n M.p.c,.slice M.o.A M.o.n M.o.c,.slice M.g.A M.g.n M.g.c,.slice M.s.A M.s.n M.s.c,.slice M.m.A M.m.n M.m.c,.slice A P.length c,.slice B Q.length d] 120)=W2 at *
  go_upto_region 3 with fail
  have HBN:=Lib.hid ((Below.refl W2.heap.size W2).alloc (Nat.le_refl _) (.cells #[.int .i64 0,.int .u32 0,.int .i64 0] 45))
  have HN9:=Lib.hid (Blk.new W2 45 #[.int .i64 0,.int .u32 0,.int .i64 0])
  have HZ3:Hid ((W2.alloc (.cells #[.int .i64 0,.int .u32 0,.int .i64 0] 45)).heap.size=W2.heap.size+1):=Lib.hid (by simp)
  generalize W2.alloc (.cells #[.int .i64 0,.int .u32 0,.int .i64 0] 45)=W3 at *
  go_wp2
  go_loopw [2,18] (fun av i wr=>∃ (t:Nat) (a v c':Int),t≤7∧i=.int .i64 t∧av=.int .u32 a∧Hid (lookP x r (7 - t) a v c'=lookP x r 7 a0 0 0)∧Hid (0≤c'∧c'≤65535)∧Hid (Blk wr W2.heap.size 45 #[.int .i64 0,.int .u32 v,.int .i64 c'])∧Hid (Below W2.heap.size W2 wr)) (fun _ i _=>7 - (intOf i).toNat)
  case atStart=>exact⟨0,a0,0,0,Nat.zero_le _,rfl,rfl,rfl,⟨by decide,by decide⟩,HN9,HBN⟩
  case round =>
    obtain⟨t,a,v,cst,ht,rfl,rfl,HF,HCB,HN,HB⟩:=hrel
    rcases Nat.lt_or_ge t 7 with hlt|hge
    · have hi0 : (t : Int) < 7 := by omega
      have HF2:Hid (lookP x r ((6 - t)+1) a v cst=lookP x r 7 a0 0 0):=Lib.hid (by rw[←HF.out];congr 1;omega)
      have HMr:=Lib.hid (HM2.out.next HB.out)
      have HNN:Hid (nearP x r a=longP (preP x') a P [] 0):=Lib.hid (by rw[HNr.out,preP_alike HAL.out])
      have HFF:Hid (farP x r a=longP (preO x') a Q [] 0):=Lib.hid (by rw[HFr.out,preO_alike HAL.out])
      have HCO:=Lib.hid fun W (hW:Below W2.heap.size W2 W)=>conn_any M A B P.length c Q.length d x' P a W (HM2.out.next hW) (HJA2.out.next hW) HPl.out (by rw[HAL.out.p];exact HPm.out) (by rw[HAL.out.p,HAL.out.l];exact HOK.out.p) (by rw[HAL.out.l];exact HOK.out.l)
      have HRO:=Lib.hid fun W (hW:Below W2.heap.size W2 W)=>rout_any M A B P.length c Q.length d x' Q a W (HM2.out.next hW) (HJB2.out.next hW) HQl.out (by rw[HAL.out.o];exact HQm.out) (by rw[HAL.out.o];exact HOK.out.o)
      have HCH:=Lib.hid fun W (hW:Below W2.heap.size W2 W) C cc hj h0 hk hkc=>cheapest_any M A B C P.length c Q.length d (longP (preO x') a Q [] 0).1.length cc x' (longP (preO x') a Q [] 0).1 W (HM2.out.next hW) hj h0 hk hkc (by
        rw[HAL.out.o]
        intro q hq
        rcases longP_mem _ _ _ _ _ _ hq with h|h
        · exact HQm.out q h
        · cases h)
      have HCI : Hid (0 < (longP (preO x') a Q [] 0).1.length → cheap x'.os (longP (preO x') a Q [] 0).1 ∈ x.os) := Lib.hid fun h0 => by
       rw[HAL.out.o]
       exact cheap_in h0 (by
        intro q hq
        rcases longP_mem _ _ _ _ _ _ hq with h|h
        · exact HQm.out q h
        · cases h)
      have HNl:Hid ((longP (preP x') a P [] 0).1.length≤1000000):=Lib.hid (Nat.le_trans (longP_len _ _ _) HPl.out)
      have HFl:Hid ((longP (preO x') a Q [] 0).1.length≤1000000):=Lib.hid (Nat.le_trans (longP_len _ _ _) HQl.out)
      have HOSe:Hid (x'.os=x.os):=Lib.hid HAL.out.o
      generalize longP (preP x') a P [] 0=NP at *
      generalize longP (preO x') a Q [] 0=FP at *
      obtain⟨NL,nb⟩:=NP
      obtain⟨FL,fb⟩:=FP
      dsimp only at HCO HRO HCH HCI HNl HFl
      obtain⟨nl,hnl⟩:∃nl,NL.length=nl:=⟨_,rfl⟩
      obtain⟨fl,hfl0⟩:∃fl,FL.length=fl:=⟨_,rfl⟩
      obtain⟨RR,hRR⟩:∃RR,cheap x'.os FL=RR:=⟨_,rfl⟩
      rw[hnl]at HCO HNl
      rw[hfl0]at HRO HCH HCI HFl
      rw[hRR]at HCH HCI
      obtain⟨p0,hp0⟩:∃p0,NL.getD 0 0=p0:=⟨_,rfl⟩
      have HP0:=Lib.hid hp0
      clear hp0
      have HNn:=Lib.hid hnl
      have HFn:=Lib.hid hfl0
      have HRR:=Lib.hid hRR
      clear hnl hfl0 hRR
      obtain⟨cr,ca,cb,cv,ccst⟩:=RR
      dsimp only[VRoute]at HCH
      have k0:∀W,Below W2.heap.size W2 W→W.cell? ⟨w1.heap.size,0,none⟩=some (.slice M.r.A M.r.n M.r.c):=fun W hW=>(HN8.out.next hW).cell 0
      have k1:∀W,Below W2.heap.size W2 W→W.cell? ⟨w1.heap.size,1,none⟩=some (.slice M.l.A M.l.n M.l.c):=fun W hW=>(HN8.out.next hW).cell 1
      have k2:∀W,Below W2.heap.size W2 W→W.cell? ⟨w1.heap.size,2,none⟩=some (.slice M.p.A M.p.n M.p.c):=fun W hW=>(HN8.out.next hW).cell 2
      have k3:∀W,Below W2.heap.size W2 W→W.cell? ⟨w1.heap.size,3,none⟩=some (.slice M.o.A M.o.n M.o.c):=fun W hW=>(HN8.out.next hW).cell 3
      have k4:∀W,Below W2.heap.size W2 W→W.cell? ⟨w1.heap.size,4,none⟩=some (.slice M.g.A M.g.n M.g.c):=fun W hW=>(HN8.out.next hW).cell 4
      have k5:∀W,Below W2.heap.size W2 W→W.cell? ⟨w1.heap.size,5,none⟩=some (.slice M.s.A M.s.n M.s.c):=fun W hW=>(HN8.out.next hW).cell 5
      have k6:∀W,Below W2.heap.size W2 W→W.cell? ⟨w1.heap.size,6,none⟩=some (.slice M.m.A M.m.n M.m.c):=fun W hW=>(HN8.out.next hW).cell 6
      have k7:∀W,Below W2.heap.size W2 W→W.cell? ⟨w1.heap.size,7,none⟩=some (.slice A P.length c):=fun W hW=>(HN8.out.next hW).cell 7
      have k8:∀W,Below W2.heap.size W2 W→W.cell? ⟨w1.heap.size,8,none⟩=some (.slice B Q.length d):=fun W hW=>(HN8.out.next hW).cell 8
      have hB:=HB.out
      by_cases hn1:0<nl
      · have hn2 : (0 : Int) < (nl : Int) := by omega
        by_cases hfb:fb≤nb
        · go_upto_region 8 with (first
            | (go_at_call 53;refine (HCO.out _ hB).mono ?_;rintro e w4 ⟨A1,c1,rfl,hc1,hj1,hb1⟩;have HJ1:=Lib.hid hj1;have hB1:Below W2.heap.size W2 w4:=hB.trans (hb1.mono hB.size);have HN1:=Lib.hid (HN.out.next hb1);clear hc1 hj1 hb1)
            | (go_at_call 56;refine (HRO.out _ hB1).mono ?_;rintro e w5 ⟨A2,c2,rfl,hc2,hj2,hb2⟩;have HC2:=Lib.hid hc2;have HJ2:=Lib.hid hj2;have hB2:Below W2.heap.size W2 w5:=hB1.trans (hb2.mono hB1.size);have HN2:=Lib.hid (HN1.out.next hb2);obtain⟨bn,on,rfl,_,ln⟩:=(HJ1.out.next hb2).at_ hn1;rw[Nat.add_zero,HP0.out]at ln;clear hc2 hj2 hb2))
          have s0:w5.cell? ⟨W2.heap.size,0,none⟩=some (.int .i64 0):=HN2.out.cell 0
          have z0:w5.frozen? ⟨W2.heap.size,0,none⟩=false:=HN2.out.frozen 0
          have HBe:=Lib.hid (HB2.out.trans (hB2.mono HB2.out.size))
          clear k0 k1 k2 k3 k4 k5 k6 k7 k8
          go_upto_region 9 with fail
          have HN3:=Lib.hid (Blk.set_to HN2.out 0 (.int .i64 p0) (cs':=#[.int .i64 p0,.int .u32 v,.int .i64 cst]) rfl)
          have HS6:=Lib.hid ((HS2.out.next hB2).far (p:=⟨W2.heap.size,0,none⟩) (by have:=HLT.out;have:=HZ2.out;simp;omega) (.int .i64 p0))
          have HB9:=Lib.hid (HBe.out.setCell (p:=⟨W2.heap.size,0,none⟩) (by have:=HLT.out;have:=HZ2.out;simp;omega) (.int .i64 p0))
          clear s0 z0 ln hB hB1 hB2 HBe
          generalize w5.setCell ⟨W2.heap.size,0,none⟩ (.int .i64 p0)=W6 at *
          have s0:W6.cell? ⟨W2.heap.size,0,none⟩=some (.int .i64 p0):=HN3.out.cell 0
          have s1:W6.cell? ⟨W2.heap.size,1,none⟩=some (.int .u32 v):=HN3.out.cell 1
          have s2:W6.cell? ⟨W2.heap.size,2,none⟩=some (.int .i64 cst):=HN3.out.cell 2
          have q0:W6.cell? ⟨w.heap.size,0,none⟩=some (.int .i64 0):=HS6.out.cell 0
          have q1:W6.cell? ⟨w.heap.size,1,none⟩=some (.int .u32 0):=HS6.out.cell 1
          have q2:W6.cell? ⟨w.heap.size,2,none⟩=some (.int .i64 0):=HS6.out.cell 2
          have y0:W6.frozen? ⟨w.heap.size,0,none⟩=false:=HS6.out.frozen 0
          have y1:W6.frozen? ⟨w.heap.size,1,none⟩=false:=HS6.out.frozen 1
          have y2:W6.frozen? ⟨w.heap.size,2,none⟩=false:=HS6.out.frozen 2
          go_wp2
          obtain⟨W9,hW9,r0,r1,r2,hB9⟩:=store3z HS6.out (Nat.le_refl _) w HB9.out (.int .i64 p0) (.int .u32 v) (.int .i64 cst)
          rw[←hW9]
          clear hW9 q0 q1 q2 y0 y1 y2
          refine bodyPost_ret (ret_look _ w.heap.size _ _ _ _ _ rfl rfl r0 r1 r2) rfl ?_
          refine⟨?_,hB9⟩
          have hl:lookP x r 7 a0 0 0=some (p0,v,cst):=by
            rw[←HF2.out,←HP0.out]
            obtain⟨p,l,rfl⟩:∃p l,NL=p :: l:=by
              cases NL with
              | nil=>have:=HNn.out;simp at this;omega
              | cons p l=>exact⟨p,l,rfl⟩
            exact look_near HNN.out (by rw[HFF.out];exact hfb)
          unfold lookA
          rw[hl]
          rfl
        · have hfb2 : nb < fb := by omega
          by_cases hfl:0<fl
          · have hf2 : ((fl : Int) == 0) = false := by simp; omega
            have hf3:¬ ((fl:Int)=0):=by omega
            have HRB:=Lib.hid (HOK.out.c _ (HCI.out hfl))
            have HFN:Hid (lookP x r ((6 - t)+1) a v cst=lookP x r (6 - t) cv cv (min (cst+ccst) 65535)):=Lib.hid (by
              rw[look_far (by rw[HNN.out,HFF.out];exact .inr hfb2) (by rw[HFF.out];intro e;have h:=HFn.out;rw[show FL=[] from e]at h;simp at h;omega),HFF.out,←HOSe.out,HRR.out])
            go_upto_region 13 with (first
              | (go_at_call 53;refine (HCO.out _ hB).mono ?_;rintro e w4 ⟨A1,c1,rfl,hc1,hj1,hb1⟩;have HJ1:=Lib.hid hj1;have hB1:Below W2.heap.size W2 w4:=hB.trans (hb1.mono hB.size);have HN1:=Lib.hid (HN.out.next hb1);clear hc1 hj1 hb1)
              | (go_at_call 56;refine (HRO.out _ hB1).mono ?_;rintro e w5 ⟨A2,c2,rfl,hc2,hj2,hb2⟩;have HC2:=Lib.hid hc2;have HJ2:=Lib.hid hj2;have hB2:Below W2.heap.size W2 w5:=hB1.trans (hb2.mono hB1.size);have HN2:=Lib.hid (HN1.out.next hb2);clear hc2 hj2 hb2)
              | (go_at_call 57;refine (HCH.out _ hB2 A2 c2 HJ2.out hfl HFl.out HC2.out).mono ?_;rintro e w6 ⟨rfl,hb3⟩;have hB3:Below W2.heap.size W2 w6:=hB2.trans (hb3.mono hB2.size);have HN3:=Lib.hid (HN2.out.next hb3);clear hb3))
            have HBa:=Lib.hid ((Below.refl w6.heap.size w6).alloc (Nat.le_refl _) (.cells #[.int .i64 cr,.int .u32 ca,.int .i64 cb,.int .u32 cv,.int .i64 ccst] 130))
            have HRt:=Lib.hid (Blk.new w6 130 #[.int .i64 cr,.int .u32 ca,.int .i64 cb,.int .u32 cv,.int .i64 ccst])
            have HNa:=Lib.hid (HN3.out.next HBa.out)
            have HBb:=Lib.hid (hB3.trans (HBa.out.mono hB3.size))
            have hne:w6.heap.size ≠ W2.heap.size:=by have:=HN3.out.lt;omega
            clear HBa hB hB1 hB2 hB3 k0 k1 k2 k3 k4 k5 k6 k7 k8
            generalize w6.alloc (.cells #[.int .i64 cr,.int .u32 ca,.int .i64 cb,.int .u32 cv,.int .i64 ccst] 130)=Wa at *
            have g3:Wa.cell? ⟨w6.heap.size,3,none⟩=some (.int .u32 cv):=HRt.out.cell 3
            have q1:Wa.cell? ⟨W2.heap.size,1,none⟩=some (.int .u32 v):=HNa.out.cell 1
            have y1:Wa.frozen? ⟨W2.heap.size,1,none⟩=false:=HNa.out.frozen 1
            go_upto_region 14 with fail
            have HNb:=Lib.hid (Blk.set_to HNa.out 1 (.int .u32 cv) (cs':=#[.int .i64 0,.int .u32 cv,.int .i64 cst]) rfl)
            have HRb:=Lib.hid (HRt.out.far (p:=⟨W2.heap.size,1,none⟩) hne (.int .u32 cv))
            have HBc:=Lib.hid (HBb.out.setCell (p:=⟨W2.heap.size,1,none⟩) (Nat.le_refl _) (.int .u32 cv))
            clear g3 q1 y1 HNa HRt HBb
            generalize Wa.setCell ⟨W2.heap.size,1,none⟩ (.int .u32 cv)=Wb at *
            have g4:Wb.cell? ⟨w6.heap.size,4,none⟩=some (.int .i64 ccst):=HRb.out.cell 4
            have q2:Wb.cell? ⟨W2.heap.size,2,none⟩=some (.int .i64 cst):=HNb.out.cell 2
            have y2:Wb.frozen? ⟨W2.heap.size,2,none⟩=false:=HNb.out.frozen 2
            have hwr:wrap64 (cst+ccst)=cst+ccst:=by have h1:=HCB.out;have h2:=HRB.out;unfold wrap64;omega
            go_upto_region 15 with fail
            have HNc:=Lib.hid (Blk.set_to HNb.out 2 (.int .i64 (min (cst+ccst) 65535)) (cs':=#[.int .i64 0,.int .u32 cv,.int .i64 (min (cst+ccst) 65535)]) rfl)
            have HRc:=Lib.hid (HRb.out.far (p:=⟨W2.heap.size,2,none⟩) hne (.int .i64 (min (cst+ccst) 65535)))
            have HBd:=Lib.hid (HBc.out.setCell (p:=⟨W2.heap.size,2,none⟩) (Nat.le_refl _) (.int .i64 (min (cst+ccst) 65535)))
            clear g4 q2 y2 HNb HRb HBc
            generalize Wb.setCell ⟨W2.heap.size,2,none⟩ (.int .i64 (min (cst+ccst) 65535))=Wc at *
            have HMB:Hid (0≤min (cst+ccst) 65535∧min (cst+ccst) 65535≤65535):=Lib.hid (by have h1:=HCB.out;have h2:=HRB.out;omega)
            have g3:Wc.cell? ⟨w6.heap.size,3,none⟩=some (.int .u32 cv):=HRc.out.cell 3
            have HF3:Hid (lookP x r (7 - (t+1)) cv cv (min (cst+ccst) 65535)=lookP x r 7 a0 0 0):=Lib.hid (by rw[show 7 - (t+1)=6 - t by omega];exact HFN.out.symm.trans HF2.out)
            go_wp2
            clear g3
            generalize min (cst+ccst) 65535=mc at *
            go_roundw
            case rel=>exact⟨t+1,cv,cv,mc,by omega,by go_num,rfl,HF3,HMB,HNc,HBd⟩
            case measure=>simp[intOf];omega
          · obtain rfl : fl = 0 := by omega
            have HFN:Hid (lookP x r ((6 - t)+1) a v cst=none):=Lib.hid (look_none (by rw[HNN.out,HFF.out];exact .inr hfb2) (by rw[HFF.out];exact List.eq_nil_of_length_eq_zero HFn.out))
            go_upto_region 11 with (first
              | (go_at_call 53;refine (HCO.out _ hB).mono ?_;rintro e w4 ⟨A1,c1,rfl,hc1,hj1,hb1⟩;have HJ1:=Lib.hid hj1;have hB1:Below W2.heap.size W2 w4:=hB.trans (hb1.mono hB.size);have HN1:=Lib.hid (HN.out.next hb1);clear hc1 hj1 hb1)
              | (go_at_call 56;refine (HRO.out _ hB1).mono ?_;rintro e w5 ⟨A2,c2,rfl,hc2,hj2,hb2⟩;have HC2:=Lib.hid hc2;have HJ2:=Lib.hid hj2;have hB2:Below W2.heap.size W2 w5:=hB1.trans (hb2.mono hB1.size);have HN2:=Lib.hid (HN1.out.next hb2);clear hc2 hj2 hb2))
            have HBe:=Lib.hid (HB2.out.trans (hB2.mono HB2.out.size))
            have HS6:=Lib.hid (HS2.out.next hB2)
            have q0:w5.cell? ⟨w.heap.size,0,none⟩=some (.int .i64 0):=HS6.out.cell 0
            have q1:w5.cell? ⟨w.heap.size,1,none⟩=some (.int .u32 0):=HS6.out.cell 1
            have q2:w5.cell? ⟨w.heap.size,2,none⟩=some (.int .i64 0):=HS6.out.cell 2
            have y0:w5.frozen? ⟨w.heap.size,0,none⟩=false:=HS6.out.frozen 0
            have y1:w5.frozen? ⟨w.heap.size,1,none⟩=false:=HS6.out.frozen 1
            have y2:w5.frozen? ⟨w.heap.size,2,none⟩=false:=HS6.out.frozen 2
            clear k0 k1 k2 k3 k4 k5 k6 k7 k8
            go_wp2
            obtain⟨W9,hW9,r0,r1,r2,hB9⟩:=store3z HS6.out (Nat.le_refl _) w HBe.out (.int .i64 0) (.int .u32 0) (.int .i64 0)
            rw[←hW9]
            clear hW9 q0 q1 q2 y0 y1 y2
            refine bodyPost_ret (ret_look _ w.heap.size _ _ _ _ _ rfl rfl r0 r1 r2) rfl ?_
            refine⟨?_,hB9⟩
            have hl:lookP x r 7 a0 0 0=none:=HF2.out.symm.trans HFN.out
            unfold lookA
            rw[hl]
            rfl
      · obtain rfl : nl = 0 := by omega
        by_cases hfl:0<fl
        · have hf2 : ((fl : Int) == 0) = false := by simp; omega
          have hf3:¬ ((fl:Int)=0):=by omega
          have HRB:=Lib.hid (HOK.out.c _ (HCI.out hfl))
          have HFN:Hid (lookP x r ((6 - t)+1) a v cst=lookP x r (6 - t) cv cv (min (cst+ccst) 65535)):=Lib.hid (by
            rw[look_far (by rw[HNN.out,HFF.out];exact .inl (List.eq_nil_of_length_eq_zero HNn.out)) (by rw[HFF.out];intro e;have h:=HFn.out;rw[show FL=[] from e]at h;simp at h;omega),HFF.out,←HOSe.out,HRR.out])
          go_upto_region 13 with (first
            | (go_at_call 53;refine (HCO.out _ hB).mono ?_;rintro e w4 ⟨A1,c1,rfl,hc1,hj1,hb1⟩;have HJ1:=Lib.hid hj1;have hB1:Below W2.heap.size W2 w4:=hB.trans (hb1.mono hB.size);have HN1:=Lib.hid (HN.out.next hb1);clear hc1 hj1 hb1)
            | (go_at_call 56;refine (HRO.out _ hB1).mono ?_;rintro e w5 ⟨A2,c2,rfl,hc2,hj2,hb2⟩;have HC2:=Lib.hid hc2;have HJ2:=Lib.hid hj2;have hB2:Below W2.heap.size W2 w5:=hB1.trans (hb2.mono hB1.size);have HN2:=Lib.hid (HN1.out.next hb2);clear hc2 hj2 hb2)
            | (go_at_call 57;refine (HCH.out _ hB2 A2 c2 HJ2.out hfl HFl.out HC2.out).mono ?_;rintro e w6 ⟨rfl,hb3⟩;have hB3:Below W2.heap.size W2 w6:=hB2.trans (hb3.mono hB2.size);have HN3:=Lib.hid (HN2.out.next hb3);clear hb3))
          have HBa:=Lib.hid ((Below.refl w6.heap.size w6).alloc (Nat.le_refl _) (.cells #[.int .i64 cr,.int .u32 ca,.int .i64 cb,.int .u32 cv,.int .i64 ccst] 130))
          have HRt:=Lib.hid (Blk.new w6 130 #[.int .i64 cr,.int .u32 ca,.int .i64 cb,.int .u32 cv,.int .i64 ccst])
          have HNa:=Lib.hid (HN3.out.next HBa.out)
          have HBb:=Lib.hid (hB3.trans (HBa.out.mono hB3.size))
          have hne:w6.heap.size ≠ W2.heap.size:=by have:=HN3.out.lt;omega
          clear HBa hB hB1 hB2 hB3 k0 k1 k2 k3 k4 k5 k6 k7 k8
          generalize w6.alloc (.cells #[.int .i64 cr,.int .u32 ca,.int .i64 cb,.int .u32 cv,.int .i64 ccst] 130)=Wa at *
          have g3:Wa.cell? ⟨w6.heap.size,3,none⟩=some (.int .u32 cv):=HRt.out.cell 3
          have q1:Wa.cell? ⟨W2.heap.size,1,none⟩=some (.int .u32 v):=HNa.out.cell 1
          have y1:Wa.frozen? ⟨W2.heap.size,1,none⟩=false:=HNa.out.frozen 1
          go_upto_region 14 with fail
          have HNb:=Lib.hid (Blk.set_to HNa.out 1 (.int .u32 cv) (cs':=#[.int .i64 0,.int .u32 cv,.int .i64 cst]) rfl)
          have HRb:=Lib.hid (HRt.out.far (p:=⟨W2.heap.size,1,none⟩) hne (.int .u32 cv))
          have HBc:=Lib.hid (HBb.out.setCell (p:=⟨W2.heap.size,1,none⟩) (Nat.le_refl _) (.int .u32 cv))
          clear g3 q1 y1 HNa HRt HBb
          generalize Wa.setCell ⟨W2.heap.size,1,none⟩ (.int .u32 cv)=Wb at *
          have g4:Wb.cell? ⟨w6.heap.size,4,none⟩=some (.int .i64 ccst):=HRb.out.cell 4
          have q2:Wb.cell? ⟨W2.heap.size,2,none⟩=some (.int .i64 cst):=HNb.out.cell 2
          have y2:Wb.frozen? ⟨W2.heap.size,2,none⟩=false:=HNb.out.frozen 2
          have hwr:wrap64 (cst+ccst)=cst+ccst:=by have h1:=HCB.out;have h2:=HRB.out;unfold wrap64;omega
          go_upto_region 15 with fail
          have HNc:=Lib.hid (Blk.set_to HNb.out 2 (.int .i64 (min (cst+ccst) 65535)) (cs':=#[.int .i64 0,.int .u32 cv,.int .i64 (min (cst+ccst) 65535)]) rfl)
          have HRc:=Lib.hid (HRb.out.far (p:=⟨W2.heap.size,2,none⟩) hne (.int .i64 (min (cst+ccst) 65535)))
          have HBd:=Lib.hid (HBc.out.setCell (p:=⟨W2.heap.size,2,none⟩) (Nat.le_refl _) (.int .i64 (min (cst+ccst) 65535)))
          clear g4 q2 y2 HNb HRb HBc
          generalize Wb.setCell ⟨W2.heap.size,2,none⟩ (.int .i64 (min (cst+ccst) 65535))=Wc at *
          have HMB:Hid (0≤min (cst+ccst) 65535∧min (cst+ccst) 65535≤65535):=Lib.hid (by have h1:=HCB.out;have h2:=HRB.out;omega)
          have g3:Wc.cell? ⟨w6.heap.size,3,none⟩=some (.int .u32 cv):=HRc.out.cell 3
          have HF3:Hid (lookP x r (7 - (t+1)) cv cv (min (cst+ccst) 65535)=lookP x r 7 a0 0 0):=Lib.hid (by rw[show 7 - (t+1)=6 - t by omega];exact HFN.out.symm.trans HF2.out)
          go_wp2
          clear g3
          generalize min (cst+ccst) 65535=mc at *
          go_roundw
          case rel=>exact⟨t+1,cv,cv,mc,by omega,by go_num,rfl,HF3,HMB,HNc,HBd⟩
          case measure=>simp[intOf];omega
        · obtain rfl : fl = 0 := by omega
          have HFN:Hid (lookP x r ((6 - t)+1) a v cst=none):=Lib.hid (look_none (by rw[HNN.out,HFF.out];exact .inl (List.eq_nil_of_length_eq_zero HNn.out)) (by rw[HFF.out];exact List.eq_nil_of_length_eq_zero HFn.out))
          go_upto_region 11 with (first
            | (go_at_call 53;refine (HCO.out _ hB).mono ?_;rintro e w4 ⟨A1,c1,rfl,hc1,hj1,hb1⟩;have HJ1:=Lib.hid hj1;have hB1:Below W2.heap.size W2 w4:=hB.trans (hb1.mono hB.size);have HN1:=Lib.hid (HN.out.next hb1);clear hc1 hj1 hb1)
            | (go_at_call 56;refine (HRO.out _ hB1).mono ?_;rintro e w5 ⟨A2,c2,rfl,hc2,hj2,hb2⟩;have HC2:=Lib.hid hc2;have HJ2:=Lib.hid hj2;have hB2:Below W2.heap.size W2 w5:=hB1.trans (hb2.mono hB1.size);have HN2:=Lib.hid (HN1.out.next hb2);clear hc2 hj2 hb2))
          have HBe:=Lib.hid (HB2.out.trans (hB2.mono HB2.out.size))
          have HS6:=Lib.hid (HS2.out.next hB2)
          have q0:w5.cell? ⟨w.heap.size,0,none⟩=some (.int .i64 0):=HS6.out.cell 0
          have q1:w5.cell? ⟨w.heap.size,1,none⟩=some (.int .u32 0):=HS6.out.cell 1
          have q2:w5.cell? ⟨w.heap.size,2,none⟩=some (.int .i64 0):=HS6.out.cell 2
          have y0:w5.frozen? ⟨w.heap.size,0,none⟩=false:=HS6.out.frozen 0
          have y1:w5.frozen? ⟨w.heap.size,1,none⟩=false:=HS6.out.frozen 1
          have y2:w5.frozen? ⟨w.heap.size,2,none⟩=false:=HS6.out.frozen 2
          clear k0 k1 k2 k3 k4 k5 k6 k7 k8
          go_wp2
          obtain⟨W9,hW9,r0,r1,r2,hB9⟩:=store3z HS6.out (Nat.le_refl _) w HBe.out (.int .i64 0) (.int .u32 0) (.int .i64 0)
          rw[←hW9]
          clear hW9 q0 q1 q2 y0 y1 y2
          refine bodyPost_ret (ret_look _ w.heap.size _ _ _ _ _ rfl rfl r0 r1 r2) rfl ?_
          refine⟨?_,hB9⟩
          have hl:lookP x r 7 a0 0 0=none:=HF2.out.symm.trans HFN.out
          unfold lookA
          rw[hl]
          rfl
    · obtain rfl : t = 7 := by omega
      have hi0:¬ (((7:Nat):Int)<7):=by omega
      have HBe:=Lib.hid (HB2.out.trans (HB.out.mono HB2.out.size))
      have HS6:=Lib.hid (HS2.out.next HB.out)
      have q0:wr.cell? ⟨w.heap.size,0,none⟩=some (.int .i64 0):=HS6.out.cell 0
      have q1:wr.cell? ⟨w.heap.size,1,none⟩=some (.int .u32 0):=HS6.out.cell 1
      have q2:wr.cell? ⟨w.heap.size,2,none⟩=some (.int .i64 0):=HS6.out.cell 2
      have y0:wr.frozen? ⟨w.heap.size,0,none⟩=false:=HS6.out.frozen 0
      have y1:wr.frozen? ⟨w.heap.size,1,none⟩=false:=HS6.out.frozen 1
      have y2:wr.frozen? ⟨w.heap.size,2,none⟩=false:=HS6.out.frozen 2
      go_wp2
      obtain⟨W9,hW9,r0,r1,r2,hB9⟩:=store3z HS6.out (Nat.le_refl _) w HBe.out (.int .i64 0) (.int .u32 0) (.int .i64 0)
      rw[←hW9]
      clear hW9 q0 q1 q2 y0 y1 y2
      refine bodyPost_ret (ret_look _ w.heap.size _ _ _ _ _ rfl rfl r0 r1 r2) rfl ?_
      refine⟨?_,hB9⟩
      have hl:lookP x r 7 a0 0 0=none:=HF.out.symm
      unfold lookA
      rw[hl]
      rfl
end
end Go.Proofs.YtfidicbknjoafaaGreatDoor
