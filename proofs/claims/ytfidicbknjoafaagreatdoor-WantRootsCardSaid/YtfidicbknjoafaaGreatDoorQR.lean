/- What is wanted besides. -/
import Derived.Test.YtfidicbknjoafaaGreatDoorQYu
import Derived.OwnWalk
import Derived.Deep.Cut
import Derived.Deep.RegionHeld3
import Derived.Laws.Append
import Derived.Maps.AppendAt
namespace Go.Proofs.YtfidicbknjoafaaGreatDoor
open Go.RowKit Lx Sm Go.Maps Go.Sort Go.Shelf
theorem info_source:∃i z,Tryz.prog.info? 147=some i∧i.zero=some z∧z.cells.size=3∧i.size=3∧i.bytes=16:=info_cells (by kernel_rfl)
theorem run_app_full {P:Program} (w:World) (base:Nat) (t ty e:TypeId) (i:TypeInfo) (z:Value) (size bytes:Nat) (ht:P.underlying t=some (.slice e)) (hi:P.info? e=some i) (hz:i.zero=some z)
  (hsize:i.size=size) (hby:i.bytes=bytes) (hzs:z.cells.size=size) (hsz:0<size) (g n:Nat) (xs:List Value) (hown:w.ownsRow base e size (.slice (some ⟨g,0,none⟩) n n) n xs)
  (a:Addr) (m c:Nat) (news:List Value) (hl:news.length=m*size) (hnews:∀j u,news[j]?=some u→w.cell? (a.add j)=some u) (h1:∀u∈news,u.oneCell'=true)
  (hm:0<m) (hn6:n≤1000000) (hm6:m≤1000000) (hb6:bytes≤1000) (hbase:base≤w.heap.size) :
  ∃g' c' w',(Builtin.append_ #[t,t] ty #[.slice (some ⟨g,0,none⟩) n n,.slice (some a) m c]).run P w=.ok (.slice (some ⟨g',0,none⟩) (n+m) c') w'∧w'.ownsRow w.heap.size e size (.slice (some ⟨g',0,none⟩) (n+m) c') (n+m) (xs++news)∧Below w.heap.size w w':=by
 have hnb:(n+m)*bytes≤2000000*1000:=Nat.mul_le_mul (by omega) hb6
 obtain⟨v',w',hr,ho,_,_,hat⟩:=run_append_own_at (P:=P) w base t ty e i z size bytes ht hi hz hsize hby hzs hsz _ n xs hown a m c news hl hnews h1 (by unfold maxLen;omega) (by omega) hbase
 have hcap:=nextslicecap_le (need:=n+m) (old:=n) (by omega)
 have hg:=run_append_grow (P:=P) (w:=w) t ty e i z ht hi hz ⟨g,0,none⟩ n n xs (by rw[hown.1,hsize]) (fun j u hj=>by
   rw[WideShapes.add_plain,Nat.zero_add]
   have hjl:=(List.getElem?_eq_some_iff.1 hj).1
   rw[hown.1]at hjl
   rw[hown.cellAt j hjl];exact hj) a m c news (by rw[hl,hsize]) hnews (by omega) (by omega) (Nat.le_trans (Nat.mul_le_mul hcap (Nat.le_of_eq hby)) (by
    have:2*(n+m)*bytes≤4000000*1000:=Nat.mul_le_mul (by omega) hb6
    omega))
 rw[hr]at hg
 injection hg with e1 e2
 subst e1 e2
 refine⟨_,_,_,hr,?_,((Below.refl _ _).drew).alloc (by simp) _⟩
 refine⟨ho.1,?_⟩
 rcases ho.2 with ⟨h,_⟩|⟨g2,cap,cur,h,_,rest⟩
 ·cases h
 ·refine .inr ⟨g2,cap,cur,h,?_,rest⟩
  simp only[Value.slice.injEq,Option.some.injEq,Addr.mk.injEq,and_true]at h
  omega
theorem wpList_app_full {P:Program} {w:World} {ops:Array Oper} {rest:List Oper} {o:Oper} {a:Act} {Q:Exit→Act→World→Prop} (hgd:o.guard=none) (s x:Operand) (t:TypeId)
  (hop:o.op=.call { callee:=.builtin .append,args:=#[s,x],argTypes:=#[t,t] }) (base:Nat) (e:TypeId) (i:TypeInfo) (z:Value) (size bytes:Nat) (ht:P.underlying t=some (.slice e)) (hi:P.info? e=some i) (hz:i.zero=some z)
  (hsize:i.size=size) (hby:i.bytes=bytes) (hzs:z.cells.size=size) (hsz:0<size) (g n:Nat) (xs:List Value) (hs:a.eval s=.slice (some ⟨g,0,none⟩) n n) (hown:w.ownsRow base e size (.slice (some ⟨g,0,none⟩) n n) n xs)
  (ad:Addr) (m c:Nat) (news:List Value) (hx:a.eval x=.slice (some ad) m c) (hl:news.length=m*size) (hnews:∀j u,news[j]?=some u→w.cell? (ad.add j)=some u) (h1:∀u∈news,u.oneCell'=true)
  (hm:0<m) (hn6:n≤1000000) (hm6:m≤1000000) (hb6:bytes≤1000) (hbase:base≤w.heap.size)
  (h:∀g' c' w',w'.ownsRow w.heap.size e size (.slice (some ⟨g',0,none⟩) (n+m) c') (n+m) (xs++news)→Below w.heap.size w w'→wpList P ops Q rest (a.put o.dst (.slice (some ⟨g',0,none⟩) (n+m) c')) w'):wpList P ops Q (o :: rest) a w:=by
 refine wpList_plain hgd fun K hK=>?_
 obtain⟨g',c',w',hr,ho,hb⟩:=run_app_full (P:=P) w base t o.type e i z size bytes ht hi hz hsize hby hzs hsz g n xs hown ad m c news hl hnews h1 hm hn6 hm6 hb6 hbase
 unfold Oper.wp
 simp[execOp,hop,resolve,invoke,builtin,hs,hx,hr,Result.andThen]
 exact hK _ _ (h g' c' w' ho hb)
set_option maxHeartbeats 2000000 in
theorem nsources_any (A:Option Addr) (n c:Nat) (xs:List (Int × Int × Int)) (w:World) (h:ISource w A n xs) (hn:n≤1000000) :
  Calls Tryz.prog 86 #[.slice A n c] w fun e w'=>∃g,e=.returned (.slice (some ⟨g,0,none⟩) n n)∧w'.ownsRow w.heap.size 147 3 (.slice (some ⟨g,0,none⟩) n n) n (xs.flatMap CSource)∧Below w.heap.size w w':=by
 obtain⟨i0,z0,hi,hz,hzs,hsz,hby⟩:=info_source
 have H:=Lib.hid h
 have hl:=Lib.hid h.len
 clear h
 go_enter Tryz.func86,Tryz.ntmps86
 go_wp2_with (at_make;refine wpList_make_own _ rfl _ _ 27 rfl w.heap.size 147 i0 z0 3 Tryz.underlying27 hi hz hsz .i64 .i64 _ n rfl rfl rfl (by rw[hby];omega) (by unfold maxLen;omega) (Nat.le_refl _) ?_;intro w0 hown0 hgrow0)
 have hb0:Below w.heap.size w w0:=(Below.refl _ _).grown hgrow0 (Nat.le_refl _) (by intro j hj;cases hj)
 have HO0:=Lib.hid hown0
 have HB0:=Lib.hid hb0
 generalize hg:w.heap.size=g at *
 clear hown0 hgrow0 hb0
 go_loopw [3,4] (fun v iv wr=>∃k:Nat,k≤n∧iv=.int .i64 k∧v=.slice (some ⟨g,0,none⟩) k n∧Hid (wr.ownsRow g 147 3 (.slice (some ⟨g,0,none⟩) k n) k ((xs.take k).flatMap CSource))∧Hid (Below g w wr)) (fun _ iv _=>n - (intOf iv).toNat)
 case atStart=>exact⟨0,Nat.zero_le _,rfl,rfl,Lib.hid (by simpa using HO0.out),HB0⟩
 case round =>
  obtain⟨k,hk,rfl,rfl,HO,HB⟩:=hrel
  rcases Nat.lt_or_ge k n with hlt|hge
  ·obtain⟨bq,oq,⟨l1,s1,g1⟩,rfl,hb,hx,hc0,hc1,hc2⟩:=ISource.cells (IR.next H.out (by rw[hg];exact HB.out)) hlt
   have hi0:(k:Int)<(n:Int):=by omega
   have HT:Hid ((xs.take (k+1)).flatMap CSource=(xs.take k).flatMap CSource++[.int .i64 l1,.int .u32 s1,.int .u32 g1]):=Lib.hid (by rw[List.take_add_one,hx];simp[CSource,List.flatMap_append])
   have hgs:g≤wr.heap.size:=by have:=HB.out.size;omega
   clear hx
   go_wp2_with (at_builtin;refine wpList_append_fits _ rfl _ _ 27 rfl g 147 i0 3 Tryz.underlying27 hi hsz g k n _ rfl (HO.out.alloc _) ⟨wr.heap.size,0,none⟩ 1 1 [.int .i64 l1,.int .u32 s1,.int .u32 g1] rfl rfl (blk_news (Blk.new wr 147 #[.int .i64 l1,.int .u32 s1,.int .u32 g1]) rfl) (by intro u hu;simp at hu;rcases hu with rfl|rfl|rfl <;> rfl) (by omega) ?_;intro w2 hown2 hg2)
   have HO2:Hid (w2.ownsRow g 147 3 (.slice (some ⟨g,0,none⟩) (k+1) n) (k+1) ((xs.take (k+1)).flatMap CSource)):=Lib.hid (by rw[HT.out];exact hown2)
   have HB2:=Lib.hid ((HB.out.alloc hgs (.cells #[.int .i64 l1,.int .u32 s1,.int .u32 g1] 147)).grown hg2 (by simp;omega) (by intro j hj;cases hj;exact Nat.le_refl _))
   clear hown2 hg2 hc0 hc1 hc2
   go_wp2
   go_roundw
   case rel=>exact⟨k+1,hlt,by go_num,rfl,HO2,HB2⟩
   case measure=>simp[intOf];omega
  ·obtain rfl:k=n:=by omega
   have hd:decide ((k:Int)<(k:Int))=false:=by simp
   go_wp2
   go_ret
   rw[hg]
   refine⟨g,rfl,?_,HB.out⟩
   have:=HO.out
   rw[←hl.out,List.take_length,hl.out]at this
   exact this
theorem ret_send (tm:Array Value) (N:Nat) (W:World) (v0 v1 v2 v3 v4 v5 v6:Value) (h2:tm.getD 6 undef=.pointer (some ⟨N,0,none⟩)) (c0:W.cell? ⟨N,0,none⟩=some v0) (c1:W.cell? ⟨N,1,none⟩=some v1) (c2:W.cell? ⟨N,2,none⟩=some v2) (c3:W.cell? ⟨N,3,none⟩=some v3) (c4:W.cell? ⟨N,4,none⟩=some v4) (c5:W.cell? ⟨N,5,none⟩=some v5) (c6:W.cell? ⟨N,6,none⟩=some v6) :
  (results Tryz.f44 tm).run Tryz.prog W=.ok (.agg #[v0,v1,v2,v3,v4,v5,v6]) W:=by
 have h2':tm[6]?.getD undef=.pointer (some ⟨N,0,none⟩):=by simpa using h2
 simp[results,Tryz.results44,go_sem,h2',c0,c1,c2,c3,c4,c5,c6]
set_option maxHeartbeats 8000000 in
set_option maxRecDepth 100000 in
theorem send_any (M:Cm) (x:Cfg) (l q:Nat) (w:World) (h:CW w M x) (hl:l<256) (hq:q<65536) (hs:M.s.n≤50) :
  Calls Tryz.prog 44 #[.agg #[.slice M.r.A M.r.n M.r.c,.slice M.l.A M.l.n M.l.c,.slice M.p.A M.p.n M.p.c,.slice M.o.A M.o.n M.o.c,.slice M.g.A M.g.n M.g.c,.slice M.s.A M.s.n M.s.c,.slice M.m.A M.m.n M.m.c],.int .i64 (l:Int),.int .i64 (q:Int)] w fun e w'=>∃g c,e=.returned (.agg #[.slice M.r.A M.r.n M.r.c,.slice M.l.A M.l.n M.l.c,.slice M.p.A M.p.n M.p.c,.slice M.o.A M.o.n M.o.c,.slice M.g.A M.g.n M.g.c,.slice (some ⟨g,0,none⟩) (M.s.n+1) c,.slice M.m.A M.m.n M.m.c])∧w'.ownsRow w.heap.size 147 3 (.slice (some ⟨g,0,none⟩) (M.s.n+1) c) (M.s.n+1) ((x.ss++[((l:Int),adr l (200+M.s.n),3758161920+(q:Int))]).flatMap CSource)∧CW w' { M with s:=⟨some ⟨g,0,none⟩,M.s.n+1,c⟩ } { x with ss:=x.ss++[((l:Int),adr l (200+M.s.n),3758161920+(q:Int))] }∧Below w.heap.size w w':=by
 have HCW:=Lib.hid h
 have HS50:Hid (M.s.n≤50∧M.s.n≤1000000):=Lib.hid ⟨hs,by omega⟩
 have HB5:=Lib.hid (((Below.refl w.heap.size w).alloc (Nat.le_refl _) (.cells #[.slice M.r.A M.r.n M.r.c,.slice M.l.A M.l.n M.l.c,.slice M.p.A M.p.n M.p.c,.slice M.o.A M.o.n M.o.c,.slice M.g.A M.g.n M.g.c,.slice M.s.A M.s.n M.s.c,.slice M.m.A M.m.n M.m.c] 30)).alloc (by simp) (.cells #[.slice none 0 0,.slice none 0 0,.slice none 0 0,.slice none 0 0,.slice none 0 0,.slice none 0 0,.slice none 0 0] 30))
 have HNB:=Lib.hid ((Blk.new w 30 #[.slice M.r.A M.r.n M.r.c,.slice M.l.A M.l.n M.l.c,.slice M.p.A M.p.n M.p.c,.slice M.o.A M.o.n M.o.c,.slice M.g.A M.g.n M.g.c,.slice M.s.A M.s.n M.s.c,.slice M.m.A M.m.n M.m.c]).alloc (.cells #[.slice none 0 0,.slice none 0 0,.slice none 0 0,.slice none 0 0,.slice none 0 0,.slice none 0 0,.slice none 0 0] 30))
 have HNR:Hid (Blk ((w.alloc (.cells #[.slice M.r.A M.r.n M.r.c,.slice M.l.A M.l.n M.l.c,.slice M.p.A M.p.n M.p.c,.slice M.o.A M.o.n M.o.c,.slice M.g.A M.g.n M.g.c,.slice M.s.A M.s.n M.s.c,.slice M.m.A M.m.n M.m.c] 30)).alloc (.cells #[.slice none 0 0,.slice none 0 0,.slice none 0 0,.slice none 0 0,.slice none 0 0,.slice none 0 0,.slice none 0 0] 30)) (w.heap.size+1) 30 #[.slice none 0 0,.slice none 0 0,.slice none 0 0,.slice none 0 0,.slice none 0 0,.slice none 0 0,.slice none 0 0]):=Lib.hid (by
  have:=Blk.new (w.alloc (.cells #[.slice M.r.A M.r.n M.r.c,.slice M.l.A M.l.n M.l.c,.slice M.p.A M.p.n M.p.c,.slice M.o.A M.o.n M.o.c,.slice M.g.A M.g.n M.g.c,.slice M.s.A M.s.n M.s.c,.slice M.m.A M.m.n M.m.c] 30)) 30 #[.slice none 0 0,.slice none 0 0,.slice none 0 0,.slice none 0 0,.slice none 0 0,.slice none 0 0,.slice none 0 0]
  simpa using this)
 have HAD:=Lib.hid fun W=>naddr_any l (200+M.s.n) hl (by omega) W
 rw[show ((200+M.s.n:Nat):Int)=200+(M.s.n:Int) by omega]at HAD
 have HGR:=Lib.hid fun W=>ngroup_any q hq W
 clear h
 go_enter Tryz.func44,Tryz.ntmps44
 go_upto_region 1 with fail
 generalize (w.alloc (.cells #[.slice M.r.A M.r.n M.r.c,.slice M.l.A M.l.n M.l.c,.slice M.p.A M.p.n M.p.c,.slice M.o.A M.o.n M.o.c,.slice M.g.A M.g.n M.g.c,.slice M.s.A M.s.n M.s.c,.slice M.m.A M.m.n M.m.c] 30)).alloc (.cells #[.slice none 0 0,.slice none 0 0,.slice none 0 0,.slice none 0 0,.slice none 0 0,.slice none 0 0,.slice none 0 0] 30)=W5 at *
 have HSO:=Lib.hid fun W (hW:Below W5.heap.size W5 W)=>nsources_any M.s.A M.s.n M.s.c x.ss W (IR.next HCW.out.s (below_next HB5.out hW)) HS50.out.2
 refine wp_region_held_drew (S:=fun _=>True) (by kernel_rfl) trivial (fun _=>?_)
 refine wpAnyH_each (md:=.any) (m:=1) (rem:=[0,1,2,3,4,5,6,7,8,9,10,11,12,13,14,15,16]) (tail:=[17]) (deps:=fun i=>match i with | 1=>[0] | 2=>[1] | 6=>[5] | 7=>[6] | 8=>[7] | 9=>[4,8] | 11=>[10] | 12=>[9,11] | 13=>[3,12] | 14=>[13] | 15=>[2,14] | _=>[]) (fun _ W=>Below W5.heap.size W5 W) (fun _ W _ W'=>Below W.heap.size W W')
  (fun ix ds v W=>match ix with | 0=>v=.pointer (some ⟨w.heap.size,5,none⟩) | 1=>v=.slice M.s.A M.s.n M.s.c | 2=>∃g,v=.slice (some ⟨g,0,none⟩) M.s.n M.s.n∧W.ownsRow W5.heap.size 147 3 (.slice (some ⟨g,0,none⟩) M.s.n M.s.n) M.s.n (x.ss.flatMap CSource) | 3=>v=.int .i64 (l:Int) | 4=>v=.int .i64 (l:Int) | 5=>v=.pointer (some ⟨w.heap.size,5,none⟩) | 6=>v=.slice M.s.A M.s.n M.s.c | 7=>v=.int .i64 (M.s.n:Int) | 8=>v=.int .i64 (200+(M.s.n:Int)) | 9=>v=.int .u32 (adr l (200+M.s.n)) | 10=>v=.int .i64 (q:Int) | 11=>v=.int .u32 (3758161920+(q:Int)) | 12=>v=.agg #[.int .u32 (adr l (200+M.s.n)),.int .u32 (3758161920+(q:Int))] | 13=>v=.agg #[.int .i64 (l:Int),.int .u32 (adr l (200+M.s.n)),.int .u32 (3758161920+(q:Int))] | 14=>∃h,v=.slice (some ⟨h,0,none⟩) 1 1∧Blk W h 147 #[.int .i64 (l:Int),.int .u32 (adr l (200+M.s.n)),.int .u32 (3758161920+(q:Int))] | 15=>∃g c,v=.slice (some ⟨g,0,none⟩) (M.s.n+1) c∧W.ownsRow W5.heap.size 147 3 (.slice (some ⟨g,0,none⟩) (M.s.n+1) c) (M.s.n+1) (x.ss.flatMap CSource++[.int .i64 (l:Int),.int .u32 (adr l (200+M.s.n)),.int .u32 (3758161920+(q:Int))]) | 16=>v=.pointer (some ⟨w.heap.size,5,none⟩) | _=>True) (eachB_spec (by kernel_rfl)) (fun _ _ _ _ _ _ _ h k=>below_next h k) (fun _ _ _=>trivial) ?_ (fun _ _ _ _=>True) (fun _ _ _ _ _ _ _ _ _ _ _ _ _ _=>⟨trivial,trivial⟩) ?_ ?_ (Below.refl _ _).drew
 ·intro i hi j _ hij hjd ds v u l W W' _ _ hk h
  simp only[List.mem_cons,List.not_mem_nil,or_false]at hi
  rcases hi with rfl|rfl|rfl|rfl|rfl|rfl|rfl|rfl|rfl|rfl|rfl|rfl|rfl|rfl|rfl|rfl|rfl
  ·exact h
  ·exact h
  ·obtain⟨g,e,ho⟩:=h
   exact⟨g,e,ownk_next ho hk⟩
  ·exact h
  ·exact h
  ·exact h
  ·exact h
  ·exact h
  ·exact h
  ·exact h
  ·exact h
  ·exact h
  ·exact h
  ·exact h
  ·obtain⟨g,e,ho⟩:=h
   exact⟨g,e,ho.next hk⟩
  ·obtain⟨g,c,e,ho⟩:=h
   exact⟨g,c,e,ownk_next ho hk⟩
  ·exact h
 ·refine AllO.cons [] rfl rfl (fun vs lq W hl hT hd=>?_) ?_
  ·dsimp only[lay,List.foldl,List.map,dstOf]
   go_wp2
   exact⟨rfl,_,rfl,Below.refl _ _,rfl⟩
  refine AllO.cons [0] rfl rfl (fun vs lq W hl hT hd=>?_) ?_
  ·have e0:vs 0=.pointer (some ⟨w.heap.size,5,none⟩):=hd 0 (by simp)
   have c5:W.cell? ⟨w.heap.size,5,none⟩=some (.slice M.s.A M.s.n M.s.c):=(HNB.out.next hT).cell 5
   dsimp only[lay,List.foldl,List.map,dstOf]
   rw[e0]
   go_wp2
   exact⟨rfl,_,rfl,Below.refl _ _,rfl⟩
  refine AllO.cons [1] rfl rfl (fun vs lq W hl hT hd=>?_) ?_
  ·have e1:vs 1=.slice M.s.A M.s.n M.s.c:=hd 1 (by simp)
   dsimp only[lay,List.foldl,List.map,dstOf]
   rw[e1]
   go_wp2_with (go_at_call 86;refine (HSO.out W hT).mono ?_;rintro e w1 ⟨g1,rfl,ho1,hb1⟩)
   exact⟨rfl,_,rfl,hb1,g1,rfl,ownk_up ho1 hT.size⟩
  refine AllO.cons [] rfl rfl (fun vs lq W hl hT hd=>?_) ?_
  ·dsimp only[lay,List.foldl,List.map,dstOf]
   go_wp2
   exact⟨rfl,_,rfl,Below.refl _ _,rfl⟩
  refine AllO.cons [] rfl rfl (fun vs lq W hl hT hd=>?_) ?_
  ·dsimp only[lay,List.foldl,List.map,dstOf]
   go_wp2
   exact⟨rfl,_,rfl,Below.refl _ _,rfl⟩
  refine AllO.cons [] rfl rfl (fun vs lq W hl hT hd=>?_) ?_
  ·dsimp only[lay,List.foldl,List.map,dstOf]
   go_wp2
   exact⟨rfl,_,rfl,Below.refl _ _,rfl⟩
  refine AllO.cons [5] rfl rfl (fun vs lq W hl hT hd=>?_) ?_
  ·have e5:vs 5=.pointer (some ⟨w.heap.size,5,none⟩):=hd 5 (by simp)
   have c5:W.cell? ⟨w.heap.size,5,none⟩=some (.slice M.s.A M.s.n M.s.c):=(HNB.out.next hT).cell 5
   dsimp only[lay,List.foldl,List.map,dstOf]
   rw[e5]
   go_wp2
   exact⟨rfl,_,rfl,Below.refl _ _,rfl⟩
  refine AllO.cons [6] rfl rfl (fun vs lq W hl hT hd=>?_) ?_
  ·have e6:vs 6=.slice M.s.A M.s.n M.s.c:=hd 6 (by simp)
   dsimp only[lay,List.foldl,List.map,dstOf]
   rw[e6]
   go_wp2
   exact⟨rfl,_,rfl,Below.refl _ _,rfl⟩
  refine AllO.cons [7] rfl rfl (fun vs lq W hl hT hd=>?_) ?_
  ·have e7:vs 7=.int .i64 (M.s.n:Int):=hd 7 (by simp)
   dsimp only[lay,List.foldl,List.map,dstOf]
   rw[e7]
   go_wp2
   exact⟨rfl,_,rfl,Below.refl _ _,rfl⟩
  refine AllO.cons [4,8] rfl rfl (fun vs lq W hl hT hd=>?_) ?_
  ·have e4:vs 4=.int .i64 (l:Int):=hd 4 (by simp)
   have e8:vs 8=.int .i64 (200+(M.s.n:Int)):=hd 8 (by simp)
   dsimp only[lay,List.foldl,List.map,dstOf]
   rw[e4,e8]
   go_wp2_with (go_at_call 46;refine (HAD.out W).mono ?_;rintro e w1 ⟨rfl,rfl⟩)
   exact⟨rfl,_,rfl,Below.refl _ _,rfl⟩
  refine AllO.cons [] rfl rfl (fun vs lq W hl hT hd=>?_) ?_
  ·dsimp only[lay,List.foldl,List.map,dstOf]
   go_wp2
   exact⟨rfl,_,rfl,Below.refl _ _,rfl⟩
  refine AllO.cons [10] rfl rfl (fun vs lq W hl hT hd=>?_) ?_
  ·have e10:vs 10=.int .i64 (q:Int):=hd 10 (by simp)
   dsimp only[lay,List.foldl,List.map,dstOf]
   rw[e10]
   go_wp2_with (go_at_call 45;refine (HGR.out W).mono ?_;rintro e w1 ⟨rfl,rfl⟩)
   exact⟨rfl,_,rfl,Below.refl _ _,rfl⟩
  refine AllO.cons [9,11] rfl rfl (fun vs lq W hl hT hd=>?_) ?_
  ·have e9:vs 9=.int .u32 (adr l (200+M.s.n)):=hd 9 (by simp)
   have e11:vs 11=.int .u32 (3758161920+(q:Int)):=hd 11 (by simp)
   dsimp only[lay,List.foldl,List.map,dstOf]
   rw[e9,e11]
   go_wp2
   exact⟨rfl,_,rfl,Below.refl _ _,rfl⟩
  refine AllO.cons [3,12] rfl rfl (fun vs lq W hl hT hd=>?_) ?_
  ·have e3:vs 3=.int .i64 (l:Int):=hd 3 (by simp)
   have e12:vs 12=.agg #[.int .u32 (adr l (200+M.s.n)),.int .u32 (3758161920+(q:Int))]:=hd 12 (by simp)
   dsimp only[lay,List.foldl,List.map,dstOf]
   rw[e3,e12]
   go_wp2
   exact⟨rfl,_,rfl,Below.refl _ _,rfl⟩
  refine AllO.cons [13] rfl rfl (fun vs lq W hl hT hd=>?_) ?_
  ·have e13:vs 13=.agg #[.int .i64 (l:Int),.int .u32 (adr l (200+M.s.n)),.int .u32 (3758161920+(q:Int))]:=hd 13 (by simp)
   dsimp only[lay,List.foldl,List.map,dstOf]
   rw[e13]
   go_wp2
   exact⟨rfl,_,rfl,(Below.refl _ _).alloc (Nat.le_refl _) _,_,rfl,Blk.new _ _ _⟩
  refine AllO.cons [2,14] rfl rfl (fun vs lq W hl hT hd=>?_) ?_
  ·obtain⟨g',e2,ho'⟩:=hd 2 (by simp)
   obtain⟨h',e14,hb'⟩:=hd 14 (by simp)
   dsimp only[lay,List.foldl,List.map,dstOf]
   rw[e2,e14]
   obtain⟨i0,z0,hi,hz,hzs,hsz,hby⟩:=info_source
   refine wpList_app_full rfl _ _ 27 rfl W5.heap.size 147 i0 z0 3 16 Tryz.underlying27 hi hz hsz hby hzs (by decide) g' M.s.n _ (by rfl) ho' ⟨h',0,none⟩ 1 1 [.int .i64 (l:Int),.int .u32 (adr l (200+M.s.n)),.int .u32 (3758161920+(q:Int))] (by rfl) rfl (blk_news hb' rfl) (by intro u hu;simp at hu;rcases hu with rfl|rfl|rfl <;> rfl) (by decide) HS50.out.2 (by decide) (by decide) hT.size ?_
   intro g2 c2 w2 ho2 hb2
   refine wpList_nil ?_
   exact⟨rfl,_,rfl,hb2,g2,c2,rfl,ownk_up ho2 hT.size⟩
  refine AllO.cons [] rfl rfl (fun vs lq W hl hT hd=>?_) AllO.nil
  ·dsimp only[lay,List.foldl,List.map,dstOf]
   go_wp2
   exact⟨rfl,_,rfl,Below.refl _ _,rfl⟩
 ·intro vs lq W hall hT hF _ aE LE ha hL
  have e0:vs 0=.pointer (some ⟨w.heap.size,5,none⟩):=hF 0 (by simp)
  have e1:vs 1=.slice M.s.A M.s.n M.s.c:=hF 1 (by simp)
  have e3:vs 3=.int .i64 (l:Int):=hF 3 (by simp)
  have e4:vs 4=.int .i64 (l:Int):=hF 4 (by simp)
  have e5:vs 5=.pointer (some ⟨w.heap.size,5,none⟩):=hF 5 (by simp)
  have e6:vs 6=.slice M.s.A M.s.n M.s.c:=hF 6 (by simp)
  have e7:vs 7=.int .i64 (M.s.n:Int):=hF 7 (by simp)
  have e8:vs 8=.int .i64 (200+(M.s.n:Int)):=hF 8 (by simp)
  have e9:vs 9=.int .u32 (adr l (200+M.s.n)):=hF 9 (by simp)
  have e10:vs 10=.int .i64 (q:Int):=hF 10 (by simp)
  have e11:vs 11=.int .u32 (3758161920+(q:Int)):=hF 11 (by simp)
  have e12:vs 12=.agg #[.int .u32 (adr l (200+M.s.n)),.int .u32 (3758161920+(q:Int))]:=hF 12 (by simp)
  have e13:vs 13=.agg #[.int .i64 (l:Int),.int .u32 (adr l (200+M.s.n)),.int .u32 (3758161920+(q:Int))]:=hF 13 (by simp)
  have e16:vs 16=.pointer (some ⟨w.heap.size,5,none⟩):=hF 16 (by simp)
  obtain⟨gs,e2,-⟩:=hF 2 (by simp)
  obtain⟨hs,e14,-⟩:=hF 14 (by simp)
  obtain⟨g,c,e15,ho15⟩:=hF 15 (by simp)
  have hL':LE=#[true,true,true,true,true,true,true,true,true,true,true,true,true,true,true,true,true,false]:=hL.trans (by kernel_rfl)
  dsimp only[lay,List.foldl,dstOf]at ha
  rw[e0,e1,e2,e3,e4,e5,e6,e7,e8,e9,e10,e11,e12,e13,e14,e15,e16]at ha
  clear e0 e1 e2 e3 e4 e5 e6 e7 e8 e9 e10 e11 e12 e13 e14 e15 e16 hL hF
  subst ha hL'
  have hnb:=HNB.out.next hT
  have hnr:=HNR.out.next hT
  have c13:W.cell? ⟨w.heap.size,5,none⟩=some (.slice M.s.A M.s.n M.s.c):=hnb.cell 5
  have f13:W.frozen? ⟨w.heap.size,5,none⟩=false:=hnb.frozen _
  refine wpAnyH_ready (rs:=[17]) (by kernel_rfl) (by simp) ?_
  refine AllReadyH.cons rfl (fun K hK=>?_) AllReadyH.nil
  go_simp
  refine hK.out _ _ trivial (fun _=>?_)
  clear hK
  clear K
  refine wpAnyH_done (by kernel_rfl) ?_ _
  clear c13 f13 hall
  have hcs:M.s.n+1≤c∧M.s.n+1≤1000000:=⟨by
   obtain⟨A9,c9,e9,h9,_⟩:=own_slice ho15
   injection e9 with _ _ e3
   omega,by have:=HS50.out.1;omega⟩
  have hnb6:=hnb.set_to (cs':=#[.slice M.r.A M.r.n M.r.c,.slice M.l.A M.l.n M.l.c,.slice M.p.A M.p.n M.p.c,.slice M.o.A M.o.n M.o.c,.slice M.g.A M.g.n M.g.c,.slice (some ⟨g,0,none⟩) (M.s.n+1) c,.slice M.m.A M.m.n M.m.c]) 5 (.slice (some ⟨g,0,none⟩) (M.s.n+1) c) rfl
  have hnr6:=hnr.far (p:=⟨w.heap.size,5,none⟩) (by simp) (.slice (some ⟨g,0,none⟩) (M.s.n+1) c)
  have hbw:Below w.heap.size w (W.setCell ⟨w.heap.size,5,none⟩ (.slice (some ⟨g,0,none⟩) (M.s.n+1) c)):=(below_next HB5.out hT).setCell (by simp) _
  have hnew:=ownk_far (i:=5) (u:=.slice (some ⟨g,0,none⟩) (M.s.n+1) c) ho15 hnb.slot (by decide)
  generalize W.setCell ⟨w.heap.size,5,none⟩ (.slice (some ⟨g,0,none⟩) (M.s.n+1) c)=W6 at *
  obtain⟨W7,hW7,hk7,hb7,ho7⟩:=store7 (b:=w.heap.size) hnr6.slot (by omega) (.slice M.r.A M.r.n M.r.c) (.slice M.l.A M.l.n M.l.c) (.slice M.p.A M.p.n M.p.c) (.slice M.o.A M.o.n M.o.c) (.slice M.g.A M.g.n M.g.c) (.slice (some ⟨g,0,none⟩) (M.s.n+1) c) (.slice M.m.A M.m.n M.m.c)
  have hbw7:=hb7 w hbw
  have hup:W6.ownsRow w.heap.size 147 3 (.slice (some ⟨g,0,none⟩) (M.s.n+1) c) (M.s.n+1) ((x.ss++[((l:Int),adr l (200+M.s.n),3758161920+(q:Int))]).flatMap CSource):=by
   rw[List.flatMap_append]
   exact ownk_up hnew HB5.out.size
  have hir:=own_ir source_len (by simp[HCW.out.s.len]) (ho7 (by decide) hup)
  have HOS:=Lib.hid (ho7 (by decide) hup)
  have HFIN:=Lib.hid (And.intro hir (And.intro hbw7 (And.intro hcs hk7)))
  have c0:=hnb6.cell 0
  have c1:=hnb6.cell 1
  have c2:=hnb6.cell 2
  have c3:=hnb6.cell 3
  have c4:=hnb6.cell 4
  have c5:=hnb6.cell 5
  have c6:=hnb6.cell 6
  simp only[List.getElem?_toArray,List.getElem?_cons_zero,List.getElem?_cons_succ]at c0 c1 c2 c3 c4 c5 c6
  have HW7:=Lib.hid hW7
  have hcx:∃cs:Array Value,Blk W6 (w.heap.size+1) 30 cs:=⟨_,hnr6⟩
  have z0:=hnr6.cell 0
  have z1:=hnr6.cell 1
  have z2:=hnr6.cell 2
  have z3:=hnr6.cell 3
  have z4:=hnr6.cell 4
  have z5:=hnr6.cell 5
  have z6:=hnr6.cell 6
  simp only[List.getElem?_toArray,List.getElem?_cons_zero,List.getElem?_cons_succ]at z0 z1 z2 z3 z4 z5 z6
  have y0:=hnr6.frozen 0
  have y1:=hnr6.frozen 1
  have y2:=hnr6.frozen 2
  have y3:=hnr6.frozen 3
  have y4:=hnr6.frozen 4
  have y5:=hnr6.frozen 5
  have y6:=hnr6.frozen 6
  clear hW7 hir hbw7 hcs hk7 hb7 ho7 hup hnew hbw hnb hnr hcx
  go_wp2
  rw[←HW7.out]
  obtain⟨hir,hbw7,hcs,hk7⟩:=HFIN.out
  refine bodyPost_ret (ret_send _ (w.heap.size+1) _ _ _ _ _ _ _ _ rfl (hk7.cell 0) (hk7.cell 1) (hk7.cell 2) (hk7.cell 3) (hk7.cell 4) (hk7.cell 5) (hk7.cell 6)) rfl ?_
  have hc7:=HCW.out.next hbw7
  have hso:=hc7.sok
  exact⟨g,c,rfl,HOS.out,⟨hc7.r,hc7.l,hc7.p,hc7.o,hc7.g,hir,hc7.m,hc7.rok,hc7.lok,hc7.pok,hc7.ook,hc7.gok,⟨hcs.1,by have:=HS50.out.1;show M.s.n+1≤1000000;omega⟩,hc7.mok,hc7.src,⟨hc7.ok.1,hc7.ok.2.1,hc7.ok.2.2.1,hc7.ok.2.2.2.1,fun y hy=>by
   rw[List.mem_append,List.mem_singleton]at hy
   rcases hy with hy|rfl
   ·exact hc7.ok.2.2.2.2.1 y hy
   ·exact⟨adr_u32 hl (by have:=HS50.out.1;omega),by unfold U32;dsimp only;omega⟩,hc7.ok.2.2.2.2.2⟩⟩,hbw7⟩
end Go.Proofs.YtfidicbknjoafaaGreatDoor
