/- slices. -/
import Derived.Test.YtfidicbknjoafaaGreatDoorQShw
import Derived.Sort.OwnSortedInts
import Derived.Shelf.Spec.SlicesGrow
namespace Go.Proofs.YtfidicbknjoafaaGreatDoor
open Go.RowKit Go.Maps Go.Sort Sm
structure Mi where
 A:Option Addr
 n:Nat
 c:Nat
 xs:List Int
def CSi:Mi→List Value:=fun m=>[.slice m.A m.n m.c]
structure MSi (w:World) (A:Option Addr) (n:Nat) (ms:List Mi):Prop where
 r:RI CSi 1 w A n ms
 a:∀m∈ms,JR w m.A m.n m.xs
theorem MSi.next {w w':World} {A:Option Addr} {n:Nat} {ms:List Mi} (h:MSi w A n ms) (hb:Below w.heap.size w w'):MSi w' A n ms:=⟨h.r.next hb,fun m hm=>(h.a m hm).next hb⟩
def flatI (ms:List Mi):List Int:=ms.flatMap (·.xs)
theorem flatI_take {ms:List Mi} {k:Nat} {m:Mi} (h:ms[k]?=some m):flatI (ms.take (k+1))=flatI (ms.take k)++m.xs:=by
 unfold flatI
 rw[List.take_add_one,h]
 simp
theorem flatI_le (ms:List Mi) (k:Nat):(flatI (ms.take k)).length≤(flatI ms).length:=by
 unfold flatI
 conv=>rhs;rw[←List.take_append_drop k ms,List.flatMap_append,List.length_append]
 omega
theorem MSi.cell {w:World} {A:Option Addr} {n k:Nat} {ms:List Mi} (h:MSi w A n ms) (hk:k<n):∃b o m,A=some ⟨b,o,none⟩∧b<w.heap.size∧ms[k]?=some m∧w.cell? ⟨b,o+k,none⟩=some (.slice m.A m.n m.c)∧JR w m.A m.n m.xs:=by
 obtain⟨b,o,m,hA,hb,hm,hc⟩:=h.r.at_ hk
 have:=hc 0 _ rfl
 rw[Nat.mul_one,Nat.add_zero]at this
 exact⟨b,o,m,hA,hb,hm,this,h.a m (List.mem_of_getElem? hm)⟩
theorem growI0_any (n:Nat) (w:World) (hn:n≤1000000):Calls Tryz.prog 200 #[.slice none 0 0,.int .i64 (n:Int)] w fun e w'=>∃v,e=.returned v∧w'.ownsRow w.heap.size 3 1 v 0 (I64 [])∧Below w.heap.size w w':=by
 rcases Nat.eq_zero_or_pos n with rfl|hp
 ·refine (Any8.slices_Grow_room Tryz.growI none 0 0 0 w (by omega) (by omega) (by omega) (by omega)).mono ?_
  rintro e w' ⟨rfl,rfl⟩
  exact⟨_,rfl,World.ownsRow_nil _ _ _ _,Below.refl _ _⟩
 ·obtain⟨i,hi,hz,hsz,hby⟩:=info_parts info_int
  refine (Any8.slices_Grow_grow Tryz.growI i (.int .i64 0) hi hz (by omega) none 0 0 n [] w (by omega) (by omega) (by rw[hby];omega) (by omega) (by simp) (fun _=>rfl) (fun a h=>by cases h)).mono ?_
  rintro e w' ⟨rfl,rfl⟩
  have hge:=grownCap_ge w n 0 3
  have hle:=grownCap_le_maxLen w n 0 3 (by unfold maxLen;omega)
  refine⟨_,rfl,⟨rfl,.inr ⟨w.heap.size,_,_,rfl,Nat.le_refl _,heap_alloc_new _ _,by omega,?_,?_,rfl⟩⟩,((Below.refl _ w).drew).alloc (Nat.le_refl _) _⟩
  ·simp only[Nat.zero_add];exact hle
  ·simp only[Nat.zero_add]
   simp[Builtin.zeroCells,Value.cells]
   exact Nat.add_sub_cancel' hge
set_option maxHeartbeats 4000000 in
theorem concatI_any (A:Option Addr) (n c:Nat) (ms:List Mi) (w:World) (h:MSi w A n ms) (hn:n≤1000000) (hs:(flatI ms).length≤1000000) :
  Calls Tryz.prog 127 #[.slice A n c] w fun e w'=>∃ (A':Option Addr) (c':Nat),e=.returned (.slice A' (flatI ms).length c')∧w'.ownsRow w.heap.size 3 1 (.slice A' (flatI ms).length c') (flatI ms).length (I64 (flatI ms))∧Below w.heap.size w w':=by
 have H:=Lib.hid h
 have HL:=Lib.hid h.r.len
 have HG:=Lib.hid (growI0_any (flatI ms).length w hs)
 clear h
 go_enter Tryz.func127,Tryz.ntmps127
 go_wp2
 go_loopw [3,11] (fun sv iv wr=>∃k s:Nat,k≤n∧s≤1000000∧sv=.int .i64 (s:Int)∧iv=.int .i64 (k:Int)∧Hid (s=(flatI (ms.take k)).length)∧w=wr) (fun _ iv _=>n - (intOf iv).toNat)
 case atStart=>exact⟨0,0,Nat.zero_le _,by omega,rfl,rfl,Lib.hid rfl,rfl⟩
 case round =>
  obtain⟨k,s,hk,hs2,rfl,rfl,HS,rfl⟩:=hrel
  rcases Nat.lt_or_ge k n with hlt|hge
  ·obtain⟨b,o,m,rfl,hb,hm,hc,hr⟩:=H.out.cell hlt
   have hi0:(k:Int)<(n:Int):=by omega
   have HS2:Hid (s+m.n=(flatI (ms.take (k+1))).length):=Lib.hid (by rw[flatI_take hm,List.length_append,←HS.out,hr.1])
   have hle:=flatI_le ms (k+1)
   rw[←HS2.out]at hle
   have hsn:s+m.n≤1000000:=by omega
   have q2:¬ (s:Int)+(m.n:Int)<0:=by omega
   generalize m.n=mn at *
   clear hm hr hle
   go_wp2
   go_roundw
   case rel=>exact⟨k+1,s+mn,by omega,by omega,by go_num,by go_num,HS2,trivial⟩
   case measure=>simp[intOf];omega
  ·have q1:¬ (k:Int)<(n:Int):=by omega
   have HS2:Hid (s=(flatI ms).length):=Lib.hid (by rw[HS.out,show k=n by omega,←HL.out,List.take_length])
   rw[HS2.out]
   go_wp2_with (go_at_call 200;(with_reducible refine HG.out.mono ?_);rintro e w1 ⟨v,rfl,hr1,hb1⟩)
   have HR1:=Lib.hid hr1
   have HB1:=Lib.hid hb1
   clear hr1 hb1 q1
   go_wp2_with fail
   go_loopw [6,27] (fun rv iv wk=>∃k:Nat,k≤n∧iv=.int .i64 (k:Int)∧Hid (wk.ownsRow w.heap.size 3 1 rv (flatI (ms.take k)).length (I64 (flatI (ms.take k))))∧Hid (Below w.heap.size w wk)) (fun _ iv _=>n - (intOf iv).toNat)
   case atStart=>exact⟨0,Nat.zero_le _,rfl,HR1,HB1⟩
   case round =>
    clear HR1 HB1
    obtain⟨k,hk,rfl,HO,HB⟩:=hrel
    rcases Nat.lt_or_ge k n with hlt|hge
    ·obtain⟨b,o,m,rfl,hb,hm,hc,hr⟩:=(H.out.next HB.out).cell hlt
     have hi0:(k:Int)<(n:Int):=by omega
     have ht:=flatI_take hm
     have hle:=flatI_le ms (k+1)
     have HT:Hid (flatI (ms.take (k+1))=flatI (ms.take k)++m.xs∧(flatI (ms.take k)).length+m.n=(flatI (ms.take (k+1))).length):=Lib.hid ⟨ht,by rw[ht,List.length_append,hr.1]⟩
     have HM:=Lib.hid hr
     have hn1:(flatI (ms.take k)).length≤1048576:=by have:=HT.out.2;omega
     have hn2:m.n≤1048576:=by have:=HT.out.2;omega
     clear hm hr hle ht
     go_wp2_with (at_builtin;refine wpList_app_jr rfl _ _ rfl w.heap.size _ (flatI (ms.take k)).length _ rfl HO.out m.A m.n m.c m.xs rfl HM.out hn1 hn2 HB.out.size ?_;intro v6 w6 hown6 hb6)
     rw[HT.out.2,←HT.out.1]at hown6
     have HO6:=Lib.hid hown6
     have HB6:=Lib.hid (HB.out.trans hb6)
     clear hown6 hb6
     go_wp2
     go_roundw
     case rel=>exact⟨k+1,by omega,by go_num,HO6,HB6⟩
     case measure=>simp[intOf];omega
    ·have q1:¬ (k:Int)<(n:Int):=by omega
     have hF:flatI (ms.take k)=flatI ms:=by rw[show k=n by omega,←HL.out,List.take_length]
     have HO2:=HO
     rw[hF]at HO2
     have HO3:=HO2.out
     clear hF HO
     obtain⟨A',c',rfl,_,_⟩:=own_slice HO3
     go_wp2
     go_ret
     exact⟨A',c',rfl,HO3,HB.out⟩
structure HI (w:World) (g:Nat) (xs:List Int):Prop where
 h:Sort.Holds (Value.int .i64) w g 0 xs.toArray
 lt:g<w.heap.size
theorem HI.jr {w:World} {g:Nat} {xs:List Int} (h:HI w g xs):JR w (some ⟨g,0,none⟩) xs.length xs :=
 ⟨rfl,fun _=>⟨g,0,rfl,h.lt,fun i hi=>by
  have:=(h.h i (by simpa using hi)).1
  rw[this]
  simp[List.getD,hi]⟩⟩
theorem HI.put {w:World} {g n:Nat} {xs ys:List Int} {os:Array Obj} (h:HI w g xs) (hl:ys.length=xs.length):HI (grow (putRow (Value.int .i64) (Sort.ahead w n) g 0 ys.toArray) os) g ys :=
 ⟨holds_grow _ _ _ _ _ _ (by simpa using h.lt) (holds_putRow _ _ _ _ xs.toArray _ (holds_ahead _ _ _ _ _ _ h.h) (by simpa using hl)),by simp;have:=h.lt;omega⟩
theorem HI.take {w:World} {g:Nat} {xs ys:List Int} (h:HI w g (xs++ys)):HI w g xs :=
 ⟨fun j hj=>by
  have hj':j<xs.length:=by simpa using hj
  obtain⟨h1,h2⟩:=h.h j (by simp;omega)
  refine⟨?_,h2⟩
  rw[h1]
  simp[hj',List.getElem?_append_left hj'],h.lt⟩
theorem own_hi {w:World} {base n c:Nat} {A:Option Addr} {xs:List Int} (h:w.ownsRow base 3 1 (.slice A n c) n (I64 xs)) (hn:0<n):∃g,A=some ⟨g,0,none⟩∧HI w g xs∧base≤g∧n≤c∧c≤maxLen:=by
 have hl:xs.length=n:=by have:=h.1;simp[I64]at this;omega
 rcases h.2 with ⟨e,h0⟩|⟨g,cap,cur,e,hb,hh,h1,h2,h3,h4⟩
 ·omega
 ·cases e
  exact⟨g,rfl,⟨holds_of_blockI hh (by rw[hl];simpa [I64] using h4),(Array.getElem?_eq_some_iff.1 hh).1⟩,hb,h1,h2⟩
theorem compI_len (xs:List Int):(Lib.compact xs).length≤xs.length:=by
 unfold Lib.compact Lib.compactUpTo
 rw[List.length_map]
 exact Nat.le_trans (List.length_filter_le _ _) (by simp)
theorem sortI_any (g c:Nat) (xs:List Int) (w:World) (h:HI w g xs) (hn:xs.length≤1000000) :
  Calls Tryz.prog 128 #[.slice (some ⟨g,0,none⟩) xs.length c] w fun e w'=>e=.returned (.tuple #[])∧HI w' g (xs.mergeSort fun x y=>decide (x≤y))∧w.grownBy w' (some g):=by
 refine (Tryz.slices_Sort_int g 0 c xs w h.h h.lt (by omega)).mono ?_
 rintro e w' ⟨rfl,n,os,rfl⟩
 exact⟨rfl,h.put (List.length_mergeSort xs),grownBy_sortedI _⟩
theorem compI_any (g c:Nat) (xs:List Int) (w:World) (h:HI w g xs) (hn:xs.length≤1000000) (hc:xs.length≤c) :
  Calls Tryz.prog 129 #[.slice (some ⟨g,0,none⟩) xs.length c] w fun e w'=>e=.returned (.slice (some ⟨g,0,none⟩) (Lib.compact xs).length c)∧HI w' g (Lib.compact xs)∧w.grownBy w' (some g):=by
 refine (Tryz.slices_Compact_int g 0 c xs w h.h (by omega) hc).mono ?_
 rintro e w' ⟨rfl,n,rfl⟩
 have h1:=h.put (n:=n) (os:=#[]) (ys:=Lib.compact xs++List.replicate (xs.length - (Lib.compact xs).length) 0) (by have:=compI_len xs;simp;omega)
 rw[grow_empty]at h1
 have h2:=grownBy_sortedI (w:=w) (g:=g) (n:=n) (os:=#[]) (Lib.compact xs++List.replicate (xs.length - (Lib.compact xs).length) 0).toArray
 rw[grow_empty]at h2
 exact⟨rfl,h1.take,h2⟩
set_option maxRecDepth 100000 in
theorem clos_any (x q:Int) (N:Nat) (W:World) (hc:W.cell? ⟨N,0,none⟩=some (.int .i64 q)) :
  Calls Tryz.prog 131 #[.int .i64 x,.pointer (some ⟨N,0,none⟩)] W fun e w'=>e=.returned (.bool (x==q))∧w'=W:=by
 go_enter Tryz.func131,Tryz.ntmps131
 go_wp2
 go_ret
 exact⟨rfl,rfl⟩
theorem eClos:∀args w,(callFunc 131 args).run Tryz.prog w=.ok (.enter 131 args) w:=enters_of Tryz.func131 (by kernel_rfl) rfl
theorem delI_any (g c N:Nat) (q:Int) (xs:List Int) (w:World) (h:HI w g xs) (hn:xs.length≤1000000) (hc:xs.length≤c) (hN:w.cell? ⟨N,0,none⟩=some (.int .i64 q)) (hNl:N<w.heap.size) (hne:N ≠ g) :
  Calls Tryz.prog 130 #[.slice (some ⟨g,0,none⟩) xs.length c,.func (.func 131) #[] #[.pointer (some ⟨N,0,none⟩)]] w fun e w' =>
   e=.returned (.slice (some ⟨g,0,none⟩) (xs.filter fun x=>!(x==q)).length c)∧HI w' g (xs.filter fun x=>!(x==q))∧w.grownBy w' (some g):=by
 have:=Tryz.slices_DeleteFunc (Value.int .i64) (fun _=>rfl) (fun x=>x==q) 131 #[.pointer (some ⟨N,0,none⟩)] eClos 0 (fun w=>by kernel_rfl) g 0 c xs.toArray w
  (fun W x hb=>(clos_any x q N W ((hb.cell (p:=⟨N,0,none⟩) hNl).trans hN)).mono fun e w' ⟨he,hw⟩=>⟨he,0,hw⟩)
  (fun n os dk x hs=>(clos_any x q N _ (by
   show (sortWorld (Value.int .i64) w g 0 n dk os).cell? ⟨N,0,none⟩=_
   unfold sortWorld
   rw[cell?_grow _ _ _ (by simpa using hNl),cell?_putRow_other _ _ _ _ _ _ (.inl hne)]
   exact hN)).mono fun e w' ⟨he,hw⟩=>⟨he,0,hw⟩)
  h.h (by simp;omega) (by simpa using hc)
 simp only[List.size_toArray]at this
 refine this.mono ?_
 rintro e w' ⟨rfl,n,rfl⟩
 have h1:=h.put (n:=n) (os:=#[]) (ys:=(xs.filter fun x=>!(x==q))++List.replicate (xs.length - (xs.filter fun x=>!(x==q)).length) 0) (by have:=List.length_filter_le (fun x=>!(x==q)) xs;simp only[List.length_append,List.length_replicate];omega)
 rw[grow_empty]at h1
 have h2:=grownBy_sortedI (w:=w) (g:=g) (n:=n) (os:=#[]) ((xs.filter fun x=>!(x==q))++List.replicate (xs.length - (xs.filter fun x=>!(x==q)).length) 0).toArray
 rw[grow_empty]at h2
 exact⟨rfl,h1.take,h2⟩
def butI (q:Int) (l:List Int):List Int:=(Lib.compact (l.mergeSort fun x y=>decide (x≤y))).filter fun x=>!(x==q)
set_option maxRecDepth 100000 in
set_option maxHeartbeats 2000000 in
theorem outBut_any (q:Int) (A:Option Addr) (n c:Nat) (ms:List Mi) (w:World) (h:MSi w A n ms) (hn:n≤1000000) (h0:0<(flatI ms).length) (hs:(flatI ms).length≤1000000) :
  Calls Tryz.prog 76 #[.int .i64 q,.slice A n c] w fun e w'=>∃A' c',e=.returned (.slice A' (butI q (flatI ms)).length c')∧JR w' A' (butI q (flatI ms)).length (butI q (flatI ms))∧Below w.heap.size w w'∧∀a,A'=some a→w.heap.size≤a.block:=by
 have HB0:=Lib.hid ((Below.refl w.heap.size w).alloc (Nat.le_refl _) (.cells #[.int .i64 q] 3))
 have HN0:=Lib.hid (Blk.new w 3 #[.int .i64 q])
 have HCC:=Lib.hid (concatI_any A n c ms (w.alloc (.cells #[.int .i64 q] 3)) (h.next HB0.out) hn hs)
 have HSZ:Hid (w.heap.size<(w.alloc (.cells #[.int .i64 q] 3)).heap.size):=Lib.hid (by show _<(w.heap.push _).size;rw[Array.size_push];omega)
 clear h
 generalize flatI ms=X at *
 go_enter Tryz.func76,Tryz.ntmps76
 go_upto_region 1 with fail
 generalize w.alloc (.cells #[.int .i64 q] 3)=W0 at *
 go_upto_region 2 with (go_at_call 127;refine HCC.out.mono ?_;rintro e w1 ⟨A',c',rfl,hown,hb1⟩;have HB1:=Lib.hid hb1;have HO1:=Lib.hid hown;clear hb1 hown)
 obtain⟨g,rfl,hhi,hbg,hcc,hcm⟩:=own_hi HO1.out h0
 have hx:=hs
 have HS:=Lib.hid (sortI_any g c' X w1 hhi hs)
 have HX:=Lib.hid hs
 have HC':=Lib.hid hcc
 have HG:Hid (W0.heap.size≤g):=Lib.hid hbg
 have HK1:=Lib.hid (HN0.out.next HB1.out)
 have HNL:Hid (w.heap.size<w1.heap.size):=Lib.hid (Nat.lt_of_lt_of_le HSZ.out HB1.out.size)
 clear HO1 HCC hhi hbg hcc hcm hx
 go_upto_region 3 with (go_at_call 128;refine HS.out.mono ?_;rintro e w2 ⟨rfl,hhi2,hg2⟩;have HH2:=Lib.hid hhi2;have HG2:=Lib.hid hg2;clear hhi2 hg2)
 clear HS
 have HE:Hid ((X.mergeSort fun x y=>decide (x≤y)).length=X.length):=Lib.hid (List.length_mergeSort X)
 have hco:=compI_any g c' _ w2 HH2.out (by rw[HE.out];exact HX.out) (by rw[HE.out];exact HC'.out)
 rw[HE.out]at hco
 have HCO:=Lib.hid hco
 have HLE:=Lib.hid (compI_len (X.mergeSort fun x y=>decide (x≤y)))
 have HBU:Hid (butI q X=(Lib.compact (X.mergeSort fun x y=>decide (x≤y))).filter fun x=>!(x==q)):=Lib.hid rfl
 clear hco
 generalize X.mergeSort (fun x y=>decide (x≤y))=Y at *
 generalize Lib.compact Y=Z at *
 obtain⟨O,hbo⟩:∃O,butI q X=O:=⟨_,rfl⟩
 rw[hbo]at HBU
 have HBO:=Lib.hid hbo
 clear hbo
 go_upto_region 4 with (go_at_call 129;refine HCO.out.mono ?_;rintro e w3 ⟨rfl,hhi3,hg3⟩;have HH3:=Lib.hid hhi3;have HG3:=Lib.hid hg3;clear hhi3 hg3)
 clear HCO
 have hne:w.heap.size ≠ g:=by have:=HG.out;have:=HSZ.out;omega
 have hcell:w3.cell? ⟨w.heap.size,0,none⟩=some (.int .i64 q):=by
  have e2:=HG2.out.block w.heap.size HNL.out (fun e=>by cases e;exact hne rfl)
  have e3:=HG3.out.block w.heap.size (Nat.lt_of_lt_of_le HNL.out HG2.out.size) (fun e=>by cases e;exact hne rfl)
  have:Blk w3 w.heap.size 3 #[.int .i64 q]:=(e3.trans e2).trans HK1.out
  exact this.cell 0
 have hlt:w.heap.size<w3.heap.size:=Nat.lt_of_lt_of_le HNL.out (Nat.le_trans HG2.out.size HG3.out.size)
 have hzl:Z.length≤X.length:=by have:=HLE.out;have:=HE.out;omega
 have HD:=Lib.hid (delI_any g c' w.heap.size q Z w3 HH3.out (by have:=HX.out;omega) (by have:=HC'.out;omega) hcell hlt hne)
 clear hcell hlt hzl
 have HNE:=Lib.hid hne
 clear hne
 rw[←HBU.out]at HD
 go_wp2_with (go_at_call 130;refine HD.out.mono ?_;rintro e w4 ⟨rfl,hhi4,hg4⟩;have HH4:=Lib.hid hhi4;have HG4:=Lib.hid hg4;clear hhi4 hg4)
 go_ret
 rw[HBO.out]
 refine⟨_,_,rfl,HH4.out.jr,?_,fun a ha=>by cases ha;have:=HG.out;have:=HSZ.out;show w.heap.size≤g;omega⟩
 have hgw:∀k,w.heap.size ≥ k+1→some k ≠ some g:=fun k hk e=>by cases e;have:=HG.out;have:=HSZ.out;omega
 exact⟨((HG4.out.os.trans HG3.out.os).trans HG2.out.os).trans (HB1.out.os.trans HB0.out.os),((HG4.out.tape.trans HG3.out.tape).trans HG2.out.tape).trans (HB1.out.tape.trans HB0.out.tape),((HG4.out.output.trans HG3.out.output).trans HG2.out.output).trans (HB1.out.output.trans HB0.out.output),
  Nat.le_trans HB0.out.size (Nat.le_trans HB1.out.size (Nat.le_trans HG2.out.size (Nat.le_trans HG3.out.size HG4.out.size))),fun k hk=>by
   have k1:k<w1.heap.size:=by have:=HNL.out;omega
   have k2:=Nat.lt_of_lt_of_le k1 HG2.out.size
   have k3:=Nat.lt_of_lt_of_le k2 HG3.out.size
   have hk0:k<W0.heap.size:=by have:=HSZ.out;omega
   have hne':∀e:some k=some g,False:=fun e=>by cases e;have:=HG.out;omega
   have b4:=HG4.out.block k k3 hne'
   have b3:=HG3.out.block k k2 hne'
   have b2:=HG2.out.block k k1 hne'
   exact ((b4.trans b3).trans b2).trans ((HB1.out.block k hk0).trans (HB0.out.block k hk))⟩
end Go.Proofs.YtfidicbknjoafaaGreatDoor
