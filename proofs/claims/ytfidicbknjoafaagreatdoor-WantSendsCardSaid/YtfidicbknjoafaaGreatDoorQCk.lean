/- The order of keys, and keys. -/
import Derived.Test.YtfidicbknjoafaaGreatDoorQShw
import Derived.Sort.OwnSortedInts
import Derived.Shelf.Spec.SlicesGrow
import Derived.Test.YtfidicbknjoafaaGreatDoorQAs
import Derived.Test.YtfidicbknjoafaaGreatDoorProg
import Derived.RangeFuncNested
import Derived.RangeFuncBound
import Derived.RangeFuncCalls
import Derived.RangeFuncLeaves
import Derived.RangeFuncGives
import Derived.Shelf.Abstract
import Derived.Shelf.AbstractIn
import Derived.Shelf.RegionOpen
import Derived.WalkKit
import Derived.OwnWalkIn
import Derived.TacticsInMore
import Derived.RegionIn
import Derived.LoopNIn
import Derived.LoopIn
import Derived.Maps.AppendAt
import Derived.Maps.OwnSet
import Derived.Maps.Keyed
import Derived.Maps.OwnRows
import Derived.DeepKeys4
import Derived.WideKeyEntry
import Derived.BigQuiet
import Derived.Deep.QuietTactic
import Derived.Deep.RegionHeld3
namespace Go.Proofs.YtfidicbknjoafaaGreatDoor
open Go.RowKit Go.Maps Go.Sort Sm
structure Mi where
 A:Option Addr
 n:Nat
 c:Nat
 xs:List Int
def CSi:Mi→List Value:=fun m=>[.slice m.A m.n m.c]
structure MSi (w:World) (A:Option Addr) (n:Nat) (ms:List Mi):Prop where
 r:RI CSi 1 w A n ms
 a:∀ m ∈ ms,JR w m.A m.n m.xs
theorem MSi.next {w w':World} {A:Option Addr} {n:Nat} {ms:List Mi} (h:MSi w A n ms) (hb:Below w.heap.size w w'):MSi w' A n ms:=⟨h.r.next hb,fun m hm=>(h.a m hm).next hb⟩
def flatI (ms:List Mi):List Int:=ms.flatMap (·.xs)
theorem flatI_take {ms:List Mi} {k:Nat} {m:Mi} (h:ms[k]?=some m):flatI (ms.take (k+1))=flatI (ms.take k) ++ m.xs:=by
 unfold flatI
 rw [List.take_add_one,h]
 simp
theorem flatI_le (ms:List Mi) (k:Nat):(flatI (ms.take k)).length≤(flatI ms).length:=by
 unfold flatI
 conv=>rhs;rw [← List.take_append_drop k ms,List.flatMap_append,List.length_append]
 omega
theorem MSi.cell {w:World} {A:Option Addr} {n k:Nat} {ms:List Mi} (h:MSi w A n ms) (hk:k<n):∃ b o m,A=some ⟨b,o,none⟩∧b<w.heap.size∧ms[k]?=some m∧w.cell? ⟨b,o+k,none⟩=some (.slice m.A m.n m.c)∧JR w m.A m.n m.xs:=by
 obtain ⟨b,o,m,hA,hb,hm,hc⟩:=h.r.at_ hk
 have:=hc 0 _ rfl
 rw [Nat.mul_one,Nat.add_zero] at this
 exact ⟨b,o,m,hA,hb,hm,this,h.a m (List.mem_of_getElem? hm)⟩
theorem growI0_any (n:Nat) (w:World) (hn:n≤1000000):Calls Tryz.prog 200 #[.slice none 0 0,.int .i64 (n:Int)] w fun e w'=>∃ v,e=.returned v∧w'.ownsRow w.heap.size 3 1 v 0 (I64 [])∧Below w.heap.size w w':=by
 rcases Nat.eq_zero_or_pos n with rfl | hp
 ·refine (Any8.slices_Grow_room Tryz.growI none 0 0 0 w (by omega) (by omega) (by omega) (by omega)).mono ?_
  rintro e w' ⟨rfl,rfl⟩
  exact ⟨_,rfl,World.ownsRow_nil _ _ _ _,Below.refl _ _⟩
 ·obtain ⟨i,hi,hz,hsz,hby⟩:=info_parts info_int
  refine (Any8.slices_Grow_grow Tryz.growI i (.int .i64 0) hi hz (by omega) none 0 0 n [] w (by omega) (by omega) (by rw [hby];omega) (by omega) (by simp) (fun _=>rfl) (fun a h=>by cases h)).mono ?_
  rintro e w' ⟨rfl,rfl⟩
  have hge:=grownCap_ge w n 0 3
  have hle:=grownCap_le_maxLen w n 0 3 (by unfold maxLen;omega)
  refine ⟨_,rfl,⟨rfl,.inr ⟨w.heap.size,_,_,rfl,Nat.le_refl _,heap_alloc_new _ _,by omega,?_,?_,rfl⟩⟩,((Below.refl _ w).drew).alloc (Nat.le_refl _) _⟩
  ·simp only [Nat.zero_add];exact hle
  ·simp only [Nat.zero_add]
   simp [Builtin.zeroCells,Value.cells]
   exact Nat.add_sub_cancel' hge
set_option maxHeartbeats 4000000 in
theorem concatI_any (A:Option Addr) (n c:Nat) (ms:List Mi) (w:World) (h:MSi w A n ms) (hn:n≤1000000) (hs:(flatI ms).length≤1000000) :
  Calls Tryz.prog 127 #[.slice A n c] w fun e w'=>∃ (A':Option Addr) (c':Nat),e=.returned (.slice A' (flatI ms).length c')∧w'.ownsRow w.heap.size 3 1 (.slice A' (flatI ms).length c') (flatI ms).length (I64 (flatI ms))∧Below w.heap.size w w':=by
 have H:=Lib.hid h
 have HL:=Lib.hid h.r.len
 have HG:=Lib.hid (growI0_any (flatI ms).length w hs)
 clear h
 go_enter Tryz.func127,Tryz.ntmps127
 go_wp2
 go_loopw [3,11] (fun sv iv wr=>∃ k s:Nat,k≤n∧s≤1000000∧sv=.int .i64 (s:Int)∧iv=.int .i64 (k:Int)∧Hid (s=(flatI (ms.take k)).length)∧w=wr) (fun _ iv _=>n - (intOf iv).toNat)
 case atStart=>exact ⟨0,0,Nat.zero_le _,by omega,rfl,rfl,Lib.hid rfl,rfl⟩
 case round =>
  obtain ⟨k,s,hk,hs2,rfl,rfl,HS,rfl⟩:=hrel
  rcases Nat.lt_or_ge k n with hlt | hge
  ·obtain ⟨b,o,m,rfl,hb,hm,hc,hr⟩:=H.out.cell hlt
   have hi0:(k:Int)<(n:Int):=by omega
   have HS2:Hid (s+m.n=(flatI (ms.take (k+1))).length):=Lib.hid (by rw [flatI_take hm,List.length_append,← HS.out,hr.1])
   have hle:=flatI_le ms (k+1)
   rw [← HS2.out] at hle
   have hsn:s+m.n≤1000000:=by omega
   have q2:¬ (s:Int)+(m.n:Int)<0:=by omega
   generalize m.n=mn at *
   clear hm hr hle
   go_wp2
   go_roundw
   case rel=>exact ⟨k+1,s+mn,by omega,by omega,by go_num,by go_num,HS2,trivial⟩
   case measure=>simp [intOf];omega
  ·have q1:¬ (k:Int)<(n:Int):=by omega
   have HS2:Hid (s=(flatI ms).length):=Lib.hid (by rw [HS.out,show k=n by omega,← HL.out,List.take_length])
   rw [HS2.out]
   go_wp2_with (go_at_call 200;(with_reducible refine HG.out.mono ?_);rintro e w1 ⟨v,rfl,hr1,hb1⟩)
   have HR1:=Lib.hid hr1
   have HB1:=Lib.hid hb1
   clear hr1 hb1 q1
   go_wp2_with fail
   go_loopw [6,27] (fun rv iv wk=>∃ k:Nat,k≤n∧iv=.int .i64 (k:Int)∧Hid (wk.ownsRow w.heap.size 3 1 rv (flatI (ms.take k)).length (I64 (flatI (ms.take k))))∧Hid (Below w.heap.size w wk)) (fun _ iv _=>n - (intOf iv).toNat)
   case atStart=>exact ⟨0,Nat.zero_le _,rfl,HR1,HB1⟩
   case round =>
    clear HR1 HB1
    obtain ⟨k,hk,rfl,HO,HB⟩:=hrel
    rcases Nat.lt_or_ge k n with hlt | hge
    ·obtain ⟨b,o,m,rfl,hb,hm,hc,hr⟩:=(H.out.next HB.out).cell hlt
     have hi0:(k:Int)<(n:Int):=by omega
     have ht:=flatI_take hm
     have hle:=flatI_le ms (k+1)
     have HT:Hid (flatI (ms.take (k+1))=flatI (ms.take k) ++ m.xs∧(flatI (ms.take k)).length+m.n=(flatI (ms.take (k+1))).length):=Lib.hid ⟨ht,by rw [ht,List.length_append,hr.1]⟩
     have HM:=Lib.hid hr
     have hn1:(flatI (ms.take k)).length≤1048576:=by have:=HT.out.2;omega
     have hn2:m.n≤1048576:=by have:=HT.out.2;omega
     clear hm hr hle ht
     go_wp2_with (at_builtin;refine wpList_app_jr rfl _ _ rfl w.heap.size _ (flatI (ms.take k)).length _ rfl HO.out m.A m.n m.c m.xs rfl HM.out hn1 hn2 HB.out.size ?_;intro v6 w6 hown6 hb6)
     rw [HT.out.2,← HT.out.1] at hown6
     have HO6:=Lib.hid hown6
     have HB6:=Lib.hid (HB.out.trans hb6)
     clear hown6 hb6
     go_wp2
     go_roundw
     case rel=>exact ⟨k+1,by omega,by go_num,HO6,HB6⟩
     case measure=>simp [intOf];omega
    ·have q1:¬ (k:Int)<(n:Int):=by omega
     have hF:flatI (ms.take k)=flatI ms:=by rw [show k=n by omega,← HL.out,List.take_length]
     have HO2:=HO
     rw [hF] at HO2
     have HO3:=HO2.out
     clear hF HO
     obtain ⟨A',c',rfl,_,_⟩:=own_slice HO3
     go_wp2
     go_ret
     exact ⟨A',c',rfl,HO3,HB.out⟩
structure HI (w:World) (g:Nat) (xs:List Int):Prop where
 h:Sort.Holds (Value.int .i64) w g 0 xs.toArray
 lt:g<w.heap.size
theorem HI.jr {w:World} {g:Nat} {xs:List Int} (h:HI w g xs):JR w (some ⟨g,0,none⟩) xs.length xs :=
 ⟨rfl,fun _=>⟨g,0,rfl,h.lt,fun i hi=>by
  have:=(h.h i (by simpa using hi)).1
  rw [this]
  simp [List.getD,hi]⟩⟩
theorem HI.put {w:World} {g n:Nat} {xs ys:List Int} {os:Array Obj} (h:HI w g xs) (hl:ys.length=xs.length):HI (grow (putRow (Value.int .i64) (Sort.ahead w n) g 0 ys.toArray) os) g ys :=
 ⟨holds_grow _ _ _ _ _ _ (by simpa using h.lt) (holds_putRow _ _ _ _ xs.toArray _ (holds_ahead _ _ _ _ _ _ h.h) (by simpa using hl)),by simp;have:=h.lt;omega⟩
theorem HI.take {w:World} {g:Nat} {xs ys:List Int} (h:HI w g (xs ++ ys)):HI w g xs :=
 ⟨fun j hj=>by
  have hj':j<xs.length:=by simpa using hj
  obtain ⟨h1,h2⟩:=h.h j (by simp;omega)
  refine ⟨?_,h2⟩
  rw [h1]
  simp [hj',List.getElem?_append_left hj'],h.lt⟩
theorem own_hi {w:World} {base n c:Nat} {A:Option Addr} {xs:List Int} (h:w.ownsRow base 3 1 (.slice A n c) n (I64 xs)) (hn:0<n):∃ g,A=some ⟨g,0,none⟩∧HI w g xs∧base≤g∧n≤c∧c≤maxLen:=by
 have hl:xs.length=n:=by have:=h.1;simp [I64] at this;omega
 rcases h.2 with ⟨e,h0⟩ | ⟨g,cap,cur,e,hb,hh,h1,h2,h3,h4⟩
 ·omega
 ·cases e
  exact ⟨g,rfl,⟨holds_of_blockI hh (by rw [hl];simpa [I64] using h4),(Array.getElem?_eq_some_iff.1 hh).1⟩,hb,h1,h2⟩
theorem compI_len (xs:List Int):(Lib.compact xs).length≤xs.length:=by
 unfold Lib.compact Lib.compactUpTo
 rw [List.length_map]
 exact Nat.le_trans (List.length_filter_le _ _) (by simp)
theorem sortI_any (g c:Nat) (xs:List Int) (w:World) (h:HI w g xs) (hn:xs.length≤1000000) :
  Calls Tryz.prog 128 #[.slice (some ⟨g,0,none⟩) xs.length c] w fun e w'=>e=.returned (.tuple #[])∧HI w' g (xs.mergeSort fun x y=>decide (x≤y))∧w.grownBy w' (some g):=by
 refine (Tryz.slices_Sort_int g 0 c xs w h.h h.lt (by omega)).mono ?_
 rintro e w' ⟨rfl,n,os,rfl⟩
 exact ⟨rfl,h.put (List.length_mergeSort xs),grownBy_sortedI _⟩
theorem compI_any (g c:Nat) (xs:List Int) (w:World) (h:HI w g xs) (hn:xs.length≤1000000) (hc:xs.length≤c) :
  Calls Tryz.prog 129 #[.slice (some ⟨g,0,none⟩) xs.length c] w fun e w'=>e=.returned (.slice (some ⟨g,0,none⟩) (Lib.compact xs).length c)∧HI w' g (Lib.compact xs)∧w.grownBy w' (some g):=by
 refine (Tryz.slices_Compact_int g 0 c xs w h.h (by omega) hc).mono ?_
 rintro e w' ⟨rfl,n,rfl⟩
 have h1:=h.put (n:=n) (os:=#[]) (ys:=Lib.compact xs ++ List.replicate (xs.length - (Lib.compact xs).length) 0) (by have:=compI_len xs;simp;omega)
 rw [grow_empty] at h1
 have h2:=grownBy_sortedI (w:=w) (g:=g) (n:=n) (os:=#[]) (Lib.compact xs ++ List.replicate (xs.length - (Lib.compact xs).length) 0).toArray
 rw [grow_empty] at h2
 exact ⟨rfl,h1.take,h2⟩
set_option maxRecDepth 100000 in
theorem clos_any (x q:Int) (N:Nat) (W:World) (hc:W.cell? ⟨N,0,none⟩=some (.int .i64 q)) :
  Calls Tryz.prog 131 #[.int .i64 x,.pointer (some ⟨N,0,none⟩)] W fun e w'=>e=.returned (.bool (x == q))∧w'=W:=by
 go_enter Tryz.func131,Tryz.ntmps131
 go_wp2
 go_ret
 exact ⟨rfl,rfl⟩
theorem eClos:∀ args w,(callFunc 131 args).run Tryz.prog w=.ok (.enter 131 args) w:=enters_of Tryz.func131 (by kernel_rfl) rfl
theorem delI_any (g c N:Nat) (q:Int) (xs:List Int) (w:World) (h:HI w g xs) (hn:xs.length≤1000000) (hc:xs.length≤c) (hN:w.cell? ⟨N,0,none⟩=some (.int .i64 q)) (hNl:N<w.heap.size) (hne:N ≠ g) :
  Calls Tryz.prog 130 #[.slice (some ⟨g,0,none⟩) xs.length c,.func (.func 131) #[] #[.pointer (some ⟨N,0,none⟩)]] w fun e w' =>
   e=.returned (.slice (some ⟨g,0,none⟩) (xs.filter fun x=>!(x == q)).length c)∧HI w' g (xs.filter fun x=>!(x == q))∧w.grownBy w' (some g):=by
 have:=Tryz.slices_DeleteFunc (Value.int .i64) (fun _=>rfl) (fun x=>x == q) 131 #[.pointer (some ⟨N,0,none⟩)] eClos 0 (fun w=>by kernel_rfl) g 0 c xs.toArray w
  (fun W x hb=>(clos_any x q N W ((hb.cell (p:=⟨N,0,none⟩) hNl).trans hN)).mono fun e w' ⟨he,hw⟩=>⟨he,0,hw⟩)
  (fun n os dk x hs=>(clos_any x q N _ (by
   show (sortWorld (Value.int .i64) w g 0 n dk os).cell? ⟨N,0,none⟩=_
   unfold sortWorld
   rw [cell?_grow _ _ _ (by simpa using hNl),cell?_putRow_other _ _ _ _ _ _ (.inl hne)]
   exact hN)).mono fun e w' ⟨he,hw⟩=>⟨he,0,hw⟩)
  h.h (by simp;omega) (by simpa using hc)
 simp only [List.size_toArray] at this
 refine this.mono ?_
 rintro e w' ⟨rfl,n,rfl⟩
 have h1:=h.put (n:=n) (os:=#[]) (ys:=(xs.filter fun x=>!(x == q)) ++ List.replicate (xs.length - (xs.filter fun x=>!(x == q)).length) 0) (by have:=List.length_filter_le (fun x=>!(x == q)) xs;simp only [List.length_append,List.length_replicate];omega)
 rw [grow_empty] at h1
 have h2:=grownBy_sortedI (w:=w) (g:=g) (n:=n) (os:=#[]) ((xs.filter fun x=>!(x == q)) ++ List.replicate (xs.length - (xs.filter fun x=>!(x == q)).length) 0).toArray
 rw [grow_empty] at h2
 exact ⟨rfl,h1.take,h2⟩
def butI (q:Int) (l:List Int):List Int:=(Lib.compact (l.mergeSort fun x y=>decide (x≤y))).filter fun x=>!(x == q)
set_option maxRecDepth 100000 in
set_option maxHeartbeats 2000000 in
theorem outBut_any (q:Int) (A:Option Addr) (n c:Nat) (ms:List Mi) (w:World) (h:MSi w A n ms) (hn:n≤1000000) (h0:0<(flatI ms).length) (hs:(flatI ms).length≤1000000) :
  Calls Tryz.prog 76 #[.int .i64 q,.slice A n c] w fun e w'=>∃ A' c',e=.returned (.slice A' (butI q (flatI ms)).length c')∧JR w' A' (butI q (flatI ms)).length (butI q (flatI ms))∧Below w.heap.size w w'∧∀ a,A'=some a→w.heap.size≤a.block:=by
 have HB0:=Lib.hid ((Below.refl w.heap.size w).alloc (Nat.le_refl _) (.cells #[.int .i64 q] 3))
 have HN0:=Lib.hid (Blk.new w 3 #[.int .i64 q])
 have HCC:=Lib.hid (concatI_any A n c ms (w.alloc (.cells #[.int .i64 q] 3)) (h.next HB0.out) hn hs)
 have HSZ:Hid (w.heap.size<(w.alloc (.cells #[.int .i64 q] 3)).heap.size):=Lib.hid (by show _<(w.heap.push _).size;rw [Array.size_push];omega)
 clear h
 generalize flatI ms=X at *
 go_enter Tryz.func76,Tryz.ntmps76
 go_upto_region 1 with fail
 generalize w.alloc (.cells #[.int .i64 q] 3)=W0 at *
 go_upto_region 2 with (go_at_call 127;refine HCC.out.mono ?_;rintro e w1 ⟨A',c',rfl,hown,hb1⟩;have HB1:=Lib.hid hb1;have HO1:=Lib.hid hown;clear hb1 hown)
 obtain ⟨g,rfl,hhi,hbg,hcc,hcm⟩:=own_hi HO1.out h0
 have hx:=hs
 have HS:=Lib.hid (sortI_any g c' X w1 hhi hs)
 have HX:=Lib.hid hs
 have HC':=Lib.hid hcc
 have HG:Hid (W0.heap.size≤g):=Lib.hid hbg
 have HK1:=Lib.hid (HN0.out.next HB1.out)
 have HNL:Hid (w.heap.size<w1.heap.size):=Lib.hid (Nat.lt_of_lt_of_le HSZ.out HB1.out.size)
 clear HO1 HCC hhi hbg hcc hcm hx
 go_upto_region 3 with (go_at_call 128;refine HS.out.mono ?_;rintro e w2 ⟨rfl,hhi2,hg2⟩;have HH2:=Lib.hid hhi2;have HG2:=Lib.hid hg2;clear hhi2 hg2)
 clear HS
 have HE:Hid ((X.mergeSort fun x y=>decide (x≤y)).length=X.length):=Lib.hid (List.length_mergeSort X)
 have hco:=compI_any g c' _ w2 HH2.out (by rw [HE.out];exact HX.out) (by rw [HE.out];exact HC'.out)
 rw [HE.out] at hco
 have HCO:=Lib.hid hco
 have HLE:=Lib.hid (compI_len (X.mergeSort fun x y=>decide (x≤y)))
 have HBU:Hid (butI q X=(Lib.compact (X.mergeSort fun x y=>decide (x≤y))).filter fun x=>!(x == q)):=Lib.hid rfl
 clear hco
 generalize X.mergeSort (fun x y=>decide (x≤y))=Y at *
 generalize Lib.compact Y=Z at *
 obtain ⟨O,hbo⟩:∃ O,butI q X=O:=⟨_,rfl⟩
 rw [hbo] at HBU
 have HBO:=Lib.hid hbo
 clear hbo
 go_upto_region 4 with (go_at_call 129;refine HCO.out.mono ?_;rintro e w3 ⟨rfl,hhi3,hg3⟩;have HH3:=Lib.hid hhi3;have HG3:=Lib.hid hg3;clear hhi3 hg3)
 clear HCO
 have hne:w.heap.size ≠ g:=by have:=HG.out;have:=HSZ.out;omega
 have hcell:w3.cell? ⟨w.heap.size,0,none⟩=some (.int .i64 q):=by
  have e2:=HG2.out.block w.heap.size HNL.out (fun e=>by cases e;exact hne rfl)
  have e3:=HG3.out.block w.heap.size (Nat.lt_of_lt_of_le HNL.out HG2.out.size) (fun e=>by cases e;exact hne rfl)
  have:Blk w3 w.heap.size 3 #[.int .i64 q]:=(e3.trans e2).trans HK1.out
  exact this.cell 0
 have hlt:w.heap.size<w3.heap.size:=Nat.lt_of_lt_of_le HNL.out (Nat.le_trans HG2.out.size HG3.out.size)
 have hzl:Z.length≤X.length:=by have:=HLE.out;have:=HE.out;omega
 have HD:=Lib.hid (delI_any g c' w.heap.size q Z w3 HH3.out (by have:=HX.out;omega) (by have:=HC'.out;omega) hcell hlt hne)
 clear hcell hlt hzl
 have HNE:=Lib.hid hne
 clear hne
 rw [← HBU.out] at HD
 go_wp2_with (go_at_call 130;refine HD.out.mono ?_;rintro e w4 ⟨rfl,hhi4,hg4⟩;have HH4:=Lib.hid hhi4;have HG4:=Lib.hid hg4;clear hhi4 hg4)
 go_ret
 rw [HBO.out]
 refine ⟨_,_,rfl,HH4.out.jr,?_,fun a ha=>by cases ha;have:=HG.out;have:=HSZ.out;show w.heap.size≤g;omega⟩
 have hgw:∀ k,w.heap.size ≥ k+1→some k ≠ some g:=fun k hk e=>by cases e;have:=HG.out;have:=HSZ.out;omega
 exact ⟨((HG4.out.os.trans HG3.out.os).trans HG2.out.os).trans (HB1.out.os.trans HB0.out.os),((HG4.out.tape.trans HG3.out.tape).trans HG2.out.tape).trans (HB1.out.tape.trans HB0.out.tape),((HG4.out.output.trans HG3.out.output).trans HG2.out.output).trans (HB1.out.output.trans HB0.out.output),
  Nat.le_trans HB0.out.size (Nat.le_trans HB1.out.size (Nat.le_trans HG2.out.size (Nat.le_trans HG3.out.size HG4.out.size))),fun k hk=>by
   have k1:k<w1.heap.size:=by have:=HNL.out;omega
   have k2:=Nat.lt_of_lt_of_le k1 HG2.out.size
   have k3:=Nat.lt_of_lt_of_le k2 HG3.out.size
   have hk0:k<W0.heap.size:=by have:=HSZ.out;omega
   have hne':∀ e:some k=some g,False:=fun e=>by cases e;have:=HG.out;omega
   have b4:=HG4.out.block k k3 hne'
   have b3:=HG3.out.block k k2 hne'
   have b2:=HG2.out.block k k1 hne'
   exact ((b4.trans b3).trans b2).trans ((HB1.out.block k hk0).trans (HB0.out.block k hk))⟩
end Go.Proofs.YtfidicbknjoafaaGreatDoor
namespace Go.Proofs.YtfidicbknjoafaaGreatDoor
open Go.RowKit Go.Maps Go.Sort Go.Shelf
open Go.WideElems (Fit)
def kv (p:Int × Int):Value:=.agg #[.int .u32 p.1,.int .u32 p.2]
def UK (p:Int × Int):Prop:=U32 p.1∧U32 p.2
theorem kv_inj {p q:Int × Int} (h:kv p=kv q):p=q:=by
 unfold kv at h
 simp at h
 exact Prod.ext h.1 h.2
theorem kv_inj' (x y:Int × Int) (h:kv x=kv y):x=y:=kv_inj h
theorem laidK:laidOutB Tryz.prog=true:=by kernel_rfl
theorem lawK:WideMaps.KeyLaw Tryz.prog 57:=deep_law_laid laidK (m:=2) (by omega) (of_decide_eq_true (by kernel_rfl)) (by kernel_rfl) (by kernel_rfl)
theorem keyTK:Tryz.prog.keyType 57=true:=by kernel_rfl
theorem cellsK:Tryz.prog.cellsOf 57=2:=by kernel_rfl
theorem cellsAK:Tryz.prog.cellsOf 42=1:=by kernel_rfl
theorem keyedPK:Keyed Tryz.prog 57:=Keyed.of_law lawK
set_option maxRecDepth 100000 in
theorem kv_key' {p:Int × Int} (h:UK p):∃ kl,keyOf Tryz.prog 57 (kv p)=some kl:=by
 obtain ⟨⟨h0,h1⟩,h2,h3⟩:=h
 have wa:(Lit.int .u32 p.1).wf=true:=by simp [Lit.wf,IntKind.min,IntKind.max,IntKind.signed,IntKind.bits];omega
 have wb:(Lit.int .u32 p.2).wf=true:=by simp [Lit.wf,IntKind.min,IntKind.max,IntKind.signed,IntKind.bits];omega
 have hf:(kv p).formed Tryz.prog 57=true:=by simp [kv,Value.formed,Tryz.underlying57,cellsK]
 unfold keyOf
 simp only [Tryz.underlying57,keyTK,hf,Bool.and_self,if_true]
 have hl:∀ n,∃ ls,Tryz.prog.keyLits (n+2) 57 (kv p).cells.toList=some ls:=by
  intro n
  simp [Program.keyLits,kv,Value.cells,Tryz.underlying57,Tryz.underlying42,cellsK,cellsAK,wa,wb]
 have hs:∃ n,Tryz.prog.types.size+1=n+2:=⟨Tryz.prog.types.size - 1,by
  have:1≤Tryz.prog.types.size:=of_decide_eq_true (by kernel_rfl)
  omega⟩
 obtain ⟨n,hn⟩:=hs
 obtain ⟨ls,hls⟩:=hl n
 rw [hn,hls]
 exact ⟨_,rfl⟩
noncomputable def klit (p:Int × Int):Lit:=(keyOf Tryz.prog 57 (kv p)).getD (.bool false)
theorem kv_key {p:Int × Int} (h:UK p):keyOf Tryz.prog 57 (kv p)=some (klit p):=by
 obtain ⟨kl,hk⟩:=kv_key' h
 unfold klit
 rw [hk];rfl
theorem klit_inj {p q:Int × Int} (hp:UK p) (hq:UK q) (h:klit p=klit q):p=q:=by
 have h1:=kv_key hp
 rw [h] at h1
 exact kv_inj (keyedPK.inj h1 (kv_key hq))
set_option maxRecDepth 100000 in
theorem key_kv {v:Value} {kl:Lit} (h:keyOf Tryz.prog 57 v=some kl):∃ p:Int × Int,v=kv p∧UK p:=by
 unfold keyOf at h
 simp only [Tryz.underlying57,keyTK,Bool.true_and] at h
 split at h
 ·rename_i hf
  have hs:∃ n,Tryz.prog.types.size+1=n+2:=⟨Tryz.prog.types.size - 1,by
   have:1≤Tryz.prog.types.size:=of_decide_eq_true (by kernel_rfl)
   omega⟩
  obtain ⟨n,hn⟩:=hs
  rw [hn] at h
  cases v <;> simp [Value.formed,Tryz.underlying57,cellsK] at hf
  rename_i cs
  obtain ⟨cs⟩:=cs
  match cs,hf with
  | [a,b],_ =>
   simp only [Option.map_eq_some_iff] at h
   obtain ⟨ls,hl,_⟩:=h
   simp [Program.keyLits,Value.cells,Tryz.underlying57,Tryz.underlying42,cellsK,cellsAK] at hl
   cases a with
   | int qa x =>
    by_cases hqa:qa=.u32∧(Lit.int qa x).wf=true
    ·cases b with
     | int qb y =>
      by_cases hqb:qb=.u32∧(Lit.int qb y).wf=true
      ·exact ⟨(x,y),by rw [hqa.1,hqb.1];rfl,wf_u32 (by rw [← hqa.1];exact hqa.2),wf_u32 (by rw [← hqb.1];exact hqb.2)⟩
      ·simp only [if_neg (show ¬ (qb=.u32∧(Lit.int .u32 y).wf=true) from fun h=>hqb ⟨h.1,by rw [h.1];exact h.2⟩)] at hl
       cases h1:(if qa=.u32∧(Lit.int .u32 x).wf=true then some [Lit.int .u32 x] else none) <;> simp [h1] at hl
     | _=>cases h1:(if qa=.u32∧(Lit.int .u32 x).wf=true then some [Lit.int .u32 x] else none) <;> simp [h1] at hl
    ·simp only [if_neg (show ¬ (qa=.u32∧(Lit.int .u32 x).wf=true) from fun h=>hqa ⟨h.1,by rw [h.1];exact h.2⟩)] at hl
     simp at hl
   | _=>simp at hl
 ·cases h
def AllMetK (D0:DataW Unit) (ss:List (Int × Int)):Prop:=∃ left,Met Tryz.prog 57 kv D0 left ss∧∀ kl,left kl=false
set_option maxRecDepth 100000 in
set_option maxHeartbeats 1000000 in
theorem keys1_inK (F:Fence) (n:Nat) (h10:F.fn 240) (hro:F.round=none) (hn:1≤n) (l Bm b nn:Nat) (D0:DataW Unit) (J Jx:List (Int × Int)→World→Prop)
  (hY:∀ pre x W,J pre W→pre.length<Maps.size D0→YieldAt F (n - 1) Tryz.prog l #[kv x] W fun e W'=>(e=.returned (.bool true)∧J (pre ++ [x]) W'∧KeepsWalks W W')∨(e=.returned (.bool false)∧Jx (pre ++ [x]) W'))
  (W:World) (hJ:AbidesFrom W.heap.size J) (hm:W.cell? ⟨Bm,0,none⟩=some (.map (some b))) (hown:W.ownsMap Tryz.prog 57 (plainElem (H:=Unit) Tryz.prog 3) b nn D0) (h0:J [] W) :
  CallsIn F n Tryz.prog 240 #[.func (.yield l) #[] #[],.pointer (some ⟨Bm,0,none⟩)] W fun e W'=>(∃ v,e=.returned v)∧((∃ ss:List (Int × Int),AllMetK D0 ss∧J ss W')∨(∃ pre:List (Int × Int),True∧Jx pre W')):=by
 refine callsIn_of_wp Tryz.func240 rfl h10 ?_ hro
 simp only [Tryz.ntmps240,List.size_toArray,List.length_cons,List.length_nil,Nat.reduceAdd,Nat.reduceSub,Array.replicate_succ,Array.replicate_zero,List.push_toArray,List.append_toArray,List.nil_append,List.cons_append]
 gi_wp2_with (first
  | (gi_at_range;refine wpListIn_range_own _ rfl _ 259 rfl 57 3 keyedPK Tryz.underlying259 _ b nn _ rfl hown ?_;intro w0 hrg0 hg0 hs0)
  | gi_in)
 go_frame
 gi_loopw [3] (fun _ wr=>∃ (left:Lit→Bool) (cnt:Nat) (ss:List (Int × Int)),wr.ranges Tryz.prog 57 (plainElem (H:=Unit) Tryz.prog 3) b W.heap.size nn D0 left cnt∧ss.length+cnt≤Maps.size D0∧Met Tryz.prog 57 kv D0 left ss∧J ss wr)
  (fun _ wr=>wr.rangeLeft b W.heap.size)
 case atStart =>
  exact ⟨_,_,[],hrg0,by simp,Met.start,hJ [] W w0 none h0 hg0 (fun r e=>by cases e)⟩
 case round =>
  obtain ⟨left,cnt,ss,hrg,hcs,hC,hJs⟩:=hrel
  gi_wp2_with (first
   | (gi_at_next;refine wpListIn_next_ranges _ rfl _ rfl 57 keyedPK (plainElem (H:=Unit) Tryz.prog 3) kv id (fun key kl hk=>(key_kv hk).imp fun _ h=>h.1) (fun v _ _=>⟨v,rfl⟩) b W.heap.size nn _ _ _ rfl hrg ?_ ?_)
   | gi_in)
  ·intro hc0 hl0
   gi_wp2
   go_end0
   exact ⟨⟨_,rfl⟩,.inl ⟨ss,⟨_,hC,hl0⟩,hJs⟩⟩
  ·intro x1 x2 c kl yd yp w2 cnt2 hkey hlk hv hat hrg2 hlt hg2 hs2 hen
   have hJ2:J ss w2:=hJ ss wr w2 (some W.heap.size) hJs hg2 (fun r e=>by cases e;exact ⟨Nat.le_refl _,hrg.iter_walk⟩)
   have hJ3:J ss (w2.alloc (.cells #[.int .u32 x1,.int .u32 x2] 57)):=hJ ss w2 _ none hJ2 (World.grownBy_alloc _ _ _) (fun r e=>by cases e)
   have hrg3:=hrg2.of_walks (KeepsWalks.alloc w2 (.cells #[.int .u32 x1,.int .u32 x2] 57))
   have hC3:=hC.step keyedPK kv_inj' hkey hlk hat
   obtain ⟨fn,tmps,assign,body,hy,hR⟩:=hY ss (x1,x2) _ hJ3 (by omega)
   have hyy:(Instr.yield l #[.agg #[.int .u32 x1,.int .u32 x2]]).run Tryz.prog (w2.alloc (.cells #[.int .u32 x1,.int .u32 x2] 57))=_:=hy
   clear hs2 hy
   unfold kv at hen
   gi_wp2
   refine hR.mono ?_
   rintro e W3 (⟨rfl,hJ4,hk3⟩ | ⟨rfl,hJx3⟩)
   ·gi_wp2
    have hrg4:=hrg3.of_walks hk3
    go_roundw
    case rel=>exact ⟨_,cnt2,ss ++ [(x1,x2)],hrg4,by simp;omega,hC3,hJ4⟩
    case measure=>rw [hrg4.left_eq,hrg.left_eq];exact hlt
   ·gi_wp2
    refine bodyPost_ret (results_none rfl _ _ _) rfl ?_
    exact ⟨⟨_,rfl⟩,.inr ⟨_,trivial,hJx3⟩⟩
set_option maxHeartbeats 1000000 in
theorem keys_inK (F:Fence) (n:Nat) (h7:F.fn 197) (hro:F.round=none) (mb:Option Nat) (w:World) :
  CallsIn F n Tryz.prog 197 #[.map mb] w fun e w'=>e=.returned (.func (.func 240) #[] #[.pointer (some ⟨w.heap.size,0,none⟩)])∧w'=w.alloc (.cells #[.map mb] 259):=by
 refine callsIn_of_wp Tryz.func197 rfl h7 ?_ hro
 simp only [Tryz.ntmps197,List.size_toArray,List.length_cons,List.length_nil,Nat.reduceAdd,Nat.reduceSub,Array.replicate_succ,Array.replicate_zero,List.push_toArray,List.append_toArray,List.nil_append,List.cons_append]
 gi_wp2
 go_ret
 exact ⟨rfl,rfl⟩
theorem keys_stopsK (F:Fence) (n:Nat) (h10:F.fn 240) (hro:F.round=none) (hn:1≤n) (Bm b nn:Nat) (D0:DataW Unit) (w:World) (hBm:Bm<w.heap.size)
  (hm:w.cell? ⟨Bm,0,none⟩=some (.map (some b))) (hown:w.ownsMap Tryz.prog 57 (plainElem (H:=Unit) Tryz.prog 3) b nn D0) :
  SeqStopsK F n Tryz.prog 240 #[.pointer (some ⟨Bm,0,none⟩)] (fun x:(Int × Int)=>#[kv x]) KeepsWalks (AllMetK D0) (fun _=>True) (Maps.size D0) w:=fun l J Jx W hW hJ _ hY h0=>by
 have hown':W.ownsMap Tryz.prog 57 (plainElem (H:=Unit) Tryz.prog 3) b nn D0:=by
  have hbl:=hown.lt
  obtain ⟨es,clock,hb,Ft,hs,hD⟩:=hown
  exact ⟨es,clock,(hW.block b hbl).trans hb,Ft,hs,hD⟩
 exact keys1_inK F n h10 hro hn l Bm b nn D0 J Jx hY W hJ ((hW.cell (p:=⟨Bm,0,none⟩) hBm).trans hm) hown' h0
attribute [local go_sem] Oper.semAt_some
theorem info_pfK:(Tryz.prog.info? 57).map (fun i=>(i.zero,i.size,i.bytes))=some (some (.agg #[.int .u32 0,.int .u32 0]),2,8):=by kernel_rfl
def PFK (l:List (Int × Int)):List Value:=(l.map fun p=>[Value.int .u32 p.1,.int .u32 p.2]).flatten
theorem PF_appK (l m:List (Int × Int)):PFK (l ++ m)=PFK l ++ PFK m:=by simp [PFK]
theorem PF_oneK (l:List (Int × Int)):∀ u ∈ PFK l,u.oneCell'=true:=by
 intro u hu
 unfold PFK at hu
 obtain ⟨m,hm,hu⟩:=List.mem_flatten.1 hu
 obtain ⟨p,_,rfl⟩:=List.mem_map.1 hm
 simp at hu
 rcases hu with rfl | rfl <;> rfl
def ApActK (w0:World) (sv:Value) (B:Nat) (x:(Int × Int)) (a:Act) (W:World):Prop :=
 ∃ Bx,w0.heap.size<Bx∧Blk W Bx 57 #[.int .u32 x.1,.int .u32 x.2] ∧
  a={ tmps:=#[.slice none 0 0,sv,.pointer (some ⟨B,0,none⟩),undef,.slice none 0 0,.pointer (some ⟨Bx,0,none⟩),sv,.agg #[.int .u32 x.1,.int .u32 x.2],undef,undef,undef,undef,undef],defers:=[] }
set_option maxRecDepth 100000 in
set_option maxHeartbeats 2000000 in
theorem appendSeq_inK (F:Fence) (n:Nat) (h11:F.fn 192) (hro:F.round=none) (hn:2≤n) (g:Nat) (lb:Array Value) (hFg:F.fn g) (eg:∀ args w,(callFunc g args).run Tryz.prog w=.ok (.enter g args) w)
  (S Sp:List (Int × Int)→Prop) (N:Nat) (hN:N≤1000000) (w w0:World) (hb0:Below w0.heap.size w0 w) (hseq:SeqStopsK F (n - 1) Tryz.prog g lb (fun x:(Int × Int)=>#[kv x]) KeepsWalks S Sp N w0) :
  CallsIn F n Tryz.prog 192 #[.slice none 0 0,.func (.func g) #[] lb] w fun e w'=>∃ (v:Value) (ss:List (Int × Int)),e=.returned v∧S ss∧w'.ownsRow w.heap.size 57 2 v ss.length (PFK ss)∧Below w.heap.size w w':=by
 have h1:1≤n:=by omega
 obtain ⟨i0,hi,hz0,hz1,hz2⟩:=info_parts info_pfK
 refine callsIn_of_wp_marks Tryz.func192 rfl h11 ?_ hro
 simp only [Tryz.ntmps192,List.size_toArray,List.length_cons,List.length_nil,Nat.reduceAdd,Nat.reduceSub,Array.replicate_succ,Array.replicate_zero,List.push_toArray,List.append_toArray,List.nil_append,List.cons_append]
 gi_wp2
 have bB:=Boxed.new w 152 (.slice none 0 0)
 have hB1:Below w.heap.size w (w.alloc (.cells #[.slice none 0 0] 152)):=(Below.refl _ w).alloc (Nat.le_refl _) _
 have hsz:(w.alloc (.cells #[.slice none 0 0] 152)).heap.size=w.heap.size+1:=by simp
 have hb01:Below w0.heap.size w0 (w.alloc (.cells #[.slice none 0 0] 152)):=hb0.trans (hB1.mono hb0.size)
 generalize w.alloc (.cells #[.slice none 0 0] 152)=W0 at bB hB1 hsz hb01 ⊢
 refine wpIn_rangeFunc_ownH hro h1 (gf:=g) (lb:=lb) rfl hFg eg hseq walksK_t walksK_b hb01 (fun _=>rfl)
  (fun pre W=>(∃ v,Boxed W w.heap.size 152 v∧W.ownsRow w.heap.size 57 2 v pre.length (PFK pre)∧True)∧Below w.heap.size w W)
  (fun _ _ _=>False)
  (OwnFrom.and (Own.from (holdsRow_own w.heap.size w.heap.size 152 57 2 (fun pre:List (Int × Int)=>pre.length) (fun pre=>PFK pre) (fun _ _=>True)) _) (ownFrom_below (Nat.le_refl _) (by omega)))
  (fun _ _ _ _ _ h _ _=>h) ⟨⟨_,bB,World.ownsRow_nil _ _ _ _,trivial⟩,hB1⟩ (ApActK w (.func (.func g) #[] lb) w.heap.size) ?_ ?assign ?body ?done ?stop
 ·rintro x a' u A B row ⟨Bx,h1x,h2x,h3x⟩ hg hr
  refine ⟨Bx,h1x,(hg.block Bx h2x.lt (fun e=>?_)).trans h2x,h3x⟩
  obtain ⟨_,o,ho,hc⟩:=hr Bx e.symm
  rw [show A.heap[Bx]?=_ from h2x] at ho
  cases ho;cases hc
 case assign =>
  rintro l pre ⟨x1,x2⟩ W K ⟨⟨v,hv,hr,_⟩,hB⟩ hK
  have hpv:kv (x1,x2)=.agg #[.int .u32 x1,.int .u32 x2]:=rfl
  simp only [hpv]
  have hf:Hid (Blk (W.alloc (.cells #[.int .u32 x1,.int .u32 x2] 57)) W.heap.size 57 #[.int .u32 x1,.int .u32 x2]):=Lib.hid (Blk.new _ _ _)
  clear hpv
  gi_wp2
  refine hK _ _ ((KeepsOthers.alloc _ _).from _) (KeepsWalks.alloc _ _) ⟨⟨v,hv.alloc _,hr.alloc _,trivial⟩,hB.alloc hB.size _⟩ ⟨W.heap.size,by have:=hv.lt;omega,hf.out,rfl⟩
 case body =>
  rintro l pre ⟨x1,x2⟩ a' W hl ⟨r,hr⟩ ⟨⟨v,hv,hrow,_⟩,hB⟩ ⟨Bx,hBx,bX,rfl⟩ hlt
  have c0:=hv.cell
  have d0:W.cell? ⟨Bx,0,none⟩=some (.int .u32 x1):=by simpa using bX.cell 0
  have d1:W.cell? ⟨Bx,1,none⟩=some (.int .u32 x2):=by simpa using bX.cell 1
  have e0:=hv.lt
  have e1:=bX.lt
  gi_wp2_with (first
   | (gi_at_builtin;refine wpListIn_append_own _ rfl _ _ 152 rfl w.heap.size 57 i0 _ 2 8 Tryz.underlying152 hi hz0 hz1 hz2 rfl (by decide) _ _ _ rfl (hrow.alloc _) ⟨W.heap.size,0,none⟩ 1 1 (PFK [(x1,x2)]) rfl rfl (fun j u hj=>by
     match j,hj with
     | 0,hj=>simp [PFK] at hj;subst hj;go_simp
     | 1,hj=>simp [PFK] at hj;subst hj;go_simp
     | j+2,hj=>simp [PFK] at hj) (PF_oneK _) (by unfold maxLen;omega) (by omega) (by have:=hB.size;simp;omega) ?_;intro v' w1 hown' hgrow _;obtain ⟨g',cap',rfl⟩:=ownsRow_succ hown';obtain ⟨hv1,hv2,hr2,hk2,hb2⟩:=hv.appended (by decide) hrow hB.size (Nat.le_refl _) hown' hgrow;have hc1:=hv1.cell;have hf1:=hv1.frozen)
   | gi_in)
  refine ⟨hk2.from _,hk2.walks,⟨⟨_,hv2,?_⟩,hB.trans hb2⟩⟩
  rw [PF_appK,List.length_append]
  exact hr2
 case done =>
  rintro D xs W hD hS ⟨⟨v,hv,hrow,_⟩,hB⟩ hK
  have c0:=hv.cell
  gi_wp2
  refine ⟨by simp,.inl ⟨_,_,rfl,run_takeDeferred hK,?_⟩⟩
  exact ⟨_,results_tmp rfl _ _ _,v,xs,rfl,hS,ownsRow_putObj hrow _ hK rfl,hB.trans (belowK_b (w:=w) (Nat.le_refl _) W D _ _ (by omega) hK rfl rfl)⟩
 case stop =>
  rintro D c pre W _ _ hF
  exact hF.elim
set_option maxHeartbeats 1000000 in
theorem collect_inK (F:Fence) (n:Nat) (h8:F.fn 122) (h11:F.fn 192) (hro:F.round=none) (hn:3≤n) (g:Nat) (lb:Array Value) (hFg:F.fn g) (eg:∀ args w,(callFunc g args).run Tryz.prog w=.ok (.enter g args) w)
  (S Sp:List (Int × Int)→Prop) (N:Nat) (hN:N≤1000000) (w w0:World) (hb0:Below w0.heap.size w0 w) (hseq:SeqStopsK F (n - 1 - 1) Tryz.prog g lb (fun x:(Int × Int)=>#[kv x]) KeepsWalks S Sp N w0) :
  CallsIn F n Tryz.prog 122 #[.func (.func g) #[] lb] w fun e w'=>∃ (v:Value) (ss:List (Int × Int)),e=.returned v∧S ss∧w'.ownsRow w.heap.size 57 2 v ss.length (PFK ss)∧Below w.heap.size w w':=by
 have h1:1≤n:=by omega
 refine callsIn_of_wp Tryz.func122 rfl h8 ?_ hro
 simp only [Tryz.ntmps122,List.size_toArray,List.length_cons,List.length_nil,Nat.reduceAdd,Nat.reduceSub,Array.replicate_succ,Array.replicate_zero,List.push_toArray,List.append_toArray,List.nil_append,List.cons_append]
 gi_wp2_with (gi_at_call 192;refine (appendSeq_inK F (n - 1) h11 hro (by omega) g lb hFg eg S Sp N hN _ w0 hb0 hseq).mono ?_;rintro e w' ⟨v,ss,rfl,hS,hrow,hb⟩)
 go_ret
 exact ⟨v,ss,rfl,hS,hrow,hb⟩
end Go.Proofs.YtfidicbknjoafaaGreatDoor
namespace Go.Proofs.YtfidicbknjoafaaGreatDoor
open Go.RowKit
def Gr (w w':World):Prop:=∃ (q:Nat) (os:Array Obj),w'=Sort.grow (w.drewN q) os
section
variable {w w' w2:World}
theorem Gr.refl (w:World):Gr w w:=⟨0,#[],by simp [World.drewN]⟩
theorem Gr.drew (h:Gr w w'):Gr w w'.drew:=by
 obtain ⟨q,os,rfl⟩:=h
 exact ⟨q+1,os,rfl⟩
theorem Gr.drewN (h:Gr w w') (n:Nat):Gr w (w'.drewN n):=by
 obtain ⟨q,os,rfl⟩:=h
 exact ⟨q+n,os,by simp [Sort.grow,World.drewN,Nat.add_assoc]⟩
theorem Gr.alloc (h:Gr w w') (o:Obj):Gr w (w'.alloc o):=by
 obtain ⟨q,os,rfl⟩:=h
 exact ⟨q,os.push o,by simp [Sort.grow,World.drewN,World.alloc]⟩
theorem Gr.below (h:Gr w w'):Below w.heap.size w w':=by
 obtain ⟨q,os,rfl⟩:=h
 exact below_grow w q os
theorem Gr.cell (h:Gr w w') {p:Addr} (hp:p.block<w.heap.size):w'.cell? p=w.cell? p:=h.below.cell hp
theorem Gr.trans (h:Gr w w') (g:Gr w' w2):Gr w w2:=by
 obtain ⟨q,os,rfl⟩:=h
 obtain ⟨q2,os2,rfl⟩:=g
 exact ⟨q+q2,os ++ os2,by simp [Sort.grow,World.drewN,Array.append_assoc,Nat.add_assoc]⟩
end
def cmpI (a b:Int):Int:=if a<b then -1 else if b<a then 1 else 0
theorem cmpI_lt {a b:Int} (h:a<b):cmpI a b=-1:=by unfold cmpI;rw [if_pos h]
theorem cmpI_gt {a b:Int} (h:b<a):cmpI a b=1:=by unfold cmpI;rw [if_neg (by omega),if_pos h]
theorem cmpI_eq {a b:Int} (h:a=b):cmpI a b=0:=by unfold cmpI;rw [if_neg (by omega),if_neg (by omega)]
theorem nan_addr (a:Int) (w:World):Calls Tryz.prog 258 #[.int .u32 a] w fun e w'=>e=.returned (.bool false)∧w=w':=by
 have h:(a != a)=false:=by simp
 go_enter Tryz.func258,Tryz.ntmps258
 go_wp2
 go_ret
 exact ⟨rfl,rfl⟩
theorem cmp_addr (a b:Int) (w:World):Calls Tryz.prog 242 #[.int .u32 a,.int .u32 b] w fun e w'=>e=.returned (.int .i64 (cmpI a b))∧w=w':=by
 rcases Int.lt_trichotomy a b with h | h | h
 ·go_enter Tryz.func242,Tryz.ntmps242
  go_wp2_with (go_at_call 258;refine (nan_addr _ _).mono ?_;rintro e w' ⟨rfl,rfl⟩)
  go_ret
  exact ⟨ret_int (cmpI_lt h).symm,rfl⟩
 ·subst h
  go_enter Tryz.func242,Tryz.ntmps242
  go_wp2_with (go_at_call 258;refine (nan_addr _ _).mono ?_;rintro e w' ⟨rfl,rfl⟩)
  go_ret
  exact ⟨ret_int (cmpI_eq rfl).symm,rfl⟩
 ·have h2:¬ a<b:=by omega
  go_enter Tryz.func242,Tryz.ntmps242
  go_wp2_with (go_at_call 258;refine (nan_addr _ _).mono ?_;rintro e w' ⟨rfl,rfl⟩)
  go_ret
  exact ⟨ret_int (cmpI_gt h).symm,rfl⟩
def orI (x y:Int):Int:=if x=0 then y else x
theorem or_two (g c:Nat) (x y:Int) (w:World) (h0:w.cell? ⟨g,0,none⟩=some (.int .i64 x)) (h1:w.cell? ⟨g,1,none⟩=some (.int .i64 y)) :
  Calls Tryz.prog 241 #[.slice (some ⟨g,0,none⟩) 2 c] w fun e w'=>e=.returned (.int .i64 (orI x y))∧w=w':=by
 go_enter Tryz.func241,Tryz.ntmps241
 go_wp2_with fail
 go_loop [8] (fun i=>∃ k:Nat,k≤2∧i=.int .i64 k∧(0<k→x=0)∧(1<k→y=0)) (fun i=>2 - (intOf i).toNat)
 case atStart=>exact ⟨0,by omega,rfl,by omega,by omega⟩
 case round =>
  obtain ⟨k,hk,rfl,hx,hy⟩:=hrel
  match k,hk with
  | 0,_ =>
   clear hx hy
   by_cases h:x=0
   ·subst h
    go_wp2
    go_round
    case rel=>exact ⟨1,by omega,rfl,by simp,by simp⟩
    case measure=>simp [intOf]
   ·have hn:(x != 0)=true:=by simpa using h
    have HE:Hid (orI x y=x):=Lib.hid (by unfold orI;rw [if_neg h])
    clear h
    go_wp2
    go_ret
    exact ⟨ret_int HE.out.symm,rfl⟩
  | 1,_ =>
   have HX:=Lib.hid (hx (by omega))
   clear hx hy
   by_cases h:y=0
   ·subst h
    go_wp2
    go_round
    case rel=>exact ⟨2,by omega,rfl,by simp [HX.out],by simp⟩
    case measure=>simp [intOf]
   ·have hn:(y != 0)=true:=by simpa using h
    have HE:Hid (orI x y=y):=Lib.hid (by unfold orI;rw [if_pos HX.out])
    clear h
    go_wp2
    go_ret
    exact ⟨ret_int HE.out.symm,rfl⟩
  | 2,_ =>
   have HE:Hid (orI x y=0):=Lib.hid (by unfold orI;rw [if_pos (hx (by omega)),hy (by omega)])
   clear hx hy
   go_wp2
   go_ret
   exact ⟨ret_int HE.out.symm,rfl⟩
end Go.Proofs.YtfidicbknjoafaaGreatDoor
namespace Go.Proofs.YtfidicbknjoafaaGreatDoor
open Go.RowKit
def ordPK (p q:Int × Int):Int:=orI (cmpI p.2 q.2) (cmpI p.1 q.1)
set_option maxHeartbeats 1000000 in
theorem korder_any (a b c d:Int) (w:World):Calls Tryz.prog 199 #[.agg #[.int .u32 a,.int .u32 b],.agg #[.int .u32 c,.int .u32 d]] w fun e w'=>e=.returned (.int .i64 (ordPK (a,b) (c,d)))∧Gr w w':=by
 have hG:=((Gr.refl w).alloc (.cells #[.int .u32 a,.int .u32 b] 57)).alloc (.cells #[.int .u32 c,.int .u32 d] 57)
 have hz:((w.alloc (.cells #[.int .u32 a,.int .u32 b] 57)).alloc (.cells #[.int .u32 c,.int .u32 d] 57)).heap.size=w.heap.size+2:=by simp
 have d0:∀ W,Gr ((w.alloc (.cells #[.int .u32 a,.int .u32 b] 57)).alloc (.cells #[.int .u32 c,.int .u32 d] 57)) W→W.cell? ⟨w.heap.size,0,none⟩=some (.int .u32 a):=fun W hW=>(hW.cell (by first | (simp;done) | (simp;omega))).trans (by go_simp)
 have d1:∀ W,Gr ((w.alloc (.cells #[.int .u32 a,.int .u32 b] 57)).alloc (.cells #[.int .u32 c,.int .u32 d] 57)) W→W.cell? ⟨w.heap.size,1,none⟩=some (.int .u32 b):=fun W hW=>(hW.cell (by first | (simp;done) | (simp;omega))).trans (by go_simp)
 have d2:∀ W,Gr ((w.alloc (.cells #[.int .u32 a,.int .u32 b] 57)).alloc (.cells #[.int .u32 c,.int .u32 d] 57)) W→W.cell? ⟨w.heap.size+1,0,none⟩=some (.int .u32 c):=fun W hW=>(hW.cell (by first | (simp;done) | (simp;omega))).trans (by go_simp)
 have d3:∀ W,Gr ((w.alloc (.cells #[.int .u32 a,.int .u32 b] 57)).alloc (.cells #[.int .u32 c,.int .u32 d] 57)) W→W.cell? ⟨w.heap.size+1,1,none⟩=some (.int .u32 d):=fun W hW=>(hW.cell (by first | (simp;done) | (simp;omega))).trans (by go_simp)
 go_enter Tryz.func199,Tryz.ntmps199
 go_wp2_with fail
 generalize (w.alloc (.cells #[.int .u32 a,.int .u32 b] 57)).alloc (.cells #[.int .u32 c,.int .u32 d] 57)=w1 at *
 have hS:=Gr.refl w1
 have e0:∀ u v t,(w1.alloc (.cells #[u,v] t)).drew.cell? ⟨w.heap.size+2,0,none⟩=some u:=fun u v t=>by rw [← hz];go_simp
 have e1:∀ u v t,(w1.alloc (.cells #[u,v] t)).drew.cell? ⟨w.heap.size+2,1,none⟩=some v:=fun u v t=>by rw [← hz];go_simp
 go_region_held3 (fun W=>Gr w1 W) (first | exact hS.drew | with_reducible assumption | exact Gr.alloc (by with_reducible assumption) _ | exact (Gr.alloc (by with_reducible assumption) _).drew)
  (first
  | (go_at_call 242;refine (cmp_addr _ _ _).mono ?_;rintro e w2 ⟨rfl,rfl⟩)
  | (go_at_call 241;refine (or_two _ _ _ _ _ (e0 _ _ _) (e1 _ _ _)).mono ?_;rintro e w2 ⟨rfl,rfl⟩))
 go_wp2
 all_goals
  go_ret
  refine ⟨rfl,hG.trans ?_⟩
  with_reducible assumption
end Go.Proofs.YtfidicbknjoafaaGreatDoor
