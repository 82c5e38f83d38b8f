/- slices. -/
import Derived.Test.YtfidicbknjoafaaGreatDoorQKit
import Derived.Test.YtfidicbknjoafaaGreatDoorQOn
import Derived.Test.YtfidicbknjoafaaGreatDoorQCf
import Derived.Test.YtfidicbknjoafaaGreatDoorQShelf
import Derived.Test.YtfidicbknjoafaaGreatDoorQRb
import Derived.Handy
import Derived.Deep.Cut
import Derived.Deep.RegionHeld3
namespace Go.Proofs.YtfidicbknjoafaaGreatDoor
open Go.RowKit Lx Sm
set_option maxHeartbeats 2000000 in
theorem ixof_any (A:Option Addr) (n c:Nat) (xs:List Int) (v:Int) (w:World) (hj:JR w A n xs) (hn:n≤1000000) :
  Calls Tryz.prog 113 #[.slice A n c,.int .i64 v] w fun e w'=>e=.returned (.int .i64 (idxI (fun x=>v==x) xs))∧Below w.heap.size w w':=by
 have HJ:=Lib.hid hj
 have HL:=Lib.hid hj.1
 have hB0:=Lib.hid (Below.refl w.heap.size w)
 clear hj
 go_enter Tryz.func113,Tryz.ntmps113
 go_wp2
 go_loopw [8] (fun i wr=>∃k:Nat,k≤n∧i=.int .i64 k∧Hid (∀ (j:Nat) x,j<k→xs[j]?=some x→(v==x)=false)∧Hid (Below w.heap.size w wr)) (fun i _=>n - (intOf i).toNat)
 case atStart=>exact⟨0,Nat.zero_le _,rfl,Lib.hid (fun j x hj=>absurd hj (Nat.not_lt_zero _)),hB0⟩
 case round =>
  obtain⟨k,hk,rfl,hno,hbw⟩:=hrel
  rcases Nat.lt_or_ge k n with hlt|hge
  ·obtain⟨bq,oq,rfl,hb,hc⟩:=(HJ.out.next hbw.out).at_ hlt
   have hi0:(k:Int)<(n:Int):=by omega
   have HX:Hid (xs[k]?=some (xs.getD k 0)):=Lib.hid (by
    rw[List.getElem?_eq_getElem (by have:=HL.out;omega)]
    simp[List.getD,show k<xs.length by have:=HL.out;omega])
   generalize xs.getD k 0=y at *
   by_cases hv:v=y
   ·have hv2:(v==y)=true:=by simpa using hv
    have HQ:=Lib.hid hv2
    clear hv
    go_wp2
    go_ret
    refine⟨ret_int ?_,hbw.out⟩
    rw[idxI_hit xs k y HX.out HQ.out hno.out]
   ·have hv2:(v==y)=false:=by simpa using hv
    have HQ:=Lib.hid hv2
    clear hv
    go_wp2
    go_roundw
    case rel=>exact⟨k+1,by omega,by go_num,(show Hid _ from fun j z hj hz=>by
      by_cases e:j=k
      ·subst e;rw[HX.out]at hz;injection hz with hz;rw[←hz];exact HQ.out
      ·exact hno.out j z (by omega) hz),hbw⟩
    case measure=>simp[intOf];omega
  ·obtain rfl:k=n:=by omega
   have hi0:¬ ((k:Int)<(k:Int)):=by omega
   go_wp2
   go_ret
   refine⟨ret_int ?_,hbw.out⟩
   rw[idxI_none xs (fun j x hx=>hno.out j x (by have:=(List.getElem?_eq_some_iff.1 hx).1;have:=HL.out;omega) hx)]
theorem has_any (A:Option Addr) (n c:Nat) (xs:List Int) (v:Int) (w:World) (hj:JR w A n xs) (hn:n≤1000000) :
  Calls Tryz.prog 59 #[.slice A n c,.int .i64 v] w fun e w'=>e=.returned (.bool (xs.any (fun x=>v==x)))∧Below w.heap.size w w':=by
 have HI:=Lib.hid (ixof_any A n c xs v w hj hn)
 have HB:=Lib.hid (idxI_any (p:=fun x=>v==x) xs)
 generalize idxI (fun x=>v==x) xs=I at *
 rw[←HB.out]
 clear hj
 go_enter Tryz.func59,Tryz.ntmps59
 go_wp2_with (go_at_call 113;refine HI.out.mono ?_;rintro e w1 ⟨rfl,hb⟩;have HB1:=Lib.hid hb;clear hb)
 go_ret
 exact⟨rfl,HB1.out⟩
set_option maxHeartbeats 2000000 in
theorem or2_any (a b:Int) (g:Nat) (t:TypeId) (w:World) (hb:Blk w g t #[.int .u32 a,.int .u32 b]) :
  Calls Tryz.prog 61 #[.slice (some ⟨g,0,none⟩) 2 2] w fun e w'=>e=.returned (.int .u32 (if a=0 then b else a))∧Below w.heap.size w w':=by
 have c0:w.cell? ⟨g,0,none⟩=some (.int .u32 a):=hb.cell 0
 have c1:w.cell? ⟨g,1,none⟩=some (.int .u32 b):=hb.cell 1
 clear hb
 by_cases ha:a=0
 ·subst ha
  rw[if_pos rfl]
  by_cases hb0:b=0
  ·subst hb0
   go_enter Tryz.func61,Tryz.ntmps61
   go_wp2
   go_rounds 3
   go_ret
   exact⟨rfl,Below.refl _ _⟩
  ·have e1:(b != 0)=true:=by simpa using hb0
   go_enter Tryz.func61,Tryz.ntmps61
   go_wp2
   go_rounds 3
   go_ret
   exact⟨rfl,Below.refl _ _⟩
 ·rw[if_neg ha]
  have e1:(a != 0)=true:=by simpa using ha
  go_enter Tryz.func61,Tryz.ntmps61
  go_wp2
  go_rounds 3
  go_ret
  exact⟨rfl,Below.refl _ _⟩
end Go.Proofs.YtfidicbknjoafaaGreatDoor
namespace Go.Proofs.YtfidicbknjoafaaGreatDoor
open Go.RowKit Lx Sm
theorem few {L:List Int} {b:Nat} (hn:L.Nodup) (hb:∀x∈L,0≤x∧x<(b:Int)):L.length≤b:=by
 have h1:(L.map Int.toNat).Nodup:=by
  unfold List.Nodup
  rw[List.pairwise_map]
  refine List.Pairwise.imp_of_mem ?_ hn
  intro x y hx hy hne e
  have:=hb x hx
  have:=hb y hy
  omega
 have h2:=len_le (r:=List.range b) h1 (fun i hi=>by
  obtain⟨x,hx,rfl⟩:=List.mem_map.1 hi
  have:=hb x hx
  exact List.mem_range.2 (by omega))
 simpa using h2
def lenOf:Value→Nat
 | .slice _ n _=>n
 | _=>0
end Go.Proofs.YtfidicbknjoafaaGreatDoor
namespace Go.Proofs.YtfidicbknjoafaaGreatDoor
open Go.RowKit Lx Sm Go.Maps
def upN (x:Cfg) (r l a:Int):Int:=match lastAt a x.ps x.ps.length with
 | some o=>if (oth x.ps r l).any (fun y=>((o:Nat):Int)==y)=true then (o:Int) else -1
 | none=>-1
def mine (x:Cfg) (r a:Int):Bool:=match lastAt a x.ps x.ps.length with
 | some o=>(portsOf x r).any (fun y=>((o:Nat):Int)==y)
 | none=>false
def portAt (x:Cfg) (p:Int):Int × Int × Int:=(x.ps[p.toNat]?).getD (0,0,0)
def toA (x:Cfg) (r a:Int):(Int × Int × Int × Bool) × Bool :=
 if mine x r a=true then ((-1,-1,0,true),true)
 else if (lookA x r a).2=true then (((lookA x r a).1.1,upN x (portAt x (lookA x r a).1.1).1 (portAt x (lookA x r a).1.1).2.1 (if (lookA x r a).1.2.1=0 then a else (lookA x r a).1.2.1),(lookA x r a).1.2.2,decide ((lookA x r a).1.2.1=0)),true)
 else ((0,0,0,false),false)
theorem rlook_in {x:Cfg} {r:Int}:∀ (k:Nat) (a v c:Int) (q:Int × Int × Int),lookP x r k a v c=some q→q.1∈portsOf x r
 | 0,_,_,_,_,h=>by cases h
 | k+1,a,v,c,q,h=>by
  have key:∀p l,(nearP x r a).1=p :: l→p∈portsOf x r:=fun p l e=>by
   have hm:p∈(longP (preP x) a (portsOf x r) [] 0).1:=by
    have:(nearP x r a).1=(longP (preP x) a (portsOf x r) [] 0).1:=rfl
    rw[←this,e];exact List.mem_cons_self ..
   rcases longP_mem _ _ _ _ _ _ hm with h|h
   ·exact h
   ·cases h
  by_cases hf:(farP x r a).1=[]
  ·by_cases hn:(nearP x r a).1=[]∨(nearP x r a).2<(farP x r a).2
   ·rw[look_none hn hf]at h;cases h
   ·obtain⟨p,l,e⟩:∃p l,(nearP x r a).1=p :: l:=by
     cases hc:(nearP x r a).1 with
     | nil=>exact absurd (.inl hc) hn
     | cons p l=>exact⟨p,l,rfl⟩
    rw[look_near (nb:=(nearP x r a).2) (Prod.ext e rfl) (by have:=fun h=>hn (.inr h);omega)]at h
    cases h
    exact key p l e
  ·by_cases hn:(nearP x r a).1=[]∨(nearP x r a).2<(farP x r a).2
   ·rw[look_far hn hf]at h
    exact rlook_in k _ _ _ _ h
   ·obtain⟨p,l,e⟩:∃p l,(nearP x r a).1=p :: l:=by
     cases hc:(nearP x r a).1 with
     | nil=>exact absurd (.inl hc) hn
     | cons p l=>exact⟨p,l,rfl⟩
    rw[look_near (nb:=(nearP x r a).2) (Prod.ext e rfl) (by have:=fun h=>hn (.inr h);omega)]at h
    cases h
    exact key p l e
section
variable {b:Nat} {T:TP} {x:Cfg} {gs:List Int}
set_option maxHeartbeats 4000000 in
set_option maxRecDepth 100000 in
theorem otherAt_any (p lN:Nat) (r1 a1:Int) (hp:x.ps[p]?=some (r1,(lN:Int),a1)) (hlN:lN<x.ls.length) (a:Int) (ha:U32 a) (w:World) (h:TW w b T x gs) :
  Calls Tryz.prog 60 #[.pointer (some ⟨T.N,0,none⟩),.int .i64 (p:Int),.int .u32 a] w fun e w'=>e=.returned (.int .i64 (upN x r1 lN a))∧Below w.heap.size w w':=by
 have HTA:=Lib.hid (tat_any a ha w h)
 have HOT:=Lib.hid fun W (hW:Below w.heap.size w W)=>tothers_any p lN r1 a1 hp hlN W (h.next hW)
 have HOL:Hid ((oth x.ps r1 lN).length≤1000000):=Lib.hid (by
  have h1:(oth x.ps r1 lN).length≤(picks (fun y=>y.2.1==(lN:Int)) x.ps x.ps.length).length:=List.length_filter_le _ _
  have h2:=picks_len (fun y=>y.2.1==(lN:Int)) x.ps x.ps.length
  have:=h.net.oks.2.2.1.2;have:=h.net.len.2.2.1;omega)
 have HU:Hid (upN x r1 lN a=match lastAt a x.ps x.ps.length with
  | some o=>if (oth x.ps r1 lN).any (fun y=>((o:Nat):Int)==y)=true then (o:Int) else -1
  | none=>-1):=Lib.hid rfl
 rw[HU.out]
 clear h hp hlN
 generalize oth x.ps r1 lN=O at *
 cases hl:lastAt a x.ps x.ps.length with
 | none =>
  rw[hl]at HTA
  clear hl HU
  go_enter Tryz.func60,Tryz.ntmps60
  go_wp2_with (go_at_call 58;refine HTA.out.mono ?_;rintro e w1 ⟨rfl,hb1⟩;have HB1:=Lib.hid hb1;clear hb1)
  go_ret
  exact⟨rfl,HB1.out⟩
 | some o =>
  rw[hl]at HTA
  clear hl HU
  have HH:=Lib.hid fun A c W (hj:JR W A O.length O)=>has_any A O.length c O (o:Int) W hj HOL.out
  dsimp only
  cases ho:O.any (fun y=>((o:Nat):Int)==y) with
  | true =>
   rw[ho]at HH
   clear ho
   go_enter Tryz.func60,Tryz.ntmps60
   go_wp2_with (first
    | (go_at_call 58;refine HTA.out.mono ?_;rintro e w1 ⟨rfl,hb1⟩;have HB1:=Lib.hid hb1;clear hb1)
    | (go_at_call 114;refine (HOT.out _ HB1.out).mono ?_;rintro e w2 ⟨A2,c2,rfl,hj,hb2⟩;have HJ:=Lib.hid hj;have HB2:=Lib.hid (below_next HB1.out hb2);clear hj hb2)
    | (go_at_call 59;refine (HH.out _ _ _ HJ.out).mono ?_;rintro e w3 ⟨rfl,hb3⟩;have HB3:=Lib.hid (below_next HB2.out hb3);clear hb3))
   go_ret
   exact⟨rfl,HB3.out⟩
  | false =>
   rw[ho]at HH
   clear ho
   go_enter Tryz.func60,Tryz.ntmps60
   go_wp2_with (first
    | (go_at_call 58;refine HTA.out.mono ?_;rintro e w1 ⟨rfl,hb1⟩;have HB1:=Lib.hid hb1;clear hb1)
    | (go_at_call 114;refine (HOT.out _ HB1.out).mono ?_;rintro e w2 ⟨A2,c2,rfl,hj,hb2⟩;have HJ:=Lib.hid hj;have HB2:=Lib.hid (below_next HB1.out hb2);clear hj hb2)
    | (go_at_call 59;refine (HH.out _ _ _ HJ.out).mono ?_;rintro e w3 ⟨rfl,hb3⟩;have HB3:=Lib.hid (below_next HB2.out hb3);clear hb3))
   go_ret
   exact⟨rfl,HB3.out⟩
end
end Go.Proofs.YtfidicbknjoafaaGreatDoor
namespace Go.Proofs.YtfidicbknjoafaaGreatDoor
open Go.RowKit Lx Sm Go.Maps
theorem ret_to (tm:Array Value) (N:Nat) (W:World) (v0 v1 v2 v3 u:Value) (h2:tm.getD 6 undef=.pointer (some ⟨N,0,none⟩)) (h3:tm.getD 7 undef=u) (c0:W.cell? ⟨N,0,none⟩=some v0) (c1:W.cell? ⟨N,1,none⟩=some v1) (c2:W.cell? ⟨N,2,none⟩=some v2) (c3:W.cell? ⟨N,3,none⟩=some v3) :
  (results Tryz.f21 tm).run Tryz.prog W=.ok (.tuple #[.agg #[v0,v1,v2,v3],u]) W:=by
 have h2':tm[6]?.getD undef=.pointer (some ⟨N,0,none⟩):=by simpa using h2
 have h3':tm[7]?.getD undef=u:=by simpa using h3
 simp[results,Tryz.results21,go_sem,h2',h3',c0,c1,c2,c3]
theorem store4 {W:World} {N b:Nat} {t:TypeId} (hs:Slot W N t 4) (hN:b≤N) (w:World) (hB:Below b w W) (v0 v1 v2 v3:Value):∃W',W'=(((W.setCell ⟨N,0,none⟩ v0).setCell ⟨N,1,none⟩ v1).setCell ⟨N,2,none⟩ v2).setCell ⟨N,3,none⟩ v3∧Blk W' N t #[v0,v1,v2,v3]∧Below b w W'∧(∀g t' cs,g ≠ N→Blk W g t' cs→Blk W' g t' cs):=by
 obtain⟨cs,hz,hb⟩:=hs
 refine⟨_,rfl,?_,((((hB.setCell (by simpa using hN) v0).setCell (by simpa using hN) v1).setCell (by simpa using hN) v2).setCell (by simpa using hN) v3),fun g t' cs hn hg=>((((hg.far hn v0).far hn v1).far hn v2).far hn v3)⟩
 have h:=((((hb.set_ 0 v0).set_ 1 v1).set_ 2 v2).set_ 3 v3)
 have e:((((cs.setIfInBounds 0 v0).setIfInBounds 1 v1).setIfInBounds 2 v2).setIfInBounds 3 v3)=#[v0,v1,v2,v3]:=by
  apply Array.ext_getElem?
  intro i
  rcases i with _ | _ | _ | _|i <;> simp[hz]
 rw[e]at h
 exact h
theorem look_via {x:Cfg} {r:Int} (hu:∀y∈x.os,U32 y.2.2.2.1):∀ (k:Nat) (a v c:Int) (q:Int × Int × Int),U32 v→lookP x r k a v c=some q→U32 q.2.1
 | 0,_,_,_,_,_,h=>by cases h
 | k+1,a,v,c,q,hv,h=>by
  by_cases hn:(nearP x r a).1=[]∨(nearP x r a).2<(farP x r a).2
  ·by_cases hf:(farP x r a).1=[]
   ·rw[look_none hn hf]at h;cases h
   ·rw[look_far hn hf]at h
    refine look_via hu k _ _ _ _ ?_ h
    refine hu _ (cheap_in (by cases hc:(farP x r a).1 with|nil=>exact absurd hc hf|cons=>simp) (fun z hz=>?_))
    have hz2:z∈(longP (preO x) a (routesOf x r) [] 0).1:=hz
    rcases longP_mem _ _ _ _ _ _ hz2 with h|h
    ·exact routesOf_mem h
    ·cases h
  ·obtain⟨p,l,e⟩:∃p l,(nearP x r a).1=p :: l:=by
    cases hc:(nearP x r a).1 with
    | nil=>exact absurd (.inl hc) hn
    | cons p l=>exact⟨p,l,rfl⟩
   rw[look_near (nb:=(nearP x r a).2) (Prod.ext e rfl) (by have:=fun h=>hn (.inr h);omega)]at h
   cases h
   exact hv
section
variable {b:Nat} {T:TP} {x:Cfg} {gs:List Int}
set_option maxHeartbeats 8000000 in
set_option maxRecDepth 100000 in
theorem to_any (r a:Int) (ha:U32 a) (w:World) (h0:TW w b T x gs) (hrn:∀y∈x.rs,(str y.1).size≤281474976710656) (hln:∀y∈x.ls,(str y.1).size≤281474976710656) (hok:RibOK x) :
  Calls Tryz.prog 21 #[.pointer (some ⟨T.N,0,none⟩),.int .i64 r,.int .u32 a] w fun e w'=>e=.returned (.tuple #[.agg #[.int .i64 (toA x r a).1.1,.int .i64 (toA x r a).1.2.1,.int .i64 (toA x r a).1.2.2.1,.bool (toA x r a).1.2.2.2],.bool (toA x r a).2])∧Below w.heap.size w w':=by
 have h:=Lib.hid h0
 have hos:∀y∈x.os,U32 y.2.2.2.1:=fun y hy=>(h0.net.ok.2.2.1 y hy).2
 have HB0:=Lib.hid ((Below.refl w.heap.size w).alloc (Nat.le_refl _) (.cells #[.int .i64 0,.int .i64 0,.int .i64 0,.bool false] 59))
 have HS:=Lib.hid (Blk.new w 59 #[.int .i64 0,.int .i64 0,.int .i64 0,.bool false])
 have HTA:=Lib.hid fun W (hW:Below w.heap.size w W)=>tat_any a ha W (h0.next hW)
 have HOF:=Lib.hid fun W (hW:Below w.heap.size w W)=>tof_any r W (h0.next hW)
 have HLK:=Lib.hid fun W (hW:Below w.heap.size w W)=>look_any r a W (h0.next hW) hrn hln hok
 have HPl:Hid ((portsOf x r).length≤1000000):=Lib.hid (by have:=portsOf_len x r;have:=h0.net.oks.2.2.1.2;have:=h0.net.len.2.2.1;omega)
 have HH0:=Lib.hid fun A c W o (hj:JR W A (portsOf x r).length (portsOf x r))=>has_any A (portsOf x r).length c (portsOf x r) o W hj HPl.out
 have HPT:Hid ((lookA x r a).2=true→∃ (pn:Nat) (r1:Int) (lN:Nat) (a1:Int),(lookA x r a).1.1=(pn:Int)∧x.ps[pn]?=some (r1,(lN:Int),a1)∧lN<x.ls.length∧portAt x (lookA x r a).1.1=(r1,(lN:Int),a1)):=Lib.hid fun ho=>by
  obtain⟨q,hq⟩:=Option.isSome_iff_exists.1 (show (lookP x r 7 a 0 0).isSome=true from ho)
  have e1:(lookA x r a).1=q:=by unfold lookA;rw[hq];rfl
  obtain⟨pn,hpn,he⟩:=portsOf_mem (rlook_in 7 a 0 0 q hq)
  have hx:x.ps[pn]?=some x.ps[pn]:=List.getElem?_eq_getElem hpn
  obtain⟨h1,h2⟩:=hok.p _ (List.getElem_mem hpn)
  generalize x.ps[pn]=y at *
  obtain⟨r1,l1,a1⟩:=y
  dsimp only at h1 h2
  obtain⟨lN,rfl⟩:∃lN:Nat,l1=lN:=⟨l1.toNat,by omega⟩
  refine⟨pn,r1,lN,a1,by rw[e1,he],hx,by omega,?_⟩
  rw[e1,he]
  unfold portAt
  rw[Int.toNat_natCast,hx]
  rfl
 have hvU0:(lookA x r a).2=true→U32 (if (lookA x r a).1.2.1=0 then a else (lookA x r a).1.2.1):=fun ho=>by
  obtain⟨q,hq⟩:=Option.isSome_iff_exists.1 (show (lookP x r 7 a 0 0).isSome=true from ho)
  have e1:(lookA x r a).1=q:=by unfold lookA;rw[hq];rfl
  rw[e1]
  split
  ·exact ha
  ·exact look_via hos 7 a 0 0 q ⟨by decide,by decide⟩ hq
 have HT0:Hid (toA x r a=if mine x r a=true then ((-1,-1,0,true),true)
  else if (lookA x r a).2=true then (((lookA x r a).1.1,upN x (portAt x (lookA x r a).1.1).1 (portAt x (lookA x r a).1.1).2.1 (if (lookA x r a).1.2.1=0 then a else (lookA x r a).1.2.1),(lookA x r a).1.2.2,decide ((lookA x r a).1.2.1=0)),true)
  else ((0,0,0,false),false)):=Lib.hid rfl
 have HMI:Hid (mine x r a=match lastAt a x.ps x.ps.length with
  | some o=>(portsOf x r).any (fun y=>((o:Nat):Int)==y)
  | none=>false):=Lib.hid rfl
 generalize toA x r a=TA at *
 generalize mine x r a=MI at *
 generalize lookA x r a=LA at *
 obtain⟨⟨p,v,c⟩,ok⟩:=LA
 dsimp only at HPT hvU0 HT0 HLK
 clear h0 hos
 have HP0:Hid (portsOf x r=rowIn (tabs x x.ps.length x.ps.length x.ms.length 1) x.rs.length r):=Lib.hid rfl
 rw[←HP0.out]at HOF
 generalize portsOf x r=P at *
 cases hl:lastAt a x.ps x.ps.length with
 | none =>
  rw[hl]at HTA HMI
  have HT:=HT0
  have hmf:MI=false:=HMI.out
  rw[hmf,if_neg (by decide)]at HT
  clear hmf
  have hvU:=hvU0
  clear HT0 hvU0 hl HMI
  go_enter Tryz.func21,Tryz.ntmps21
  go_upto_region 1 with fail
  generalize w.alloc (.cells #[.int .i64 0,.int .i64 0,.int .i64 0,.bool false] 59)=W0 at *
  cases hok2:ok with
  | false =>
   rw[hok2]at HLK HT
   go_upto_region 5 with (first
    | (go_at_call 58;refine (HTA.out _ HB0.out).mono ?_;rintro e w1 ⟨rfl,hb1⟩;have HB1:=Lib.hid (below_next HB0.out hb1);have HS1:=Lib.hid (HS.out.next hb1);clear hb1)
    | (go_at_call 15;refine (HLK.out _ HB1.out).mono ?_;rintro e w4 ⟨rfl,hb4⟩;have HB4:=Lib.hid (below_next HB1.out hb4);have HS4:=Lib.hid (HS1.out.next hb4);clear hb4))
   have HB5:=Lib.hid (HB4.out.alloc HB4.out.size (.cells #[.int .i64 p,.int .u32 v,.int .i64 c] 45))
   have HS5:=Lib.hid (HS4.out.alloc (.cells #[.int .i64 p,.int .u32 v,.int .i64 c] 45))
   have HWy:=Lib.hid (Blk.new w4 45 #[.int .i64 p,.int .u32 v,.int .i64 c])
   generalize w4.alloc (.cells #[.int .i64 p,.int .u32 v,.int .i64 c] 45)=W5 at *
   have q0:W5.cell? ⟨w.heap.size,0,none⟩=some (.int .i64 0):=HS5.out.cell 0
   have q1:W5.cell? ⟨w.heap.size,1,none⟩=some (.int .i64 0):=HS5.out.cell 1
   have q2:W5.cell? ⟨w.heap.size,2,none⟩=some (.int .i64 0):=HS5.out.cell 2
   have q3:W5.cell? ⟨w.heap.size,3,none⟩=some (.bool false):=HS5.out.cell 3
   have y0:W5.frozen? ⟨w.heap.size,0,none⟩=false:=HS5.out.frozen 0
   have y1:W5.frozen? ⟨w.heap.size,1,none⟩=false:=HS5.out.frozen 1
   have y2:W5.frozen? ⟨w.heap.size,2,none⟩=false:=HS5.out.frozen 2
   have y3:W5.frozen? ⟨w.heap.size,3,none⟩=false:=HS5.out.frozen 3
   go_wp2
   obtain⟨W9,hW9,hk9,hB9,_⟩:=store4 HS5.out.slot (Nat.le_refl _) w HB5.out (.int .i64 0) (.int .i64 0) (.int .i64 0) (.bool false)
   rw[←hW9]
   clear hW9 q0 q1 q2 q3 y0 y1 y2 y3
   refine bodyPost_ret (ret_to _ w.heap.size _ _ _ _ _ _ rfl rfl (hk9.cell 0) (hk9.cell 1) (hk9.cell 2) (hk9.cell 3)) rfl ?_
   refine⟨?_,hB9⟩
   rw[HT.out]
   rfl
  | true =>
   rw[hok2]at HLK HT HPT hvU
   obtain⟨pn,r1,lN,a1,rfl,hpx,hlN,hpa⟩:=HPT.out rfl
   have HVA:=Lib.hid (hvU rfl)
   rw[hpa]at HT
   dsimp only at HT
   have HOA:=Lib.hid fun W (hW:Below w.heap.size w W)=>otherAt_any pn lN r1 a1 hpx hlN (if v=0 then a else v) HVA.out W (h.out.next hW)
   generalize upN x r1 lN (if v=0 then a else v)=up at *
   have HOR:=Lib.hid fun W g (hb:Blk W g 42 #[.int .u32 v,.int .u32 a])=>or2_any v a g 42 W hb
   generalize (if v=0 then a else v)=va at *
   clear hpx hlN hpa
   go_upto_region 7 with (first
    | (go_at_call 58;refine (HTA.out _ HB0.out).mono ?_;rintro e w1 ⟨rfl,hb1⟩;have HB1:=Lib.hid (below_next HB0.out hb1);have HS1:=Lib.hid (HS.out.next hb1);clear hb1)
    | (go_at_call 15;refine (HLK.out _ HB1.out).mono ?_;rintro e w4 ⟨rfl,hb4⟩;have HB4:=Lib.hid (below_next HB1.out hb4);have HS4:=Lib.hid (HS1.out.next hb4);clear hb4))
   have HB5:=Lib.hid (HB4.out.alloc HB4.out.size (.cells #[.int .i64 (pn:Int),.int .u32 v,.int .i64 c] 45))
   have HS5:=Lib.hid (HS4.out.alloc (.cells #[.int .i64 (pn:Int),.int .u32 v,.int .i64 c] 45))
   have HWy:=Lib.hid (Blk.new w4 45 #[.int .i64 (pn:Int),.int .u32 v,.int .i64 c])
   generalize w4.alloc (.cells #[.int .i64 (pn:Int),.int .u32 v,.int .i64 c] 45)=W5 at *
   have s0:∀W,Below W5.heap.size W5 W→W.cell? ⟨w4.heap.size,0,none⟩=some (.int .i64 (pn:Int)):=fun W hW=>(HWy.out.next hW).cell 0
   have s1:∀W,Below W5.heap.size W5 W→W.cell? ⟨w4.heap.size,1,none⟩=some (.int .u32 v):=fun W hW=>(HWy.out.next hW).cell 1
   have s2:∀W,Below W5.heap.size W5 W→W.cell? ⟨w4.heap.size,2,none⟩=some (.int .i64 c):=fun W hW=>(HWy.out.next hW).cell 2
   have hS0:Below W5.heap.size W5 W5:=Below.refl _ _
   go_region_held3 (fun W=>Below W5.heap.size W5 W) (first|with_reducible assumption|with_reducible exact (Below.refl _ _).drew|with_reducible exact ((Below.refl _ _).alloc (Nat.le_refl _) _).drew)
    (first
    | (go_at_call 61;refine (HOR.out _ _ (by first|with_reducible exact Blk.new _ _ _|with_reducible exact (Blk.new _ _ _).drew)).mono ?_;rintro e w6 ⟨rfl,hb6⟩;have hb7:Below W5.heap.size W5 w6:=below_next (by with_reducible assumption) hb6)
    | (go_at_call 60;refine (HOA.out _ (below_next HB5.out (by with_reducible assumption))).mono ?_;rintro e w8 ⟨rfl,hb8⟩;have hb9:Below W5.heap.size W5 w8:=below_next (by with_reducible assumption) hb8))
   all_goals (
    have HB9:=Lib.hid (below_next HB5.out hb9)
    have HS9:=Lib.hid (HS5.out.next hb9)
    have t0:=s0 _ hb9
    have t1:=s1 _ hb9
    have t2:=s2 _ hb9
    clear s0 s1 s2 hS0
    have q0:w8.cell? ⟨w.heap.size,0,none⟩=some (.int .i64 0):=HS9.out.cell 0
    have q1:w8.cell? ⟨w.heap.size,1,none⟩=some (.int .i64 0):=HS9.out.cell 1
    have q2:w8.cell? ⟨w.heap.size,2,none⟩=some (.int .i64 0):=HS9.out.cell 2
    have q3:w8.cell? ⟨w.heap.size,3,none⟩=some (.bool false):=HS9.out.cell 3
    have y0:w8.frozen? ⟨w.heap.size,0,none⟩=false:=HS9.out.frozen 0
    have y1:w8.frozen? ⟨w.heap.size,1,none⟩=false:=HS9.out.frozen 1
    have y2:w8.frozen? ⟨w.heap.size,2,none⟩=false:=HS9.out.frozen 2
    have y3:w8.frozen? ⟨w.heap.size,3,none⟩=false:=HS9.out.frozen 3
    go_wp2
    obtain⟨W9,hW9,hk9,hB9,_⟩:=store4 HS9.out.slot (Nat.le_refl _) w HB9.out (.int .i64 (pn:Int)) (.int .i64 up) (.int .i64 c) (.bool (v==0))
    rw[←hW9]
    clear hW9 q0 q1 q2 q3 y0 y1 y2 y3
    refine bodyPost_ret (ret_to _ w.heap.size _ _ _ _ _ _ rfl rfl (hk9.cell 0) (hk9.cell 1) (hk9.cell 2) (hk9.cell 3)) rfl ?_
    refine⟨?_,hB9⟩
    rw[HT.out]
    rfl)
 | some o =>
  rw[hl]at HTA HMI
  have HH:=Lib.hid fun A c W (hj:JR W A P.length P)=>HH0.out A c W (o:Int) hj
  cases hmm:P.any (fun y=>((o:Nat):Int)==y) with
  | true =>
   rw[hmm]at HH
   have hmf:MI=true:=HMI.out.trans hmm
   have HT:=HT0
   rw[hmf,if_pos rfl]at HT
   clear HT0 hvU0 hl HMI hmm hmf HH0
   go_enter Tryz.func21,Tryz.ntmps21
   go_upto_region 1 with fail
   generalize w.alloc (.cells #[.int .i64 0,.int .i64 0,.int .i64 0,.bool false] 59)=W0 at *
   go_upto_region 3 with (first
    | (go_at_call 58;refine (HTA.out _ HB0.out).mono ?_;rintro e w1 ⟨rfl,hb1⟩;have HB1:=Lib.hid (below_next HB0.out hb1);have HS1:=Lib.hid (HS.out.next hb1);clear hb1)
    | (go_at_call 47;refine (HOF.out _ HB1.out).mono ?_;rintro e w2 ⟨A2,c2,rfl,hj,hb2⟩;have HJ:=Lib.hid hj;have HB2:=Lib.hid (below_next HB1.out hb2);have HS2:=Lib.hid (HS1.out.next hb2);clear hj hb2)
    | (go_at_call 59;refine (HH.out _ _ _ HJ.out).mono ?_;rintro e w3 ⟨rfl,hb3⟩;have HB3:=Lib.hid (below_next HB2.out hb3);have HS3:=Lib.hid (HS2.out.next hb3);clear hb3))
   have q0:w3.cell? ⟨w.heap.size,0,none⟩=some (.int .i64 0):=HS3.out.cell 0
   have q1:w3.cell? ⟨w.heap.size,1,none⟩=some (.int .i64 0):=HS3.out.cell 1
   have q2:w3.cell? ⟨w.heap.size,2,none⟩=some (.int .i64 0):=HS3.out.cell 2
   have q3:w3.cell? ⟨w.heap.size,3,none⟩=some (.bool false):=HS3.out.cell 3
   have y0:w3.frozen? ⟨w.heap.size,0,none⟩=false:=HS3.out.frozen 0
   have y1:w3.frozen? ⟨w.heap.size,1,none⟩=false:=HS3.out.frozen 1
   have y2:w3.frozen? ⟨w.heap.size,2,none⟩=false:=HS3.out.frozen 2
   have y3:w3.frozen? ⟨w.heap.size,3,none⟩=false:=HS3.out.frozen 3
   go_wp2
   obtain⟨W9,hW9,hk9,hB9,_⟩:=store4 HS3.out.slot (Nat.le_refl _) w HB3.out (.int .i64 (-1)) (.int .i64 (-1)) (.int .i64 0) (.bool true)
   rw[←hW9]
   clear hW9 q0 q1 q2 q3 y0 y1 y2 y3
   refine bodyPost_ret (ret_to _ w.heap.size _ _ _ _ _ _ rfl rfl (hk9.cell 0) (hk9.cell 1) (hk9.cell 2) (hk9.cell 3)) rfl ?_
   refine⟨?_,hB9⟩
   rw[HT.out]
   rfl
  | false =>
   rw[hmm]at HH
   have hmf:MI=false:=HMI.out.trans hmm
   have HT:=HT0
   rw[hmf,if_neg (by decide)]at HT
   have hvU:=hvU0
   clear HT0 hvU0 hl HMI hmm hmf HH0
   go_enter Tryz.func21,Tryz.ntmps21
   go_upto_region 1 with fail
   generalize w.alloc (.cells #[.int .i64 0,.int .i64 0,.int .i64 0,.bool false] 59)=W0 at *
   cases hok2:ok with
   | false =>
    rw[hok2]at HLK HT
    go_upto_region 5 with (first
     | (go_at_call 58;refine (HTA.out _ HB0.out).mono ?_;rintro e w1 ⟨rfl,hb1⟩;have HB1:=Lib.hid (below_next HB0.out hb1);have HS1:=Lib.hid (HS.out.next hb1);clear hb1)
     | (go_at_call 47;refine (HOF.out _ HB1.out).mono ?_;rintro e w2 ⟨A2,c2,rfl,hj,hb2⟩;have HJ:=Lib.hid hj;have HB2:=Lib.hid (below_next HB1.out hb2);have HS2:=Lib.hid (HS1.out.next hb2);clear hj hb2)
     | (go_at_call 59;refine (HH.out _ _ _ HJ.out).mono ?_;rintro e w3 ⟨rfl,hb3⟩;have HB3:=Lib.hid (below_next HB2.out hb3);have HS3:=Lib.hid (HS2.out.next hb3);clear hb3)
     | (go_at_call 15;refine (HLK.out _ HB3.out).mono ?_;rintro e w4 ⟨rfl,hb4⟩;have HB4:=Lib.hid (below_next HB3.out hb4);have HS4:=Lib.hid (HS3.out.next hb4);clear hb4))
    have HB5:=Lib.hid (HB4.out.alloc HB4.out.size (.cells #[.int .i64 p,.int .u32 v,.int .i64 c] 45))
    have HS5:=Lib.hid (HS4.out.alloc (.cells #[.int .i64 p,.int .u32 v,.int .i64 c] 45))
    have HWy:=Lib.hid (Blk.new w4 45 #[.int .i64 p,.int .u32 v,.int .i64 c])
    generalize w4.alloc (.cells #[.int .i64 p,.int .u32 v,.int .i64 c] 45)=W5 at *
    have q0:W5.cell? ⟨w.heap.size,0,none⟩=some (.int .i64 0):=HS5.out.cell 0
    have q1:W5.cell? ⟨w.heap.size,1,none⟩=some (.int .i64 0):=HS5.out.cell 1
    have q2:W5.cell? ⟨w.heap.size,2,none⟩=some (.int .i64 0):=HS5.out.cell 2
    have q3:W5.cell? ⟨w.heap.size,3,none⟩=some (.bool false):=HS5.out.cell 3
    have y0:W5.frozen? ⟨w.heap.size,0,none⟩=false:=HS5.out.frozen 0
    have y1:W5.frozen? ⟨w.heap.size,1,none⟩=false:=HS5.out.frozen 1
    have y2:W5.frozen? ⟨w.heap.size,2,none⟩=false:=HS5.out.frozen 2
    have y3:W5.frozen? ⟨w.heap.size,3,none⟩=false:=HS5.out.frozen 3
    go_wp2
    obtain⟨W9,hW9,hk9,hB9,_⟩:=store4 HS5.out.slot (Nat.le_refl _) w HB5.out (.int .i64 0) (.int .i64 0) (.int .i64 0) (.bool false)
    rw[←hW9]
    clear hW9 q0 q1 q2 q3 y0 y1 y2 y3
    refine bodyPost_ret (ret_to _ w.heap.size _ _ _ _ _ _ rfl rfl (hk9.cell 0) (hk9.cell 1) (hk9.cell 2) (hk9.cell 3)) rfl ?_
    refine⟨?_,hB9⟩
    rw[HT.out]
    rfl
   | true =>
    rw[hok2]at HLK HT HPT hvU
    obtain⟨pn,r1,lN,a1,rfl,hpx,hlN,hpa⟩:=HPT.out rfl
    have HVA:=Lib.hid (hvU rfl)
    rw[hpa]at HT
    dsimp only at HT
    have HOA:=Lib.hid fun W (hW:Below w.heap.size w W)=>otherAt_any pn lN r1 a1 hpx hlN (if v=0 then a else v) HVA.out W (h.out.next hW)
    generalize upN x r1 lN (if v=0 then a else v)=up at *
    have HOR:=Lib.hid fun W g (hb:Blk W g 42 #[.int .u32 v,.int .u32 a])=>or2_any v a g 42 W hb
    generalize (if v=0 then a else v)=va at *
    clear hpx hlN hpa
    go_upto_region 7 with (first
     | (go_at_call 58;refine (HTA.out _ HB0.out).mono ?_;rintro e w1 ⟨rfl,hb1⟩;have HB1:=Lib.hid (below_next HB0.out hb1);have HS1:=Lib.hid (HS.out.next hb1);clear hb1)
     | (go_at_call 47;refine (HOF.out _ HB1.out).mono ?_;rintro e w2 ⟨A2,c2,rfl,hj,hb2⟩;have HJ:=Lib.hid hj;have HB2:=Lib.hid (below_next HB1.out hb2);have HS2:=Lib.hid (HS1.out.next hb2);clear hj hb2)
     | (go_at_call 59;refine (HH.out _ _ _ HJ.out).mono ?_;rintro e w3 ⟨rfl,hb3⟩;have HB3:=Lib.hid (below_next HB2.out hb3);have HS3:=Lib.hid (HS2.out.next hb3);clear hb3)
     | (go_at_call 15;refine (HLK.out _ HB3.out).mono ?_;rintro e w4 ⟨rfl,hb4⟩;have HB4:=Lib.hid (below_next HB3.out hb4);have HS4:=Lib.hid (HS3.out.next hb4);clear hb4))
    have HB5:=Lib.hid (HB4.out.alloc HB4.out.size (.cells #[.int .i64 (pn:Int),.int .u32 v,.int .i64 c] 45))
    have HS5:=Lib.hid (HS4.out.alloc (.cells #[.int .i64 (pn:Int),.int .u32 v,.int .i64 c] 45))
    have HWy:=Lib.hid (Blk.new w4 45 #[.int .i64 (pn:Int),.int .u32 v,.int .i64 c])
    generalize w4.alloc (.cells #[.int .i64 (pn:Int),.int .u32 v,.int .i64 c] 45)=W5 at *
    have s0:∀W,Below W5.heap.size W5 W→W.cell? ⟨w4.heap.size,0,none⟩=some (.int .i64 (pn:Int)):=fun W hW=>(HWy.out.next hW).cell 0
    have s1:∀W,Below W5.heap.size W5 W→W.cell? ⟨w4.heap.size,1,none⟩=some (.int .u32 v):=fun W hW=>(HWy.out.next hW).cell 1
    have s2:∀W,Below W5.heap.size W5 W→W.cell? ⟨w4.heap.size,2,none⟩=some (.int .i64 c):=fun W hW=>(HWy.out.next hW).cell 2
    have hS0:Below W5.heap.size W5 W5:=Below.refl _ _
    go_region_held3 (fun W=>Below W5.heap.size W5 W) (first|with_reducible assumption|with_reducible exact (Below.refl _ _).drew|with_reducible exact ((Below.refl _ _).alloc (Nat.le_refl _) _).drew)
     (first
     | (go_at_call 61;refine (HOR.out _ _ (by first|with_reducible exact Blk.new _ _ _|with_reducible exact (Blk.new _ _ _).drew)).mono ?_;rintro e w6 ⟨rfl,hb6⟩;have hb7:Below W5.heap.size W5 w6:=below_next (by with_reducible assumption) hb6)
     | (go_at_call 60;refine (HOA.out _ (below_next HB5.out (by with_reducible assumption))).mono ?_;rintro e w8 ⟨rfl,hb8⟩;have hb9:Below W5.heap.size W5 w8:=below_next (by with_reducible assumption) hb8))
    all_goals (
     have HB9:=Lib.hid (below_next HB5.out hb9)
     have HS9:=Lib.hid (HS5.out.next hb9)
     have t0:=s0 _ hb9
     have t1:=s1 _ hb9
     have t2:=s2 _ hb9
     clear s0 s1 s2 hS0
     have q0:w8.cell? ⟨w.heap.size,0,none⟩=some (.int .i64 0):=HS9.out.cell 0
     have q1:w8.cell? ⟨w.heap.size,1,none⟩=some (.int .i64 0):=HS9.out.cell 1
     have q2:w8.cell? ⟨w.heap.size,2,none⟩=some (.int .i64 0):=HS9.out.cell 2
     have q3:w8.cell? ⟨w.heap.size,3,none⟩=some (.bool false):=HS9.out.cell 3
     have y0:w8.frozen? ⟨w.heap.size,0,none⟩=false:=HS9.out.frozen 0
     have y1:w8.frozen? ⟨w.heap.size,1,none⟩=false:=HS9.out.frozen 1
     have y2:w8.frozen? ⟨w.heap.size,2,none⟩=false:=HS9.out.frozen 2
     have y3:w8.frozen? ⟨w.heap.size,3,none⟩=false:=HS9.out.frozen 3
     go_wp2
     obtain⟨W9,hW9,hk9,hB9,_⟩:=store4 HS9.out.slot (Nat.le_refl _) w HB9.out (.int .i64 (pn:Int)) (.int .i64 up) (.int .i64 c) (.bool (v==0))
     rw[←hW9]
     clear hW9 q0 q1 q2 q3 y0 y1 y2 y3
     refine bodyPost_ret (ret_to _ w.heap.size _ _ _ _ _ _ rfl rfl (hk9.cell 0) (hk9.cell 1) (hk9.cell 2) (hk9.cell 3)) rfl ?_
     refine⟨?_,hB9⟩
     rw[HT.out]
     rfl)
end
end Go.Proofs.YtfidicbknjoafaaGreatDoor
namespace Go.Proofs.YtfidicbknjoafaaGreatDoor
open Go.RowKit Lx Sm Go.Maps
section
variable {b:Nat} {T:TP} {x:Cfg} {gs:List Int}
end
end Go.Proofs.YtfidicbknjoafaaGreatDoor
namespace Go.Proofs.YtfidicbknjoafaaGreatDoor
open Go.RowKit Lx Sm Go.Maps
section
variable {b:Nat} {T:TP} {x:Cfg} {gs:List Int}
end
end Go.Proofs.YtfidicbknjoafaaGreatDoor
