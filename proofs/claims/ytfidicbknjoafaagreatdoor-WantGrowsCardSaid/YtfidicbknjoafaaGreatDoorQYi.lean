/- want. -/
import Derived.Test.YtfidicbknjoafaaGreatDoorQYx
namespace Go.Proofs.YtfidicbknjoafaaGreatDoor
open Go.ChangeShapes Go.WideShapes Go.ChangeAt Go.RowKit Lx Sm Go.Maps
theorem store6 {W:World} {N b:Nat} {t:TypeId} (hs:Slot W N t 6) (hN:b≤N) (w:World) (hB:Below b w W) (v0 v1 v2 v3 v4 v5:Value):∃W',W'=(((((W.setCell ⟨N,0,none⟩ v0).setCell ⟨N,1,none⟩ v1).setCell ⟨N,2,none⟩ v2).setCell ⟨N,3,none⟩ v3).setCell ⟨N,4,none⟩ v4).setCell ⟨N,5,none⟩ v5∧Blk W' N t #[v0,v1,v2,v3,v4,v5]∧Below b w W'∧(∀g,g ≠ N→W'.heap[g]?=W.heap[g]?):=by
 obtain⟨cs,hz,hb⟩:=hs
 refine⟨_,rfl,?_,((((((hB.setCell (by simpa using hN) v0).setCell (by simpa using hN) v1).setCell (by simpa using hN) v2).setCell (by simpa using hN) v3).setCell (by simpa using hN) v4).setCell (by simpa using hN) v5),fun g hn=>by
  have f:∀ (W:World) (i:Nat) (v:Value),(W.setCell ⟨N,i,none⟩ v).heap[g]?=W.heap[g]?:=fun W i v=>Below.heap_setCell _ _ _ _ (by simpa using hn)
  rw[f,f,f,f,f,f]⟩
 have h:=((((((hb.set_ 0 v0).set_ 1 v1).set_ 2 v2).set_ 3 v3).set_ 4 v4).set_ 5 v5)
 have e:((((((cs.setIfInBounds 0 v0).setIfInBounds 1 v1).setIfInBounds 2 v2).setIfInBounds 3 v3).setIfInBounds 4 v4).setIfInBounds 5 v5)=#[v0,v1,v2,v3,v4,v5]:=by
  apply Array.ext_getElem?
  intro i
  rcases i with _ | _ | _ | _ | _ | _|i <;> simp[hz]
 rw[e]at h
 exact h
theorem ret_find (tm:Array Value) (N:Nat) (W:World) (v0 v1 v2 v3 v4 v5 u:Value) (h2:tm.getD 6 undef=.pointer (some ⟨N,0,none⟩)) (h3:tm.getD 7 undef=u) (c0:W.cell? ⟨N,0,none⟩=some v0) (c1:W.cell? ⟨N,1,none⟩=some v1) (c2:W.cell? ⟨N,2,none⟩=some v2) (c3:W.cell? ⟨N,3,none⟩=some v3) (c4:W.cell? ⟨N,4,none⟩=some v4) (c5:W.cell? ⟨N,5,none⟩=some v5) :
  (results Tryz.f39 tm).run Tryz.prog W=.ok (.tuple #[.agg #[v0,v1,v2,v3,v4,v5],u]) W:=by
 have h2':tm[6]?.getD undef=.pointer (some ⟨N,0,none⟩):=by simpa using h2
 have h3':tm[7]?.getD undef=u:=by simpa using h3
 simp[results,Tryz.results39,go_sem,h2',h3',c0,c1,c2,c3,c4,c5]
def findR (l:List PRow) (r:Int) (k:Int × Int):Option PRow:=l.find? fun p=>(p.r==r)&&((p.k.1==k.1)&&(p.k.2==k.2))
theorem findR_hit:∀ {l:List PRow} {i:Nat} {p:PRow} {r:Int} {k:Int × Int},l[i]?=some p→((p.r==r)&&((p.k.1==k.1)&&(p.k.2==k.2)))=true→(∀j y,j<i→l[j]?=some y→((y.r==r)&&((y.k.1==k.1)&&(y.k.2==k.2)))=false)→findR l r k=some p
 | [],i,p,r,k,h,_,_=>by simp at h
 | z :: l,0,p,r,k,h,hp,_=>by
  simp at h
  subst h
  unfold findR
  rw[List.find?_cons_of_pos (by exact hp)]
 | z :: l,i+1,p,r,k,h,hp,hn=>by
  have hz:=hn 0 z (by omega) rfl
  unfold findR
  rw[List.find?_cons_of_neg (by rw[hz];decide)]
  exact findR_hit (l:=l) (i:=i) (by simpa using h) hp (fun j y hj hy=>hn (j+1) y (by omega) (by simpa using hy))
def FindOK (e:Ending) (w':World):Option PRow→Prop
 | none=>e=.returned (.tuple #[.agg #[.int .i64 0,.int .i64 0,.int .i64 0,.int .u32 0,.int .u32 0,.slice none 0 0],.bool false])
 | some p=>∃A' c',e=.returned (.tuple #[.agg #[.int .i64 p.r,.int .i64 p.i,.int .i64 p.u,.int .u32 p.k.1,.int .u32 p.k.2,.slice A' p.xs.length c'],.bool true])∧JR w' A' p.xs.length p.xs
theorem fr_find {w9:World} {B Nk N:Nat} {A9:Option Addr} {n c9:Nat} {px:List Int} (h:w9.ownsRow B 3 1 (.slice A9 n c9) n (I64 px)) (h3:Nk<B) (h4:N<Nk):∀b o,A9=some ⟨b,o,none⟩→b ≠ Nk∧b ≠ N:=fun b o e=>by
 subst e
 have h1:(Value.slice (some ⟨b,o,none⟩) n c9).ownBlock=some b:=rfl
 have h2:=(h.lt b h1).1
 omega
set_option maxRecDepth 100000 in
set_option maxHeartbeats 4000000 in
theorem find_any (A:Option Addr) (n c:Nat) (ms:List PMr) (r:Int) (k:Int × Int) (w:World) (h:RI CRw 6 w A n ms) (hj:∀m∈ms,JR w m.A m.p.xs.length m.p.xs) (hn:n≤1000) (hx:∀m∈ms,m.p.xs.length≤1000) :
  Calls Tryz.prog 39 #[.slice A n c,.int .i64 r,.agg #[.int .u32 k.1,.int .u32 k.2]] w fun e w'=>FindOK e w' (findR (ms.map PMr.p) r k)∧Below w.heap.size w w':=by
 obtain⟨k1,k2⟩:=k
 have HB0:=Lib.hid (((Below.refl w.heap.size w).alloc (Nat.le_refl _) (.cells #[.int .u32 k1,.int .u32 k2] 57)).alloc (by simp) (.cells #[.int .i64 0,.int .i64 0,.int .i64 0,.int .u32 0,.int .u32 0,.slice none 0 0] 83))
 have HK:Hid (Blk ((w.alloc (.cells #[.int .u32 k1,.int .u32 k2] 57)).alloc (.cells #[.int .i64 0,.int .i64 0,.int .i64 0,.int .u32 0,.int .u32 0,.slice none 0 0] 83)) w.heap.size 57 #[.int .u32 k1,.int .u32 k2]):=Lib.hid ((Blk.new _ _ _).alloc _)
 have HS:Hid (Blk ((w.alloc (.cells #[.int .u32 k1,.int .u32 k2] 57)).alloc (.cells #[.int .i64 0,.int .i64 0,.int .i64 0,.int .u32 0,.int .u32 0,.slice none 0 0] 83)) (w.heap.size+1) 83 #[.int .i64 0,.int .i64 0,.int .i64 0,.int .u32 0,.int .u32 0,.slice none 0 0]):=Lib.hid (by simpa using Blk.new (w.alloc (.cells #[.int .u32 k1,.int .u32 k2] 57)) 83 #[.int .i64 0,.int .i64 0,.int .i64 0,.int .u32 0,.int .u32 0,.slice none 0 0])
 have HR:=Lib.hid h
 have HJ:=Lib.hid hj
 have HX:=Lib.hid hx
 have HLEN:=Lib.hid h.len
 have HNB:Hid (w.heap.size≤w.heap.size+1):=Lib.hid (by omega)
 clear h hj hx
 go_enter Tryz.func39,Tryz.ntmps39
 go_upto_region 1 with fail
 generalize (w.alloc (.cells #[.int .u32 k1,.int .u32 k2] 57)).alloc (.cells #[.int .i64 0,.int .i64 0,.int .i64 0,.int .u32 0,.int .u32 0,.slice none 0 0] 83)=W0 at *
 go_wp2_with fail
 go_loopw [12] (fun iv wr=>∃ (i:Nat),i≤n∧iv=.int .i64 (i:Int)∧Hid (∀j m,j<i→ms[j]?=some m→((m.p.r==r)&&((m.p.k.1==k1)&&(m.p.k.2==k2)))=false)∧Hid (Below W0.heap.size W0 wr)) (fun iv _=>n - (intOf iv).toNat)
 case atStart=>exact⟨0,Nat.zero_le _,rfl,Lib.hid (fun j m hj=>absurd hj (Nat.not_lt_zero _)),Lib.hid (Below.refl _ _)⟩
 case round =>
  obtain⟨i,hi,rfl,HNO,HB⟩:=hrel
  rcases Nat.lt_or_ge i n with hlt|hge
  ·have hi0:(i:Int)<(n:Int):=by omega
   have HBW:=Lib.hid (below_next HB0.out HB.out)
   obtain⟨b5,o5,m,rfl,hbl,hx,hcl⟩:=(HR.out.next HBW.out).at_ hlt
   have HJM:=Lib.hid (HJ.out m (List.mem_of_getElem? hx))
   have HXM:=Lib.hid (HX.out m (List.mem_of_getElem? hx))
   have HXI:=Lib.hid hx
   obtain⟨⟨pr,ri,ru,⟨ks,kg⟩,px⟩,pA,pc⟩:=m
   dsimp only at HJM HXM
   have t0:wr.cell? ⟨b5,o5+i*6,none⟩=some (.int .i64 pr):=hcl 0 _ rfl
   have t1:wr.cell? ⟨b5,o5+i*6+1,none⟩=some (.int .i64 ri):=hcl 1 _ rfl
   have t2:wr.cell? ⟨b5,o5+i*6+2,none⟩=some (.int .i64 ru):=hcl 2 _ rfl
   have t3:wr.cell? ⟨b5,o5+i*6+3,none⟩=some (.int .u32 ks):=hcl 3 _ rfl
   have t4:wr.cell? ⟨b5,o5+i*6+4,none⟩=some (.int .u32 kg):=hcl 4 _ rfl
   have t5:wr.cell? ⟨b5,o5+i*6+5,none⟩=some (.slice pA px.length pc):=hcl 5 _ rfl
   clear hcl hx hbl
   have HNa:=Lib.hid ((Below.refl wr.heap.size wr).alloc (Nat.le_refl _) (.cells #[.int .i64 pr,.int .i64 ri,.int .i64 ru,.int .u32 ks,.int .u32 kg,.slice pA px.length pc] 83))
   have HKa:=Lib.hid (Blk.new wr 83 #[.int .i64 pr,.int .i64 ri,.int .i64 ru,.int .u32 ks,.int .u32 kg,.slice pA px.length pc])
   have HNG:Hid (wr.heap.size ≠ w.heap.size+1∧w.heap.size+1<wr.heap.size):=Lib.hid (by have h1:=HS.out.lt;have h2:=HB.out.size;omega)
   go_upto_region 4 with fail
   clear t0 t1 t2 t3 t4 t5
   generalize wr.alloc (.cells #[.int .i64 pr,.int .i64 ri,.int .i64 ru,.int .u32 ks,.int .u32 kg,.slice pA px.length pc] 83)=Wa at *
   have HBa:=Lib.hid (below_next HB.out HNa.out)
   have HSZ:Hid (wr.heap.size<Wa.heap.size):=Lib.hid HKa.out.lt
   generalize wr.heap.size=Nk at *
   have q0:Wa.cell? ⟨Nk,0,none⟩=some (.int .i64 pr):=HKa.out.cell 0
   have q3:Wa.cell? ⟨Nk,3,none⟩=some (.int .u32 ks):=HKa.out.cell 3
   have q4:Wa.cell? ⟨Nk,4,none⟩=some (.int .u32 kg):=HKa.out.cell 4
   have z0:Wa.cell? ⟨w.heap.size,0,none⟩=some (.int .u32 k1):=(HK.out.next HBa.out).cell 0
   have z1:Wa.cell? ⟨w.heap.size,1,none⟩=some (.int .u32 k2):=(HK.out.next HBa.out).cell 1
   by_cases hm:pr=r∧ks=k1∧kg=k2
   ·obtain⟨rfl,rfl,rfl⟩:=hm
    have HFI:Hid (findR (ms.map PMr.p) pr (ks,kg)=some ⟨pr,ri,ru,(ks,kg),px⟩):=Lib.hid (findR_hit (i:=i) (by rw[List.getElem?_map,HXI.out];rfl) (by simp) (fun j y hj hy=>by
     rw[List.getElem?_map]at hy
     cases hz:ms[j]? with
     | none=>rw[hz]at hy;cases hy
     | some m0 =>
      rw[hz]at hy
      cases hy
      exact HNO.out j m0 hj hz))
    have q5:Wa.cell? ⟨Nk,5,none⟩=some (.slice pA px.length pc):=HKa.out.cell 5
    have HJa:=Lib.hid (HJM.out.next (below_next HB0.out HBa.out))
    have g5:=HKa.out.frozen 5
    have e0:(pr==pr)=true:=by simp
    have e1:(ks==ks)=true:=by simp
    have e2:(kg==kg)=true:=by simp
    have q1:Wa.cell? ⟨Nk,1,none⟩=some (.int .i64 ri):=HKa.out.cell 1
    have q2:Wa.cell? ⟨Nk,2,none⟩=some (.int .i64 ru):=HKa.out.cell 2
    have hpl:=HXM.out
    go_upto_region 5 with fail
    clear q0 q1 q2 q3 q4 z0 z1 g5
    go_wp2_with (at_builtin;refine wpList_itemsF elemI rfl _ _ rfl Wa.heap.size (.slice none 0 0) 0 [] rfl (World.ownsRow_nil _ _ _ _) pA px.length pc px rfl HJa.out.ir (by omega) (by omega) (Nat.le_refl _) ?_;intro v9 w9 hown9 hb9 hg9 ho9;rw[I64_flat,List.nil_append,Nat.zero_add]at hown9;obtain⟨A9,c9,rfl,hj9⟩:=own_jr hown9;have HO9:=Lib.hid hown9;have HK9:=Lib.hid (HKa.out.next hb9);have HB9:=Lib.hid (below_next HBa.out hb9);have HJ9:=Lib.hid hj9;have q5:w9.cell? ⟨Nk,5,none⟩=some (.slice pA px.length pc):=HK9.out.cell 5;have g5:=HK9.out.frozen 5;have HFR:Hid (∀b o,A9=some ⟨b,o,none⟩→b ≠ Nk∧b ≠ w.heap.size+1):=Lib.hid (fr_find HO9.out HSZ.out HNG.out.2);have HK10:Hid (Blk (w9.setCell ⟨Nk,5,none⟩ (.slice A9 px.length c9)) Nk 83 #[.int .i64 pr,.int .i64 ri,.int .i64 ru,.int .u32 ks,.int .u32 kg,.slice A9 px.length c9]):=Lib.hid (HK9.out.set_to 5 (.slice A9 px.length c9) rfl);have HS10:=Lib.hid ((HS.out.next HB9.out).far (p:=⟨Nk,5,none⟩) (by show w.heap.size+1 ≠ Nk;exact HNG.out.1.symm) (.slice A9 px.length c9));have HB10:=Lib.hid ((HB0.out.trans (HB9.out.mono HB0.out.size)).setCell (p:=⟨Nk,5,none⟩) (by show w.heap.size≤Nk;have:=HNG.out.2;omega) (.slice A9 px.length c9));have HH10:Hid (∀b,b ≠ Nk→(w9.setCell ⟨Nk,5,none⟩ (.slice A9 px.length c9)).heap[b]?=w9.heap[b]?):=Lib.hid (fun b hb=>Below.heap_setCell _ _ _ _ (by simpa using hb));have n0:(w9.setCell ⟨Nk,5,none⟩ (.slice A9 px.length c9)).cell? ⟨Nk,0,none⟩=some (.int .i64 pr):=HK10.out.cell 0;have n1:(w9.setCell ⟨Nk,5,none⟩ (.slice A9 px.length c9)).cell? ⟨Nk,1,none⟩=some (.int .i64 ri):=HK10.out.cell 1;have n2:(w9.setCell ⟨Nk,5,none⟩ (.slice A9 px.length c9)).cell? ⟨Nk,2,none⟩=some (.int .i64 ru):=HK10.out.cell 2;have n3:(w9.setCell ⟨Nk,5,none⟩ (.slice A9 px.length c9)).cell? ⟨Nk,3,none⟩=some (.int .u32 ks):=HK10.out.cell 3;have n4:(w9.setCell ⟨Nk,5,none⟩ (.slice A9 px.length c9)).cell? ⟨Nk,4,none⟩=some (.int .u32 kg):=HK10.out.cell 4;have n5:(w9.setCell ⟨Nk,5,none⟩ (.slice A9 px.length c9)).cell? ⟨Nk,5,none⟩=some (.slice A9 px.length c9):=HK10.out.cell 5;obtain⟨W11,hW11,hk11,hb11,hh11⟩:=store6 HS10.out.slot HNB.out w HB10.out (.int .i64 pr) (.int .i64 ri) (.int .i64 ru) (.int .u32 ks) (.int .u32 kg) (.slice A9 px.length c9);have HW11:=Lib.hid hW11;have m0:(w9.setCell ⟨Nk,5,none⟩ (.slice A9 px.length c9)).cell? ⟨w.heap.size+1,0,none⟩=some (.int .i64 0):=HS10.out.cell 0;have f0:=HS10.out.frozen 0;have m1:(w9.setCell ⟨Nk,5,none⟩ (.slice A9 px.length c9)).cell? ⟨w.heap.size+1,1,none⟩=some (.int .i64 0):=HS10.out.cell 1;have f1:=HS10.out.frozen 1;have m2:(w9.setCell ⟨Nk,5,none⟩ (.slice A9 px.length c9)).cell? ⟨w.heap.size+1,2,none⟩=some (.int .i64 0):=HS10.out.cell 2;have f2:=HS10.out.frozen 2;have m3:(w9.setCell ⟨Nk,5,none⟩ (.slice A9 px.length c9)).cell? ⟨w.heap.size+1,3,none⟩=some (.int .u32 0):=HS10.out.cell 3;have f3:=HS10.out.frozen 3;have m4:(w9.setCell ⟨Nk,5,none⟩ (.slice A9 px.length c9)).cell? ⟨w.heap.size+1,4,none⟩=some (.int .u32 0):=HS10.out.cell 4;have f4:=HS10.out.frozen 4;have m5:(w9.setCell ⟨Nk,5,none⟩ (.slice A9 px.length c9)).cell? ⟨w.heap.size+1,5,none⟩=some (.slice none 0 0):=HS10.out.cell 5;have f5:=HS10.out.frozen 5;have HJ11:Hid (JR W11 A9 px.length px):=Lib.hid (HJ9.out.block (fun b o e=>(hh11 b (HFR.out b o e).2).trans (HH10.out b (HFR.out b o e).1)));have HK11:=Lib.hid (And.intro hk11 hb11);clear hW11 hh11 hk11 hb11 hown9 hj9 hg9 ho9 hb9)
    rw[←HW11.out]
    refine bodyPost_ret (ret_find _ (w.heap.size+1) _ _ _ _ _ _ _ _ rfl rfl (HK11.out.1.cell 0) (HK11.out.1.cell 1) (HK11.out.1.cell 2) (HK11.out.1.cell 3) (HK11.out.1.cell 4) (HK11.out.1.cell 5)) rfl ?_
    rw[HFI.out]
    exact⟨⟨A9,c9,rfl,HJ11.out⟩,HK11.out.2⟩
   ·have HNF:Hid (((pr==r)&&((ks==k1)&&(kg==k2)))=false):=Lib.hid (by
     simp only[Bool.and_eq_false_iff,beq_eq_false_iff_ne]
     by_cases h1:pr=r
     ·by_cases h2:ks=k1
      ·exact .inr (.inr (fun h3=>hm ⟨h1,h2,h3⟩))
      ·exact .inr (.inl h2)
     ·exact .inl h1)
    clear hm
    cases e0:(pr==r) with
    | false =>
     go_wp2
     go_roundw
     case rel=>exact⟨i+1,by omega,by go_num,Lib.hid (fun j m hj hm=>by
      by_cases e:j=i
      ·subst e;rw[HXI.out]at hm;cases hm;exact HNF.out
      ·exact HNO.out j m (by omega) hm),HBa⟩
     case measure=>simp[intOf];omega
    | true =>
     cases e1:(ks==k1) with
     | false =>
      go_wp2
      go_roundw
      case rel=>exact⟨i+1,by omega,by go_num,Lib.hid (fun j m hj hm=>by
       by_cases e:j=i
       ·subst e;rw[HXI.out]at hm;cases hm;exact HNF.out
       ·exact HNO.out j m (by omega) hm),HBa⟩
      case measure=>simp[intOf];omega
     | true =>
      cases e2:(kg==k2) with
      | false =>
       go_wp2
       go_roundw
       case rel=>exact⟨i+1,by omega,by go_num,Lib.hid (fun j m hj hm=>by
        by_cases e:j=i
        ·subst e;rw[HXI.out]at hm;cases hm;exact HNF.out
        ·exact HNO.out j m (by omega) hm),HBa⟩
       case measure=>simp[intOf];omega
      | true =>
       have:=HNF.out
       rw[e0,e1,e2]at this
       cases this
  ·obtain rfl:i=n:=by omega
   have hd:decide ((i:Int)<(i:Int))=false:=by simp
   have HFN:Hid (findR (ms.map PMr.p) r (k1,k2)=none):=Lib.hid (by
    unfold findR
    rw[List.find?_eq_none]
    intro y hy
    obtain⟨m,hm,rfl⟩:=List.mem_map.1 hy
    obtain⟨j,hj⟩:=List.mem_iff_getElem?.1 hm
    have:=HNO.out j m (by have:=(List.getElem?_eq_some_iff.1 hj).1;have:=HLEN.out;omega) hj
    rw[this];decide)
   obtain⟨W9,hW9,hk9,hb9,_⟩:=store6 (HS.out.next HB.out).slot HNB.out w (HB0.out.trans (HB.out.mono HB0.out.size)) (.int .i64 0) (.int .i64 0) (.int .i64 0) (.int .u32 0) (.int .u32 0) (.slice none 0 0)
   have HW9:=Lib.hid hW9
   have hS2:=HS.out.next HB.out
   have m0:=hS2.cell 0;have m1:=hS2.cell 1;have m2:=hS2.cell 2;have m3:=hS2.cell 3;have m4:=hS2.cell 4;have m5:=hS2.cell 5
   have f0:=hS2.frozen 0;have f1:=hS2.frozen 1;have f2:=hS2.frozen 2;have f3:=hS2.frozen 3;have f4:=hS2.frozen 4;have f5:=hS2.frozen 5
   simp only[List.getElem?_toArray,List.getElem?_cons_zero,List.getElem?_cons_succ]at m0 m1 m2 m3 m4 m5
   clear hW9 hS2
   have HK9:=Lib.hid (And.intro hk9 hb9)
   clear hk9 hb9
   go_wp2
   rw[←HW9.out]
   refine bodyPost_ret (ret_find _ (w.heap.size+1) _ _ _ _ _ _ _ _ rfl rfl (HK9.out.1.cell 0) (HK9.out.1.cell 1) (HK9.out.1.cell 2) (HK9.out.1.cell 3) (HK9.out.1.cell 4) (HK9.out.1.cell 5)) rfl ?_
   rw[HFN.out]
   exact⟨rfl,HK9.out.2⟩
end Go.Proofs.YtfidicbknjoafaaGreatDoor
