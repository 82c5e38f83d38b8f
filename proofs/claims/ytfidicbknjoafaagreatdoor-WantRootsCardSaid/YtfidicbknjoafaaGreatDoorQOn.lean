/- Rows of numbers as they lie in memory: held against one another, copied; over the seat's program. -/
import Derived.Test.YtfidicbknjoafaaGreatDoorQCp
import Derived.Test.YtfidicbknjoafaaGreatDoorQKit
import Derived.Test.YtfidicbknjoafaaGreatDoorQShelf
import Derived.OwnWalk
import Derived.Deep.RegionHeld3
import Derived.Test.YtfidicbknjoafaaGreatDoorProg
import Derived.WalkKit
import Derived.BigQuiet
import Derived.Deep.QuietTactic
import Derived.Deep.DeepAppendRoom
import Derived.Lib.SliceRun
import Derived.Maps.AppendAt
namespace Go.Proofs.YtfidicbknjoafaaGreatDoor
open Go.RowKit Lx Sm
def Mb.plain (m:Mb):Int × Int × Bool × List Int:=(m.l,m.g,m.o,m.xs)
structure Alike (x y:Cfg):Prop where
 r:y.rs=x.rs
 l:y.ls=x.ls
 p:y.ps=x.ps
 o:y.os=x.os
 g:y.gs=x.gs
 s:y.ss=x.ss
 m:y.ms.map Mb.plain=x.ms.map Mb.plain
def OwnS {α:Type} (b:Nat) (t:TypeId) (k:Nat) (enc:α→List Value) (n:Nat) (xs:List α) (v:Value) (W:World):Prop :=
 ∃A c,v=.slice A n c∧n≤c∧W.ownsRow b t k (.slice A n c) n (xs.flatMap enc)
def NewV (b:Nat) (t:TypeId) (k:Nat) (v:Value) (W:World):Prop:=∃N,v=.pointer (some ⟨N,0,none⟩)∧b≤N∧Slot W N t k
section
variable {α:Type} {b k n:Nat} {t:TypeId} {enc:α→List Value} {xs:List α} {v:Value} {W W':World}
theorem ownk_far {t':TypeId} {N k' i:Nat} {u:Value} {ys:List Value} (h:W.ownsRow b t k v n ys) (hs:Slot W N t' k') (ht:t ≠ t'):(W.setCell ⟨N,i,none⟩ u).ownsRow b t k v n ys:=by
 refine⟨h.1,?_⟩
 rcases h.2 with hn|⟨g,cap,cur,rfl,hbg,hh,rest⟩
 ·exact .inl hn
 ·refine .inr ⟨g,cap,cur,rfl,hbg,?_,rest⟩
  have hg:g ≠ N:=by
   rintro rfl
   obtain⟨cs,_,hc⟩:=hs
   unfold Blk at hc
   rw[hh]at hc
   cases hc
   exact ht rfl
  exact (Below.heap_setCell W ⟨N,i,none⟩ u g hg).trans hh
theorem OwnS.next (h:OwnS b t k enc n xs v W) (hb:Below W.heap.size W W'):OwnS b t k enc n xs v W':=by
 obtain⟨A,c,e,hc,ho⟩:=h
 exact⟨A,c,e,hc,ownk_next ho hb⟩
theorem NewV.next (h:NewV b t k v W) (hb:Below W.heap.size W W'):NewV b t k v W':=by
 obtain⟨N,e,hN,hs⟩:=h
 exact⟨N,e,hN,hs.next hb⟩
end
theorem slot7 {W:World} {N:Nat} {t:TypeId} (h:Slot W N t 7):(W.cell? ⟨N,0,none⟩=some (rd W ⟨N,0,none⟩)∧W.cell? ⟨N,1,none⟩=some (rd W ⟨N,1,none⟩)∧W.cell? ⟨N,2,none⟩=some (rd W ⟨N,2,none⟩)∧W.cell? ⟨N,3,none⟩=some (rd W ⟨N,3,none⟩)∧W.cell? ⟨N,4,none⟩=some (rd W ⟨N,4,none⟩)∧W.cell? ⟨N,5,none⟩=some (rd W ⟨N,5,none⟩)∧W.cell? ⟨N,6,none⟩=some (rd W ⟨N,6,none⟩)) ∧
  W.frozen? ⟨N,0,none⟩=false∧W.frozen? ⟨N,1,none⟩=false∧W.frozen? ⟨N,2,none⟩=false∧W.frozen? ⟨N,3,none⟩=false∧W.frozen? ⟨N,4,none⟩=false∧W.frozen? ⟨N,5,none⟩=false∧W.frozen? ⟨N,6,none⟩=false :=
 ⟨⟨h.cell (by omega),h.cell (by omega),h.cell (by omega),h.cell (by omega),h.cell (by omega),h.cell (by omega),h.cell (by omega)⟩,h.frozen 0,h.frozen 1,h.frozen 2,h.frozen 3,h.frozen 4,h.frozen 5,h.frozen 6⟩
theorem setCell_idem {w:World} {p:Addr} {v:Value} (h:w.cell? p=some v):w.setCell p v=w:=by
 have hh:(w.setCell p v).heap=w.heap:=by
  unfold World.setCell
  dsimp only
  apply Array.ext_getElem?
  intro i
  rw[Array.getElem?_modify]
  split
  ·rename_i e
   subst e
   unfold World.cell? at h
   cases ho:w.heap[p.block]? with
   | none=>rfl
   | some o =>
    rw[ho]at h
    cases o <;> simp only[Option.map_some]
    rename_i c t f
    simp only at h
    split at h
    ·cases h
    ·rename_i hs
     rw[if_neg hs]
     obtain⟨hl,hv⟩:=Array.getElem?_eq_some_iff.1 h
     have:c.setIfInBounds p.off v=c:=by
      apply Array.ext_getElem?
      intro j
      rw[Array.getElem?_setIfInBounds]
      split
      ·rename_i e2;subst e2;simp[hl,hv]
      ·rfl
     rw[this]
  ·rfl
 calc w.setCell p v={ w with heap:=(w.setCell p v).heap }:=rfl
  _=w:=by rw[hh]
theorem below_idem {B:Nat} {w W:World} {p:Addr} {v:Value} (hb:Below B w W) (h:W.cell? p=some v):Below B w (W.setCell p v):=by rw[setCell_idem h];exact hb
theorem store7 {W:World} {N b:Nat} {t:TypeId} (hs:Slot W N t 7) (hN:b≤N) (v0 v1 v2 v3 v4 v5 v6:Value):∃W',W'=((((((W.setCell ⟨N,0,none⟩ v0).setCell ⟨N,1,none⟩ v1).setCell ⟨N,2,none⟩ v2).setCell ⟨N,3,none⟩ v3).setCell ⟨N,4,none⟩ v4).setCell ⟨N,5,none⟩ v5).setCell ⟨N,6,none⟩ v6 ∧
  Blk W' N t #[v0,v1,v2,v3,v4,v5,v6]∧(∀w,Below b w W→Below b w W')∧∀ {t':TypeId} {k n:Nat} {v:Value} {ys:List Value},t' ≠ t→W.ownsRow b t' k v n ys→W'.ownsRow b t' k v n ys:=by
 refine⟨_,rfl,?_,?_,?_⟩
 ·obtain⟨cs,hz,hb⟩:=hs
  have h:=((((((hb.set_ 0 v0).set_ 1 v1).set_ 2 v2).set_ 3 v3).set_ 4 v4).set_ 5 v5).set_ 6 v6
  have e:((((((cs.setIfInBounds 0 v0).setIfInBounds 1 v1).setIfInBounds 2 v2).setIfInBounds 3 v3).setIfInBounds 4 v4).setIfInBounds 5 v5).setIfInBounds 6 v6=#[v0,v1,v2,v3,v4,v5,v6]:=by
   apply Array.ext_getElem?
   intro i
   rcases i with _ | _ | _ | _ | _ | _ | _|i <;> simp[hz]
  rw[e]at h
  exact h
 ·intro w hb
  exact ((((((hb.setCell (by simpa using hN) _).setCell (by simpa using hN) _).setCell (by simpa using hN) _).setCell (by simpa using hN) _).setCell (by simpa using hN) _).setCell (by simpa using hN) _).setCell (by simpa using hN) _
 ·intro t' k n v ys ht h
  have s0:=hs.store 0 v0
  have s1:=s0.store 1 v1
  have s2:=s1.store 2 v2
  have s3:=s2.store 3 v3
  have s4:=s3.store 4 v4
  have s5:=s4.store 5 v5
  exact ownk_far (ownk_far (ownk_far (ownk_far (ownk_far (ownk_far (ownk_far h hs ht) s0 ht) s1 ht) s2 ht) s3 ht) s4 ht) s5 ht
theorem own_item {α:Type} {enc:α→List Value} {b t k n c:Nat} {A:Option Addr} {xs:List α} {W:World} (hk:∀x,(enc x).length=k) (h:W.ownsRow b t k (.slice A n c) n (xs.flatMap enc)) (hl:xs.length=n) {i:Nat} (hi:i<n) :
  ∃g o x,A=some ⟨g,o,none⟩∧o=0∧b≤g∧g<W.heap.size∧(∃cs,Blk W g t cs)∧xs[i]?=some x∧∀j v,(enc x)[j]?=some v→W.cell? ⟨g,o+i*k+j,none⟩=some v:=by
 subst hl
 obtain⟨A',c',e',_,hir⟩:=IR.of_own hk h
 cases e'
 obtain⟨b',o',x,eA,_,hx,hc⟩:=IR.at_ hir hi
 rcases h.2 with ⟨e,hn⟩|⟨g,cap,cur,e,hbg,hh,_⟩
 ·omega
 ·cases e
  cases eA
  exact⟨_,_,x,rfl,rfl,hbg,(Array.getElem?_eq_some_iff.1 hh).1,⟨cur,hh⟩,hx,hc⟩
theorem own_ir {α:Type} {enc:α→List Value} {b t k n c:Nat} {A:Option Addr} {xs:List α} {W:World} (hk:∀x,(enc x).length=k) (hl:xs.length=n) (h:W.ownsRow b t k (.slice A n c) n (xs.flatMap enc)):IR enc k W A n xs:=by
 subst hl
 obtain⟨A',c',e',_,hir⟩:=IR.of_own hk h
 cases e'
 exact hir
theorem clone_str (s:ByteArray) (w:World) (hs:s.size≤281474976710656) :
  Calls Tryz.prog 104 #[.string s] w fun e w'=>e=.returned (.string s)∧Below w.heap.size w w':=by
 have H:=Lib.hid (Tryz.stringslite_Clone s w hs)
 go_enter Tryz.func104,Tryz.ntmps104
 go_wp2_with (go_at_call 182;refine H.out.mono ?_;rintro e w1 ⟨rfl,hb⟩)
 go_ret
 exact⟨rfl,hb⟩
theorem flat_set:∀ (ys:List Mb) (i:Nat) (m:Mb) (A:Option Addr) (n c:Nat),ys[i]?=some m→(ys.flatMap CMember).set (i*4+3) (.slice A n c)=(ys.set i { m with A:=A,n:=n,c:=c }).flatMap CMember
 | [],_,_,_,_,_,h=>by simp at h
 | y :: ys,0,m,A,n,c,h=>by
  simp at h;subst h
  obtain⟨l,g,o,_,_,_,xs⟩:=y
  simp[CMember]
 | y :: ys,i+1,m,A,n,c,h=>by
  have h1:=flat_set ys i m A n c (by simpa using h)
  rw[List.flatMap_cons,List.set_cons_succ,List.flatMap_cons,←h1,show (i+1)*4+3=4+(i*4+3) by omega]
  obtain⟨l,g,o,_,_,_,xs⟩:=y
  simp[CMember]
  rw[show 4+(i*4+3)=i*4+3+4 by omega]
  rfl
structure OffB (b g:Nat) (W W':World):Prop where
 b:Below b W W'
 size:W.heap.size≤W'.heap.size
 old:∀c,c<W.heap.size→c ≠ g→W'.heap[c]?=W.heap[c]?
 slot:∀t k,Slot W g t k→Slot W' g t k
section
variable {b g:Nat} {W W' W'':World}
theorem OffB.refl (b g:Nat) (W:World):OffB b g W W:=⟨Below.refl _ _,Nat.le_refl _,fun _ _ _=>rfl,fun _ _ h=>h⟩
theorem OffB.next (h:OffB b g W W') (hb:Below W'.heap.size W' W'') (hl:b≤W'.heap.size):OffB b g W W'' :=
 ⟨h.b.trans (hb.mono hl),Nat.le_trans h.size hb.size,fun c hc hn=>(hb.block c (Nat.lt_of_lt_of_le hc h.size)).trans (h.old c hc hn),fun t k hs=>(h.slot t k hs).next hb⟩
theorem OffB.drew (h:OffB b g W W'):OffB b g W W'.drew:=⟨h.b.drew,h.size,h.old,fun t k hs=>(h.slot t k hs).next (Below.refl _ _).drew⟩
theorem OffB.store (h:OffB b g W W') (hg:b≤g) (i:Nat) (u:Value):OffB b g W (W'.setCell ⟨g,i,none⟩ u) :=
 ⟨h.b.setCell (by simpa using hg) u,by simpa using h.size,fun c hc hn=>(Below.heap_setCell W' ⟨g,i,none⟩ u c hn).trans (h.old c hc hn),fun t k hs=>(h.slot t k hs).store i u⟩
theorem OffB.cell (h:OffB b g W W') {p:Addr} {v:Value} (hn:p.block ≠ g) (hc:W.cell? p=some v):W'.cell? p=some v :=
 (World.cell?_of_block (h.old _ (World.block_lt_of_cell? W p hc) hn)).trans hc
end
structure Fr (W1:World) (b N:Nat) (t:TypeId) (cells:Array Value) (os:List (TypeId × Nat × Value × Nat × List Value)) (W:World):Prop where
 hb:Below b W1 W
 blk:Blk W N t cells
 own:∀q∈os,W.ownsRow b q.1 q.2.1 q.2.2.1 q.2.2.2.1 q.2.2.2.2
theorem Fr.next {W1 W W':World} {b N:Nat} {t:TypeId} {cells:Array Value} {os:List (TypeId × Nat × Value × Nat × List Value)} (h:Fr W1 b N t cells os W) (hb:Below W.heap.size W W') (hl:b≤W.heap.size):Fr W1 b N t cells os W' :=
 ⟨h.hb.trans (hb.mono hl),h.blk.next hb,fun q hq=>ownk_next (h.own q hq) hb⟩
theorem Fr.store {W1 W:World} {b N g:Nat} {t tm:TypeId} {cells cs:Array Value} {os:List (TypeId × Nat × Value × Nat × List Value)} (h:Fr W1 b N t cells os W) (hg:Blk W g tm cs) (hl:b≤g) (ht:t ≠ tm) (hos:∀q∈os,q.1 ≠ tm) (i:Nat) (u:Value):Fr W1 b N t cells os (W.setCell ⟨g,i,none⟩ u) :=
 ⟨h.hb.setCell (by simpa using hl) u,h.blk.far (fun e=>by
  have h1:=h.blk
  simp only at e
  subst e
  unfold Blk at h1 hg
  rw[h1]at hg
  cases hg
  exact ht rfl) u,fun q hq=>ownk_far (h.own q hq) hg.slot (hos q hq)⟩
theorem AR.ir {w:World} {A:Option Addr} {n:Nat} {xs:List Int} (h:AR w A n xs):IR CAddr 1 w A n xs :=
 ⟨h.1,fun hn=>by
  obtain⟨b,o,e,hlt,hc⟩:=h.2.2 hn
  refine⟨b,o,e,hlt,fun i x hx j v hv=>?_⟩
  have hi:i<n:=by have:=(List.getElem?_eq_some_iff.1 hx).1;have:=h.1;omega
  obtain rfl:j=0:=by
   rcases j with _|j
   ·rfl
   ·simp[CAddr]at hv
  have:=hc i hi
  simp only[CAddr,List.getElem?_cons_zero,Option.some.injEq]at hv
  rw[Nat.mul_one,Nat.add_zero,this,←hv]
  simp[List.getD,hx]⟩
theorem flat_caddr (xs:List Int):xs.flatMap CAddr=A32 xs:=by
 induction xs with
 | nil=>rfl
 | cons x xs ih=>rw[List.flatMap_cons,ih];rfl
theorem plain_set {ys:List Mb} {k:Nat} {m m':Mb} (h:ys[k]?=some m) (hp:m'.plain=m.plain):(ys.set k m').map Mb.plain=ys.map Mb.plain:=by
 rw[List.map_set,hp]
 have h1:(ys.map Mb.plain)[k]?=some m.plain:=by rw[List.getElem?_map,h];rfl
 generalize ys.map Mb.plain=l at *
 apply List.ext_getElem?
 intro j
 rw[List.getElem?_set]
 split
 ·rename_i e;subst e;rw[h1,if_pos (List.getElem?_eq_some_iff.1 h1).1]
 ·rfl
theorem drop_get {α:Type} {xs ys:List α} {k:Nat} (h:ys.drop k=xs.drop k):ys[k]?=xs[k]?:=by
 have:=congrArg (fun l=>l[0]?) h
 simpa using this
theorem drop_succ {α:Type} {xs ys:List α} {k:Nat} (h:ys.drop k=xs.drop k):ys.drop (k+1)=xs.drop (k+1):=by
 have:=congrArg (List.drop 1) h
 simpa [List.drop_drop] using this
theorem ret_clone (tm:Array Value) (N:Nat) (W:World) (v0 v1 v2 v3 v4 v5 v6:Value) (h2:tm.getD 2 undef=.pointer (some ⟨N,0,none⟩)) (c0:W.cell? ⟨N,0,none⟩=some v0) (c1:W.cell? ⟨N,1,none⟩=some v1) (c2:W.cell? ⟨N,2,none⟩=some v2) (c3:W.cell? ⟨N,3,none⟩=some v3) (c4:W.cell? ⟨N,4,none⟩=some v4) (c5:W.cell? ⟨N,5,none⟩=some v5) (c6:W.cell? ⟨N,6,none⟩=some v6) :
  (results Tryz.f50 tm).run Tryz.prog W=.ok (.agg #[v0,v1,v2,v3,v4,v5,v6]) W:=by
 have h2':tm[2]?.getD undef=.pointer (some ⟨N,0,none⟩):=by simpa using h2
 simp[results,Tryz.results50,go_sem,h2',c0,c1,c2,c3,c4,c5,c6]
structure CWo (W:World) (b:Nat) (M:Cm) (x:Cfg):Prop where
 r:W.ownsRow b 165 2 (.slice M.r.A M.r.n M.r.c) M.r.n (x.rs.flatMap CRouter)
 l:W.ownsRow b 127 3 (.slice M.l.A M.l.n M.l.c) M.l.n (x.ls.flatMap CLink)
 p:W.ownsRow b 107 3 (.slice M.p.A M.p.n M.p.c) M.p.n (x.ps.flatMap CPort)
 o:W.ownsRow b 130 5 (.slice M.o.A M.o.n M.o.c) M.o.n (x.os.flatMap CRoute)
 g:W.ownsRow b 149 3 (.slice M.g.A M.g.n M.g.c) M.g.n (x.gs.flatMap CRange)
 s:W.ownsRow b 147 3 (.slice M.s.A M.s.n M.s.c) M.s.n (x.ss.flatMap CSource)
 m:W.ownsRow b 117 4 (.slice M.m.A M.m.n M.m.c) M.m.n (x.ms.flatMap CMember)
 len:x.rs.length=M.r.n∧x.ls.length=M.l.n∧x.ps.length=M.p.n∧x.os.length=M.o.n∧x.gs.length=M.g.n∧x.ss.length=M.s.n∧x.ms.length=M.m.n
 oks:M.r.ok∧M.l.ok∧M.p.ok∧M.o.ok∧M.g.ok∧M.s.ok∧M.m.ok
 src:∀y∈x.ms,y.n≤y.c∧y.n≤1000000∧IsAs y.xs∧W.ownsRow b 42 1 (.slice y.A y.n y.c) y.n (A32 y.xs)
 ok:x.ok
theorem CWo.cw {W:World} {b:Nat} {M:Cm} {x:Cfg} (h:CWo W b M x):CW W M x:=by
 obtain⟨h1,h2,h3,h4,h5,h6,h7⟩:=h.len
 obtain⟨k1,k2,k3,k4,k5,k6,k7⟩:=h.oks
 refine⟨own_ir router_len h1 h.r,own_ir link_len h2 h.l,own_ir port_len h3 h.p,own_ir route_len h4 h.o,own_ir range_len h5 h.g,own_ir source_len h6 h.s,own_ir member_len h7 h.m,k1,k2,k3,k4,k5,k6,k7,fun y hy=>?_,h.ok⟩
 obtain⟨a1,a2,a3,a4⟩:=h.src y hy
 obtain⟨A,c,e,_,har,_⟩:=own_forma a4 a3
 cases e
 exact⟨har,a1,a2⟩
structure Fr2 (W W':World):Prop where
 size:W.heap.size≤W'.heap.size
 old:∀g t cs,Blk W g t cs→t ≠ 3→t ≠ 52→W'.heap[g]?=W.heap[g]?
section
variable {W W' W'':World} {b:Nat} {M:Cm} {x:Cfg}
theorem Fr2.refl (W:World):Fr2 W W:=⟨Nat.le_refl _,fun _ _ _ _ _ _=>rfl⟩
theorem Fr2.trans (h:Fr2 W W') (k:Fr2 W' W''):Fr2 W W'':=⟨Nat.le_trans h.size k.size,fun g t cs hb h1 h2=>(k.old g t cs ((h.old g t cs hb h1 h2).trans hb) h1 h2).trans (h.old g t cs hb h1 h2)⟩
theorem Fr2.below (h:Below W.heap.size W W'):Fr2 W W':=⟨h.size,fun g _ _ hb _ _=>h.block g hb.lt⟩
theorem Fr2.blk {g:Nat} {t:TypeId} {cs:Array Value} (h:Fr2 W W') (hb:Blk W g t cs) (h1:t ≠ 3) (h2:t ≠ 52):Blk W' g t cs:=(h.old g t cs hb h1 h2).trans hb
theorem Fr2.own {t:TypeId} {k n:Nat} {v:Value} {ys:List Value} (h:Fr2 W W') (ho:W.ownsRow b t k v n ys) (h1:t ≠ 3) (h2:t ≠ 52):W'.ownsRow b t k v n ys:=by
 refine⟨ho.1,?_⟩
 rcases ho.2 with hn|⟨g,cap,cur,rfl,hbg,hh,rest⟩
 ·exact .inl hn
 ·exact .inr ⟨g,cap,cur,rfl,hbg,(h.old g t cur hh h1 h2).trans hh,rest⟩
theorem CWo.fr (h:CWo W b M x) (k:Fr2 W W'):CWo W' b M x :=
 ⟨k.own h.r (by decide) (by decide),k.own h.l (by decide) (by decide),k.own h.p (by decide) (by decide),k.own h.o (by decide) (by decide),k.own h.g (by decide) (by decide),k.own h.s (by decide) (by decide),k.own h.m (by decide) (by decide),h.len,h.oks,
  fun y hy=>⟨(h.src y hy).1,(h.src y hy).2.1,(h.src y hy).2.2.1,k.own (h.src y hy).2.2.2 (by decide) (by decide)⟩,h.ok⟩
theorem Fr2.grown {row:Option Nat} (h:W.grownBy W' row) (hr:∀g,row=some g→∀t cs,Blk W g t cs→t=3∨t=52):Fr2 W W' :=
 ⟨h.size,fun g t cs hb h1 h2=>h.block g hb.lt (fun e=>by
  rcases hr g e.symm t cs hb with rfl|rfl
  ·exact h1 rfl
  ·exact h2 rfl)⟩
theorem Fr2.store {g:Nat} {t:TypeId} {cs:Array Value} (hb:Blk W g t cs) (ht:t=3∨t=52) (i:Nat) (u:Value):Fr2 W (W.setCell ⟨g,i,none⟩ u) :=
 ⟨by simp,fun c t' cs' hc h1 h2=>Below.heap_setCell W ⟨g,i,none⟩ u c (fun e=>by
  simp only at e
  subst e
  unfold Blk at hb hc
  rw[hb]at hc
  cases hc
  rcases ht with rfl|rfl
  ·exact h1 rfl
  ·exact h2 rfl)⟩
end
end Go.Proofs.YtfidicbknjoafaaGreatDoor
namespace Go.Proofs.YtfidicbknjoafaaGreatDoor
open Go.RowKit
theorem own_at {w w':World} {base size n:Nat} {e:TypeId} {v:Value} {xs:List Value} (h:w.ownsRow base e size v n xs) (hk:∀g,v.ownBlock=some g→w'.heap[g]?=w.heap[g]?):w'.ownsRow base e size v n xs:=by
 refine⟨h.1,?_⟩
 rcases h.2 with hn|⟨g,cap,cur,rfl,hb,hgg,rest⟩
 ·exact .inl hn
 ·exact .inr ⟨g,cap,cur,rfl,hb,(hk g rfl).trans hgg,rest⟩
def I64 (xs:List Int):List Value:=xs.map (Value.int .i64)
theorem I64_app (xs ys:List Int):I64 (xs++ys)=I64 xs++I64 ys:=by simp[I64]
theorem I64_one (xs:List Int):∀u∈I64 xs,u.oneCell'=true:=by
 intro u hu;obtain⟨x,_,rfl⟩:=List.mem_map.1 hu;rfl
theorem info_int:(Tryz.prog.info? 3).map (fun i=>(i.zero,i.size,i.bytes))=some (some (.int .i64 0),1,8):=by kernel_rfl
theorem take_next {xs:List Int} {k:Nat} (h:k<xs.length):xs.take (k+1)=xs.take k++[xs.getD k 0]:=by
 rw[List.take_succ_eq_append_getElem h];simp[List.getD,h]
def JR (w:World) (A:Option Addr) (n:Nat) (xs:List Int):Prop :=
 xs.length=n∧(0<n→∃b o,A=some ⟨b,o,none⟩∧b<w.heap.size∧∀i,i<n→w.cell? ⟨b,o+i,none⟩=some (.int .i64 (xs.getD i 0)))
section
variable {w w':World} {A:Option Addr} {n:Nat} {xs:List Int}
theorem JR.next (h:JR w A n xs) (hb:Below w.heap.size w w'):JR w' A n xs :=
 ⟨h.1,fun hn=>by
  obtain⟨b,o,e,hlt,hc⟩:=h.2 hn
  exact⟨b,o,e,Nat.lt_of_lt_of_le hlt hb.size,fun i hi=>(hb.cell (p:=⟨b,o+i,none⟩) hlt).trans (hc i hi)⟩⟩
theorem JR.at_ {k:Nat} (h:JR w A n xs) (hk:k<n):∃b o,A=some ⟨b,o,none⟩∧b<w.heap.size∧w.cell? ⟨b,o+k,none⟩=some (.int .i64 (xs.getD k 0)):=by
 obtain⟨b,o,e,hlt,hc⟩:=h.2 (by omega)
 exact⟨b,o,e,hlt,hc k hk⟩
theorem own_jr {base:Nat} {v:Value} (h:w.ownsRow base 3 1 v xs.length (I64 xs)):∃A c,v=.slice A xs.length c∧JR w A xs.length xs:=by
 have h0:=h
 rcases h.2 with ⟨rfl,hl⟩|⟨g,cap,cur,rfl,hbg,hh,hnc,_⟩
 ·exact⟨none,0,by rw[hl],rfl,fun hn=>by omega⟩
 ·refine⟨_,cap,rfl,rfl,fun _=>⟨g,0,rfl,(Array.getElem?_eq_some_iff.1 hh).1,fun i hi=>?_⟩⟩
  rw[Nat.zero_add,h0.cellAt i (by omega)]
  simp[I64,List.getD,hi]
end
theorem jr_one (w:World) (x:Int) (t:TypeId):JR (w.alloc (.cells #[.int .i64 x] t)) (some ⟨w.heap.size,0,none⟩) 1 [x] :=
 ⟨rfl,fun _=>⟨_,0,rfl,by simp,fun i hi=>by
  obtain rfl:i=0:=by omega
  simp⟩⟩
theorem jsame_any (A B:Option Addr) (n m c d:Nat) (xs ys:List Int) (w:World) (h:JR w A n xs) (g:JR w B m ys) (hn:n≤1048576) (hm:m≤1048576) :
  Calls Tryz.prog 17 #[.slice A n c,.slice B m d] w fun e w'=>e=.returned (.bool (decide (xs=ys)))∧Below w.heap.size w w':=by
 have hl:=h.1
 have gl:=g.1
 by_cases he:n=m
 ·subst he
  have hne:((n:Int) != (n:Int))=false:=by simp
  go_enter Tryz.func17,Tryz.ntmps17
  go_wp2_with fail
  go_loopw [5] (fun i wr=>∃k:Nat,k≤n∧i=.int .i64 k∧Below w.heap.size w wr∧xs.take k=ys.take k) (fun i _=>n - (intOf i).toNat)
  case atStart=>exact⟨0,Nat.zero_le _,rfl,Below.refl _ _,rfl⟩
  case round =>
   obtain⟨k,hk,rfl,hbw,hs⟩:=hrel
   rcases Nat.lt_or_ge k n with hlt|hge
   ·obtain⟨b,o,rfl,_,hc0⟩:=(h.next hbw).at_ hlt
    obtain⟨b',o',rfl,_,hc1⟩:=(g.next hbw).at_ hlt
    have HT:=Lib.hid (take_next (xs:=xs) (k:=k) (by omega))
    have GT:=Lib.hid (take_next (xs:=ys) (k:=k) (by omega))
    have hi0:(k:Int)<n:=by omega
    have HB:=Lib.hid hbw
    have HS:=Lib.hid hs
    by_cases hv:xs.getD k 0=ys.getD k 0
    ·have hve:(xs.getD k 0==ys.getD k 0)=true:=by simpa using hv
     have HV:=Lib.hid hv
     clear hbw hs hv
     generalize xs.getD k 0=u at *
     generalize ys.getD k 0=v at *
     go_wp2_with fail
     go_quiet (fail)
     go_wp2
     go_roundw
     case rel=>exact⟨k+1,by omega,by go_num,below_drewN HB.out _,by rw[HT.out,GT.out,HS.out,HV.out]⟩
     case measure=>simp[intOf];omega
    ·have hve:(xs.getD k 0==ys.getD k 0)=false:=by simpa using hv
     have HV:=Lib.hid (show decide (xs=ys)=false by
      rw[decide_eq_false_iff_not];rintro rfl;exact hv rfl)
     clear hbw hs hv
     generalize xs.getD k 0=u at *
     generalize ys.getD k 0=v at *
     go_wp2_with fail
     go_quiet (fail)
     go_wp2
     go_ret
     exact⟨ret_bool HV.out.symm,below_drewN HB.out _⟩
   ·obtain rfl:k=n:=by omega
    rw[List.take_of_length_le (by omega),List.take_of_length_le (by omega)]at hs
    go_wp2
    go_ret
    exact⟨ret_bool (by simp[hs]),hbw⟩
 ·have hne:((n:Int) != (m:Int))=true:=by simp;omega
  go_enter Tryz.func17,Tryz.ntmps17
  go_wp2
  go_ret
  exact⟨ret_bool (by rw[eq_comm,decide_eq_false_iff_not];rintro rfl;omega),Below.refl _ _⟩
theorem JR.block {w w':World} {A:Option Addr} {n:Nat} {xs:List Int} (h:JR w A n xs) (hb:∀b o,A=some ⟨b,o,none⟩→w'.heap[b]?=w.heap[b]?):JR w' A n xs :=
 ⟨h.1,fun hn=>by
  obtain⟨b,o,e,hlt,hc⟩:=h.2 hn
  have hk:=hb b o e
  refine⟨b,o,e,?_,fun i hi=>(World.cell?_of_block (a:=⟨b,o+i,none⟩) hk).trans (hc i hi)⟩
  have h1:=Array.getElem?_eq_getElem hlt
  rw[←hk]at h1
  exact (Array.getElem?_eq_some_iff.1 h1).1⟩
end Go.Proofs.YtfidicbknjoafaaGreatDoor
namespace Go.Proofs.YtfidicbknjoafaaGreatDoor
open Go.RowKit Lx
def picks {α:Type} (p:α→Bool) (xs:List α):Nat→List Int
 | 0=>[]
 | n+1=>picks p xs n++(match xs[n]? with|some x=>if p x then [(n:Int)] else []|none=>[])
theorem picks_yes {α:Type} {p:α→Bool} {xs:List α} {n:Nat} {x:α} (h:xs[n]?=some x) (hp:p x=true):picks p xs (n+1)=picks p xs n++[(n:Int)]:=by
 show _++_=_;rw[h];simp[hp]
theorem picks_no {α:Type} {p:α→Bool} {xs:List α} {n:Nat} {x:α} (h:xs[n]?=some x) (hp:p x=false):picks p xs (n+1)=picks p xs n:=by
 show _++_=_;rw[h];simp[hp]
theorem picks_len {α:Type} (p:α→Bool) (xs:List α) (n:Nat):(picks p xs n).length≤n:=by
 induction n with
 | zero=>simp[picks]
 | succ n ih =>
  unfold picks
  rw[List.length_append]
  split
  ·split <;> simp <;> omega
  ·simp;omega
end Go.Proofs.YtfidicbknjoafaaGreatDoor
namespace Go.Proofs.YtfidicbknjoafaaGreatDoor
open Go.RowKit Lx
end Go.Proofs.YtfidicbknjoafaaGreatDoor
