/- topo's Config: the network, copied; over the seat's program. -/
import Derived.Test.YtfidicbknjoafaaGreatDoorQOn
import Derived.Test.YtfidicbknjoafaaGreatDoorProg
import Derived.Test.YtfidicbknjoafaaGreatDoorQMe
import Derived.Test.YtfidicbknjoafaaGreatDoorQName
import Derived.Test.YtfidicbknjoafaaGreatDoorQNw0
import Derived.Test.YtfidicbknjoafaaGreatDoorQCl
import Derived.Deep.Cut
namespace Go.Proofs.YtfidicbknjoafaaGreatDoor
open Go.RowKit Lx Sm
theorem among_next {xs:List Int} {k:Nat} {a:Int} (h:k<xs.length):(xs.take (k+1)).contains a=((xs.take k).contains a || (xs.getD k 0==a)):=by
 rw[List.take_succ_eq_append_getElem h,List.getD_eq_getElem?_getD,List.getElem?_eq_getElem h]
 simp only[Option.getD_some]
 rw[Bool.eq_iff_iff]
 simp only[List.contains_iff_mem,Bool.or_eq_true,beq_iff_eq,List.mem_append,List.mem_singleton]
 constructor
 ·rintro (h|h)
  ·exact .inl h
  ·exact .inr h.symm
 ·rintro (h|h)
  ·exact .inl h
  ·exact .inr h.symm
set_option maxHeartbeats 1000000 in
theorem among_any (A:Option Addr) (n c:Nat) (xs:List Int) (a:Int) (w:World) (h:JR w A n xs) (hn:n≤1000000) :
  Calls Tryz.prog 42 #[.slice A n c,.int .i64 a] w fun e w'=>e=.returned (.bool (xs.contains a))∧Below w.heap.size w w':=by
 have HR:=Lib.hid h
 have HL:=Lib.hid h.1
 clear h
 go_enter Tryz.func42,Tryz.ntmps42
 go_wp2_with fail
 go_loopw [5] (fun iv wr=>∃k:Nat,k≤n∧iv=.int .i64 k∧Hid ((xs.take k).contains a=false)∧Hid (Below w.heap.size w wr)) (fun iv _=>n - (intOf iv).toNat)
 case atStart=>exact⟨0,by omega,rfl,Lib.hid (by simp),Lib.hid (Below.refl _ _)⟩
 case round =>
  obtain⟨k,hk,rfl,HN,HB⟩:=hrel
  rcases Nat.lt_or_ge k n with hlt|hge
  ·obtain⟨b,o,rfl,_,hc⟩:=(HR.out.next HB.out).at_ hlt
   have HX:=Lib.hid (among_next (a:=a) (xs:=xs) (k:=k) (by rw[HL.out];exact hlt))
   have l1:(k:Int)<(n:Int):=by omega
   have l2:(0:Int)≤(k:Int):=by omega
   have HG:=Lib.hid (show (xs.getD k 0==a)=true→xs.contains a=true from fun e=>by
    rw[List.contains_iff_mem,←beq_iff_eq.1 e,List.getD_eq_getElem?_getD,List.getElem?_eq_getElem (by rw[HL.out];exact hlt)]
    exact List.getElem_mem _)
   generalize xs.getD k 0=y at *
   cases he:(y==a) with
   | true =>
    have HR2:=Lib.hid (HG.out he)
    go_wp2
    first|go_ret2|go_ret
    exact⟨by rw[HR2.out];rfl,HB.out⟩
   | false =>
    have HN2:Hid ((xs.take (k+1)).contains a=false):=Lib.hid (by rw[HX.out,HN.out,he];rfl)
    go_wp2
    go_roundw
    case rel=>exact⟨k+1,by omega,by go_num,HN2,HB⟩
    case measure=>simp[intOf];omega
  ·obtain rfl:n=k:=by omega
   have hd:decide ((n:Int)<(n:Int))=false:=by simp
   have HR2:Hid (xs.contains a=false):=Lib.hid (by have:=HN.out;rw[List.take_of_length_le (by rw[HL.out];exact Nat.le_refl _)]at this;exact this)
   go_wp2
   first|go_ret2|go_ret
   exact⟨by rw[HR2.out];rfl,HB.out⟩
end Go.Proofs.YtfidicbknjoafaaGreatDoor
namespace Go.Proofs.YtfidicbknjoafaaGreatDoor
open Go.RowKit Lx Sm
def adr (l n:Nat):Int:=167772160+(l:Int)*256+(n:Int)
theorem adr_u32 {l n:Nat} (hl:l<256) (hn:n<256):U32 (adr l n):=by unfold U32 adr;omega
theorem adr_or (l n:Nat) (hl:l<256) (hn:n<256):bits BinOp.or IntKind.u32 (bits BinOp.or IntKind.u32 167772160 ((l:Int)*256)) (n:Int)=adr l n:=by
 have p24:(2:Int) ^ 24=16777216:=by decide
 have p8:(2:Int) ^ 8=256:=by decide
 rw[Ad.or_join 167772160 ((l:Int)*256) 24 (by omega) (by omega) (by decide) (by omega) (by omega) (by omega),Ad.or_join (167772160+(l:Int)*256) (n:Int) 8 (by omega) (by omega) (by omega) (by omega) (by omega) (by omega)]
 rfl
theorem naddr_any (l n:Nat) (hl:l<256) (hn:n<256) (w:World) :
  Calls Tryz.prog 46 #[.int .i64 (l:Int),.int .i64 (n:Int)] w fun e w'=>e=.returned (.int .u32 (adr l n))∧w'=w:=by
 have HA:=Lib.hid (adr_or l n hl hn)
 go_enter Tryz.func46,Tryz.ntmps46
 go_wp2
 go_ret
 exact⟨by rw[←HA.out];rfl,rfl⟩
def nm (c:UInt8) (n:Nat):List UInt8:=[c,UInt8.ofNat (48+n)]
theorem nm_cases {n:Nat} (h:n<10):n=0∨n=1∨n=2∨n=3∨n=4∨n=5∨n=6∨n=7∨n=8∨n=9:=by omega
theorem nname_any (n:Nat) (hn:n<10) (c:UInt8) (hc:c=108∨c=114) (w:World) :
    Calls Tryz.prog 83 #[.string ⟨#[c]⟩,.int .i64 (n:Int)] w fun e w'=>e=.returned (.string (str (nm c n)))∧w'=w:=by
  rcases hc with rfl|rfl <;> rcases nm_cases hn with rfl|rfl|rfl|rfl|rfl|rfl|rfl|rfl|rfl|rfl <;>
    (go_enter Tryz.func83, Tryz.ntmps83
     go_wp2
     go_ret
     exact⟨by rfl,rfl⟩)
theorem nlink_any (n:Nat) (hn:n<10) (w:World) :
  Calls Tryz.prog 82 #[.int .i64 (n:Int)] w fun e w'=>e=.returned (.agg #[.string (str (nm 108 n)),.int .u32 (adr n 0),.int .i64 24])∧Below w.heap.size w w':=by
 have HN:=Lib.hid fun W=>nname_any n hn 108 (.inl rfl) W
 have HA:=Lib.hid fun W=>naddr_any n 0 (by omega) (by omega) W
 generalize str (nm 108 n)=S at *
 generalize adr n 0=R at *
 go_enter Tryz.func82,Tryz.ntmps82
 go_wp2_with (first
  | (go_at_call 83;refine (HN.out _).mono ?_;rintro e w1 ⟨rfl,rfl⟩)
  | (go_at_call 46;refine (HA.out _).mono ?_;rintro e w1 ⟨rfl,rfl⟩))
 go_returns
 exact⟨rfl,(Below.refl _ _).alloc (Nat.le_refl _) _⟩
theorem nport_any (r l:Nat) (hr:r<200) (hl:l<200) (w:World) :
  Calls Tryz.prog 84 #[.int .i64 (r:Int),.int .i64 (l:Int)] w fun e w'=>e=.returned (.agg #[.int .i64 (r:Int),.int .i64 (l:Int),.int .u32 (adr l (r+1))])∧Below w.heap.size w w':=by
 have HA:=Lib.hid fun W=>naddr_any l (r+1) (by omega) (by omega) W
 have hr1:((r+1:Nat):Int)=(r:Int)+1:=by omega
 rw[hr1]at HA
 generalize adr l (r+1)=R at *
 go_enter Tryz.func84,Tryz.ntmps84
 go_wp2_with (go_at_call 46;refine (HA.out _).mono ?_;rintro e w1 ⟨rfl,rfl⟩)
 go_returns
 exact⟨rfl,(Below.refl _ _).alloc (Nat.le_refl _) _⟩
theorem ngroups_any (w:World) :
  Calls Tryz.prog 85 #[] w fun e w'=>e=.returned (.agg #[.int .u32 3758096384,.int .i64 4])∧Below w.heap.size w w':=by
 go_enter Tryz.func85,Tryz.ntmps85
 go_wp2
 go_returns
 exact⟨rfl,(Below.refl _ _).alloc (Nat.le_refl _) _⟩
end Go.Proofs.YtfidicbknjoafaaGreatDoor
namespace Go.Proofs.YtfidicbknjoafaaGreatDoor
open Go.RowKit Lx Sm
def lsK (k:Nat):List (List UInt8 × Int × Int):=(List.range k).map fun i:Nat=>(nm 108 i,adr i 0,24)
def rsK (k:Nat):List (List UInt8 × Int):=(List.range k).map fun i:Nat=>(nm 114 i,1)
def psK (k:Nat):List (Int × Int × Int):=(List.range k).flatMap fun i:Nat=>[((i:Int),(i:Int),adr i (i+1)),((i:Int),(i:Int)+1,adr (i+1) (i+1))]
def rtK (i k:Nat):List (Int × Int × Int × Int × Int):=if k<i then [((i:Int),adr k 0,24,adr i i,(i:Int) - (k:Int))] else if i+1<k then [((i:Int),adr k 0,24,adr (i+1) (i+2),(k:Int) - (i:Int))] else []
def colK (i k:Nat):List (Int × Int × Int × Int × Int):=(List.range k).flatMap (rtK i)
def osK (n i:Nat):List (Int × Int × Int × Int × Int):=(List.range i).flatMap fun j=>colK j (n+1)
def lineCfg (n r:Nat):Cfg:=⟨rsK n,lsK (n+1),psK n,osK n n,[(3758096384,4,adr r (r+1))],[],[]⟩
theorem lsK_s (k:Nat):lsK (k+1)=lsK k++[(nm 108 k,adr k 0,24)]:=by simp[lsK,List.range_succ]
theorem rsK_s (k:Nat):rsK (k+1)=rsK k++[(nm 114 k,1)]:=by simp[rsK,List.range_succ]
theorem psK_s (k:Nat):psK (k+1)=psK k++[((k:Int),(k:Int),adr k (k+1)),((k:Int),(k:Int)+1,adr (k+1) (k+1))]:=by simp[psK,List.range_succ,List.flatMap_append]
theorem colK_s (i k:Nat):colK i (k+1)=colK i k++rtK i k:=by simp[colK,List.range_succ,List.flatMap_append]
theorem osK_s (n i:Nat):osK n (i+1)=osK n i++colK i (n+1):=by simp[osK,List.range_succ,List.flatMap_append]
theorem lsK_at {k q:Nat} (h:q<k):(lsK k)[q]?=some (nm 108 q,adr q 0,24):=by simp[lsK,h]
theorem lsK_len (k:Nat):(lsK k).length=k:=by simp[lsK]
theorem rsK_len (k:Nat):(rsK k).length=k:=by simp[rsK]
theorem psK_len:∀k:Nat,(psK k).length=2*k
 | 0=>rfl
 | k+1=>by rw[psK_s,List.length_append,psK_len k];simp;omega
theorem rtK_len (i k:Nat):(rtK i k).length≤1:=by unfold rtK;split <;> (try split) <;> simp
theorem colK_len (i:Nat):∀k:Nat,(colK i k).length≤k
 | 0=>Nat.le_refl _
 | k+1=>by rw[colK_s,List.length_append];have:=colK_len i k;have:=rtK_len i k;omega
theorem osK_len (n:Nat):∀i:Nat,(osK n i).length≤i*(n+1)
 | 0=>by simp[osK]
 | i+1=>by rw[osK_s,List.length_append,Nat.succ_mul];have:=osK_len n i;have:=colK_len i (n+1);omega
structure LIl (w:World) (N R:Nat) (vr vl vp vo:Value) (rs:List (List UInt8 × Int)) (ls:List (List UInt8 × Int × Int)) (ps:List (Int × Int × Int)) (os:List (Int × Int × Int × Int × Int)) (W:World):Prop where
 lo:Below w.heap.size w W
 hN:w.heap.size≤N
 hR:w.heap.size≤R
 ne:R ≠ N
 blk:Blk W N 30 #[vr,vl,vp,vo,.slice none 0 0,.slice none 0 0,.slice none 0 0]
 res:Slot W R 30 7
 r:W.ownsRow w.heap.size 165 2 vr rs.length (rs.flatMap CRouter)
 l:W.ownsRow w.heap.size 127 3 vl ls.length (ls.flatMap CLink)
 p:W.ownsRow w.heap.size 107 3 vp ps.length (ps.flatMap CPort)
 o:W.ownsRow w.heap.size 130 5 vo os.length (os.flatMap CRoute)
section
variable {w W W' W2:World} {N R:Nat} {vr vl vp vo v':Value} {rs:List (List UInt8 × Int)} {ls:List (List UInt8 × Int × Int)} {ps:List (Int × Int × Int)} {os:List (Int × Int × Int × Int × Int)}
theorem LIl.next (h:LIl w N R vr vl vp vo rs ls ps os W) (hb:Below W.heap.size W W'):LIl w N R vr vl vp vo rs ls ps os W' :=
 ⟨h.lo.trans (hb.mono h.lo.size),h.hN,h.hR,h.ne,h.blk.next hb,h.res.next hb,ownk_next h.r hb,ownk_next h.l hb,ownk_next h.p hb,ownk_next h.o hb⟩
theorem own_by {b:Nat} {t t':TypeId} {k k' n n':Nat} {v u:Value} {ys zs:List Value} (h:W.ownsRow b t k v n ys) (ho:W.ownsRow b t' k' u n' zs) (hg:W.grownBy W2 u.ownBlock) (ht:t ≠ t'):W2.ownsRow b t k v n ys :=
 own_at h fun g e=>hg.block g (h.lt g e).2 (fun e2=>by
  obtain⟨cs,h1⟩:=own_blk h e
  obtain⟨cs',h2⟩:=own_blk ho e2.symm
  unfold Blk at h1 h2
  rw[h1]at h2
  cases h2
  exact ht rfl)
theorem blk_by {b g:Nat} {t t':TypeId} {k' n':Nat} {u:Value} {zs:List Value} {cs:Array Value} (h:Blk W g t cs) (ho:W.ownsRow b t' k' u n' zs) (hg:W.grownBy W2 u.ownBlock) (ht:t ≠ t'):Blk W2 g t cs :=
 (hg.block g h.lt (fun e2=>by
  obtain⟨cs',h2⟩:=own_blk ho e2.symm
  unfold Blk at h h2
  rw[h]at h2
  cases h2
  exact ht rfl)).trans h
theorem row_not {b g:Nat} {t t':TypeId} {k' n':Nat} {u:Value} {zs:List Value} {cs:Array Value} (h:Blk W g t cs) (ho:W.ownsRow b t' k' u n' zs) (ht:t ≠ t'):u.ownBlock ≠ some g:=fun e=>by
 obtain⟨cs',h2⟩:=own_blk ho e
 unfold Blk at h h2
 rw[h]at h2
 cases h2
 exact ht rfl
theorem LIl.step_r (h:LIl w N R vr vl vp vo rs ls ps os W) {new:List (List UInt8 × Int)} (hg:W.grownBy W2 vr.ownBlock) (ho:W2.ownsRow w.heap.size 165 2 v' (rs++new).length ((rs++new).flatMap CRouter)) :
  LIl w N R v' vl vp vo (rs++new) ls ps os (W2.setCell ⟨N,0,none⟩ v'):=by
 have hN2:=blk_by h.blk h.r hg (by decide)
 obtain⟨cs,hz,hR1⟩:=h.res
 have hR2:=blk_by hR1 h.r hg (by decide)
 exact⟨(h.lo.grown hg h.lo.size (fun j e=>(h.r.lt j e).1)).setCell h.hN v',h.hN,h.hR,h.ne,hN2.set_to 0 v' (by simp),⟨cs,hz,hR2.far h.ne v'⟩,ownk_far ho hN2.slot (by decide),ownk_far (own_by h.l h.r hg (by decide)) hN2.slot (by decide),ownk_far (own_by h.p h.r hg (by decide)) hN2.slot (by decide),ownk_far (own_by h.o h.r hg (by decide)) hN2.slot (by decide)⟩
theorem LIl.step_l (h:LIl w N R vr vl vp vo rs ls ps os W) {new:List (List UInt8 × Int × Int)} (hg:W.grownBy W2 vl.ownBlock) (ho:W2.ownsRow w.heap.size 127 3 v' (ls++new).length ((ls++new).flatMap CLink)) :
  LIl w N R vr v' vp vo rs (ls++new) ps os (W2.setCell ⟨N,1,none⟩ v'):=by
 have hN2:=blk_by h.blk h.l hg (by decide)
 obtain⟨cs,hz,hR1⟩:=h.res
 have hR2:=blk_by hR1 h.l hg (by decide)
 exact⟨(h.lo.grown hg h.lo.size (fun j e=>(h.l.lt j e).1)).setCell h.hN v',h.hN,h.hR,h.ne,hN2.set_to 1 v' (by simp),⟨cs,hz,hR2.far h.ne v'⟩,ownk_far (own_by h.r h.l hg (by decide)) hN2.slot (by decide),ownk_far ho hN2.slot (by decide),ownk_far (own_by h.p h.l hg (by decide)) hN2.slot (by decide),ownk_far (own_by h.o h.l hg (by decide)) hN2.slot (by decide)⟩
theorem LIl.step_p (h:LIl w N R vr vl vp vo rs ls ps os W) {new:List (Int × Int × Int)} (hg:W.grownBy W2 vp.ownBlock) (ho:W2.ownsRow w.heap.size 107 3 v' (ps++new).length ((ps++new).flatMap CPort)) :
  LIl w N R vr vl v' vo rs ls (ps++new) os (W2.setCell ⟨N,2,none⟩ v'):=by
 have hN2:=blk_by h.blk h.p hg (by decide)
 obtain⟨cs,hz,hR1⟩:=h.res
 have hR2:=blk_by hR1 h.p hg (by decide)
 exact⟨(h.lo.grown hg h.lo.size (fun j e=>(h.p.lt j e).1)).setCell h.hN v',h.hN,h.hR,h.ne,hN2.set_to 2 v' (by simp),⟨cs,hz,hR2.far h.ne v'⟩,ownk_far (own_by h.r h.p hg (by decide)) hN2.slot (by decide),ownk_far (own_by h.l h.p hg (by decide)) hN2.slot (by decide),ownk_far ho hN2.slot (by decide),ownk_far (own_by h.o h.p hg (by decide)) hN2.slot (by decide)⟩
theorem LIl.step_o (h:LIl w N R vr vl vp vo rs ls ps os W) {new:List (Int × Int × Int × Int × Int)} (hg:W.grownBy W2 vo.ownBlock) (ho:W2.ownsRow w.heap.size 130 5 v' (os++new).length ((os++new).flatMap CRoute)) :
  LIl w N R vr vl vp v' rs ls ps (os++new) (W2.setCell ⟨N,3,none⟩ v'):=by
 have hN2:=blk_by h.blk h.o hg (by decide)
 obtain⟨cs,hz,hR1⟩:=h.res
 have hR2:=blk_by hR1 h.o hg (by decide)
 exact⟨(h.lo.grown hg h.lo.size (fun j e=>(h.o.lt j e).1)).setCell h.hN v',h.hN,h.hR,h.ne,hN2.set_to 3 v' (by simp),⟨cs,hz,hR2.far h.ne v'⟩,ownk_far (own_by h.r h.o hg (by decide)) hN2.slot (by decide),ownk_far (own_by h.l h.o hg (by decide)) hN2.slot (by decide),ownk_far (own_by h.p h.o hg (by decide)) hN2.slot (by decide),ownk_far ho hN2.slot (by decide)⟩
theorem LIl.fin (h:LIl w N R vr vl vp vo rs ls ps os W) (a:Int):∃W9,W9=(W.alloc (.cells #[.int .u32 3758096384,.int .i64 4,.int .u32 a] 149)).setCell ⟨N,4,none⟩ (.slice (some ⟨W.heap.size,0,none⟩) 1 1) ∧
  Below w.heap.size w W9∧Blk W9 N 30 #[vr,vl,vp,vo,.slice (some ⟨W.heap.size,0,none⟩) 1 1,.slice none 0 0,.slice none 0 0]∧Slot W9 R 30 7 ∧
  W9.ownsRow w.heap.size 165 2 vr rs.length (rs.flatMap CRouter)∧W9.ownsRow w.heap.size 127 3 vl ls.length (ls.flatMap CLink)∧W9.ownsRow w.heap.size 107 3 vp ps.length (ps.flatMap CPort)∧W9.ownsRow w.heap.size 130 5 vo os.length (os.flatMap CRoute) ∧
  W9.ownsRow w.heap.size 149 3 (.slice (some ⟨W.heap.size,0,none⟩) 1 1) [((3758096384:Int),(4:Int),a)].length ([((3758096384:Int),(4:Int),a)].flatMap CRange):=by
 have hb1:Below W.heap.size W (W.alloc (.cells #[.int .u32 3758096384,.int .i64 4,.int .u32 a] 149)):=(Below.refl _ _).alloc (Nat.le_refl _) _
 have h1:=h.next hb1
 have hr:(W.alloc (.cells #[.int .u32 3758096384,.int .i64 4,.int .u32 a] 149)).ownsRow w.heap.size 149 3 (.slice (some ⟨W.heap.size,0,none⟩) 1 1) 1 ([((3758096384:Int),(4:Int),a)].flatMap CRange) :=
  ⟨rfl,.inr ⟨W.heap.size,1,#[.int .u32 3758096384,.int .i64 4,.int .u32 a],rfl,h.lo.size,Blk.new _ _ _,Nat.le_refl _,by decide,rfl,rfl⟩⟩
 refine⟨_,rfl,h1.lo.setCell h1.hN _,h1.blk.set_to 4 _ (by simp),?_,ownk_far h1.r h1.blk.slot (by decide),ownk_far h1.l h1.blk.slot (by decide),ownk_far h1.p h1.blk.slot (by decide),ownk_far h1.o h1.blk.slot (by decide),ownk_far hr h1.blk.slot (by decide)⟩
 obtain⟨cs,hz,hR1⟩:=h1.res
 exact⟨cs,hz,hR1.far h.ne _⟩
end
def Kl (row:Option Nat) (a:Nat) (i:Nat) (w:World) (_:Value) (w':World):Prop:=if i=a then w.grownBy w' row else Below w.heap.size w w'
theorem Kl.grown {row:Option Nat} {a i:Nat} {w w':World} {v:Value} (k:Kl row a i w v w'):w.grownBy w' row:=by
 unfold Kl at k
 split at k
 ·exact k
 ·exact grown_below k
theorem Kl.below {row:Option Nat} {a i:Nat} {w w':World} {v:Value} (k:Kl row a i w v w') (h:i ≠ a):Below w.heap.size w w':=by unfold Kl at k;rwa [if_neg h]at k
theorem Kl.mk {row:Option Nat} {a i:Nat} {w w':World} {v:Value} (h:i ≠ a) (k:Below w.heap.size w w'):Kl row a i w v w':=by unfold Kl;rw[if_neg h];exact k
theorem Kl.app {row:Option Nat} {a:Nat} {w w':World} {v:Value} (k:w.grownBy w' row):Kl row a a w v w':=by unfold Kl;rw[if_pos rfl];exact k
theorem Tg.stepl {W5 w w':World} {row:Option Nat} {a i:Nat} {l:List Nat} {v:Value} (h:Tg W5 row a l w) (k:Kl row a i w v w'):Tg W5 row a (l++[i]) w':=by
 by_cases e:i=a
 ·subst e
  unfold Tg
  rw[if_pos (by simp)]
  exact h.grown.trans k.grown
 ·have k:=k.below e
  unfold Tg at h ⊢
  have hm:a∈l++[i] ↔ a∈l:=by simp[Ne.symm e]
  by_cases ha:a∈l
  ·rw[if_pos ha]at h
   rw[if_pos (hm.2 ha)]
   exact h.trans (grown_below k)
  ·rw[if_neg ha]at h
   rw[if_neg (fun q=>ha (hm.1 q))]
   exact h.trans (k.mono h.size)
theorem own_some {W:World} {b n k:Nat} {t:TypeId} {v:Value} {ys:List Value} (h:W.ownsRow b t k v n ys) (hn:0<n):∃g cap,v=.slice (some ⟨g,0,none⟩) n cap:=by
 rcases h.2 with ⟨_,e⟩|⟨g,cap,cur,e,_⟩
 ·omega
 ·exact⟨g,cap,e⟩
theorem blk_news {W:World} {h:Nat} {t:TypeId} {cs:Array Value} {l:List Value} (hb:Blk W h t cs) (hl:cs.toList=l) (j:Nat) (u:Value) (hj:l[j]?=some u):W.cell? ((⟨h,0,none⟩:Addr).add j)=some u:=by
 rw[Go.WideShapes.add_plain,Nat.zero_add,hb.cell,←Array.getElem?_toList,hl,hj]
theorem ret_line (tm:Array Value) (N:Nat) (W:World) (v0 v1 v2 v3 v4 v5 v6:Value) (h2:tm.getD 4 undef=.pointer (some ⟨N,0,none⟩)) (c0:W.cell? ⟨N,0,none⟩=some v0) (c1:W.cell? ⟨N,1,none⟩=some v1) (c2:W.cell? ⟨N,2,none⟩=some v2) (c3:W.cell? ⟨N,3,none⟩=some v3) (c4:W.cell? ⟨N,4,none⟩=some v4) (c5:W.cell? ⟨N,5,none⟩=some v5) (c6:W.cell? ⟨N,6,none⟩=some v6) :
  (results Tryz.f43 tm).run Tryz.prog W=.ok (.agg #[v0,v1,v2,v3,v4,v5,v6]) W:=by
 have h2':tm[4]?.getD undef=.pointer (some ⟨N,0,none⟩):=by simpa using h2
 simp[results,Tryz.results43,go_sem,h2',c0,c1,c2,c3,c4,c5,c6]
theorem line_ok (n r:Nat) (hn:n≤8) (hr:r<100):(lineCfg n r).ok:=by
 have hrt:∀i k,i<9→k<10→∀y∈rtK i k,U32 y.2.1∧U32 y.2.2.2.1:=by
  intro i k hi hk y hy
  unfold rtK at hy
  split at hy
  ·simp only[List.mem_singleton]at hy;subst hy
   exact⟨adr_u32 (by omega) (by omega),adr_u32 (by omega) (by omega)⟩
  ·split at hy
   ·simp only[List.mem_singleton]at hy;subst hy
    exact⟨adr_u32 (by omega) (by omega),adr_u32 (by omega) (by omega)⟩
   ·cases hy
 refine⟨fun y hy=>?_,fun y hy=>?_,fun y hy=>?_,fun y hy=>?_,fun y hy=>(by cases hy),fun y hy=>(by cases hy)⟩
 ·simp only[lineCfg,lsK,List.mem_map,List.mem_range]at hy
  obtain⟨i,hi,rfl⟩:=hy
  exact adr_u32 (by omega) (by omega)
 ·simp only[lineCfg,psK,List.mem_flatMap,List.mem_range]at hy
  obtain⟨i,hi,hy⟩:=hy
  simp only[List.mem_cons,List.not_mem_nil,or_false]at hy
  rcases hy with rfl|rfl <;> exact adr_u32 (by omega) (by omega)
 ·simp only[lineCfg,osK,colK,List.mem_flatMap,List.mem_range]at hy
  obtain⟨i,hi,k,hk,hy⟩:=hy
  exact hrt i k (by omega) (by omega) y hy
 ·simp only[lineCfg,List.mem_singleton]at hy
  subst hy
  exact⟨⟨(by decide:(0:Int)≤3758096384),(by decide:(3758096384:Int)≤4294967295)⟩,adr_u32 (by omega) (by omega)⟩
theorem info_router:∃i z,Tryz.prog.info? 165=some i∧i.zero=some z∧z.cells.size=2∧i.size=2∧i.bytes=24:=info_cells (by kernel_rfl)
theorem info_link:∃i z,Tryz.prog.info? 127=some i∧i.zero=some z∧z.cells.size=3∧i.size=3∧i.bytes=32:=info_cells (by kernel_rfl)
theorem info_port:∃i z,Tryz.prog.info? 107=some i∧i.zero=some z∧z.cells.size=3∧i.size=3∧i.bytes=24:=info_cells (by kernel_rfl)
theorem info_route:∃i z,Tryz.prog.info? 130=some i∧i.zero=some z∧z.cells.size=5∧i.size=5∧i.bytes=40:=info_cells (by kernel_rfl)
end Go.Proofs.YtfidicbknjoafaaGreatDoor
namespace Go.Proofs.YtfidicbknjoafaaGreatDoor
open Go.RowKit Lx Sm
theorem line_valid:∀n:Fin 9,vcode (lineCfg n.val 0)=0:=by decide +kernel
theorem line_ports (n r:Nat):∀y∈(lineCfg n r).ps,0≤y.1∧y.1<(lineCfg n r).rs.length∧0≤y.2.1∧y.2.1<(lineCfg n r).ls.length:=by
 intro y hy
 simp only[lineCfg,psK,List.mem_flatMap,List.mem_range]at hy
 obtain⟨i,hi,hy⟩:=hy
 simp only[List.mem_cons,List.not_mem_nil,or_false]at hy
 have h1:(lineCfg n r).rs.length=n:=rsK_len n
 have h2:(lineCfg n r).ls.length=n+1:=lsK_len (n+1)
 rw[h1,h2]
 rcases hy with rfl|rfl
 ·dsimp only;omega
 ·dsimp only;omega
theorem line_rn (n r:Nat):∀y∈(lineCfg n r).rs,(str y.1).size≤281474976710656:=by
 intro y hy
 simp only[lineCfg,rsK,List.mem_map]at hy
 obtain⟨i,_,rfl⟩:=hy
 show (2:Nat)≤_
 decide
theorem line_ln (n r:Nat):∀y∈(lineCfg n r).ls,(str y.1).size≤281474976710656:=by
 intro y hy
 simp only[lineCfg,lsK,List.mem_map]at hy
 obtain⟨i,_,rfl⟩:=hy
 show (2:Nat)≤_
 decide
end Go.Proofs.YtfidicbknjoafaaGreatDoor
namespace Go.Proofs.YtfidicbknjoafaaGreatDoor
open Go.RowKit Lx Sm
theorem ret_own (tm:Array Value) (N:Nat) (W:World) (v0 v1 v2 v3 v4 v5 v6 v7 v8:Value) (h2:tm.getD 4 undef=.pointer (some ⟨N,0,none⟩)) (c0:W.cell? ⟨N,0,none⟩=some v0) (c1:W.cell? ⟨N,1,none⟩=some v1) (c2:W.cell? ⟨N,2,none⟩=some v2) (c3:W.cell? ⟨N,3,none⟩=some v3) (c4:W.cell? ⟨N,4,none⟩=some v4) (c5:W.cell? ⟨N,5,none⟩=some v5) (c6:W.cell? ⟨N,6,none⟩=some v6) (c7:W.cell? ⟨N,7,none⟩=some v7) (c8:W.cell? ⟨N,8,none⟩=some v8) :
  (results Tryz.f52 tm).run Tryz.prog W=.ok (.agg #[v0,v1,v2,v3,v4,v5,v6,v7,v8]) W:=by
 have h2':tm[4]?.getD undef=.pointer (some ⟨N,0,none⟩):=by simpa using h2
 simp[results,Tryz.results52,go_sem,h2',c0,c1,c2,c3,c4,c5,c6,c7,c8]
theorem own_ge {W W':World} {b k n:Nat} {t:TypeId} {v:Value} {ys:List Value} (h:W.ownsRow b t k v n ys) (hk:∀g,b≤g→g<W.heap.size→W'.heap[g]?=W.heap[g]?):W'.ownsRow b t k v n ys:=by
 refine⟨h.1,?_⟩
 rcases h.2 with hn|⟨g,cap,cur,rfl,hbg,hh,rest⟩
 ·exact .inl hn
 ·exact .inr ⟨g,cap,cur,rfl,hbg,(hk g hbg (Array.getElem?_eq_some_iff.1 hh).1).trans hh,rest⟩
theorem CWo.ge {W W':World} {b:Nat} {M:Cm} {x:Cfg} (h:CWo W b M x) (hk:∀g,b≤g→g<W.heap.size→W'.heap[g]?=W.heap[g]?):CWo W' b M x :=
 ⟨own_ge h.r hk,own_ge h.l hk,own_ge h.p hk,own_ge h.o hk,own_ge h.g hk,own_ge h.s hk,own_ge h.m hk,h.len,h.oks,fun y hy=>⟨(h.src y hy).1,(h.src y hy).2.1,(h.src y hy).2.2.1,own_ge (h.src y hy).2.2.2 hk⟩,h.ok⟩
theorem far7 (W:World) (N:Nat) (v0 v1 v2 v3 v4 v5 v6:Value) (g:Nat) (hg:g ≠ N):(((((((W.setCell ⟨N,0,none⟩ v0).setCell ⟨N,1,none⟩ v1).setCell ⟨N,2,none⟩ v2).setCell ⟨N,3,none⟩ v3).setCell ⟨N,4,none⟩ v4).setCell ⟨N,5,none⟩ v5).setCell ⟨N,6,none⟩ v6).heap[g]?=W.heap[g]?:=by
 have hk:∀ (W:World) (i:Nat) (u:Value),(W.setCell ⟨N,i,none⟩ u).heap[g]?=W.heap[g]?:=fun W i u=>Below.heap_setCell W ⟨N,i,none⟩ u g hg
 simp only[hk]
theorem far9 (W:World) (N:Nat) (v0 v1 v2 v3 v4 v5 v6 v7 v8:Value) (g:Nat) (hg:g ≠ N):(((((((((W.setCell ⟨N,0,none⟩ v0).setCell ⟨N,1,none⟩ v1).setCell ⟨N,2,none⟩ v2).setCell ⟨N,3,none⟩ v3).setCell ⟨N,4,none⟩ v4).setCell ⟨N,5,none⟩ v5).setCell ⟨N,6,none⟩ v6).setCell ⟨N,7,none⟩ v7).setCell ⟨N,8,none⟩ v8).heap[g]?=W.heap[g]?:=by
 have hk:∀ (W:World) (i:Nat) (u:Value),(W.setCell ⟨N,i,none⟩ u).heap[g]?=W.heap[g]?:=fun W i u=>Below.heap_setCell W ⟨N,i,none⟩ u g hg
 simp only[hk]
theorem jr_ne {W:World} {A:Option Addr} {n N:Nat} {t:TypeId} {cs:Array Value} {xs:List Int} (h:JR W A n xs) (hb:Blk W N t cs) (hc:∀ (i:Nat) (v:Int),cs[i]?=some (Value.int .i64 v)→False):∀b o,0<n→A=some ⟨b,o,none⟩→b ≠ N:=by
 intro b o hn e hbN
 obtain⟨b',o',e',_,hcell⟩:=h.2 hn
 rw[e]at e'
 cases e'
 subst hbN
 have:=hcell 0 hn
 rw[hb.cell]at this
 exact hc _ _ this
theorem jr_other {W W':World} {A:Option Addr} {n N:Nat} {xs:List Int} (h:JR W A n xs) (hne:∀b o,0<n→A=some ⟨b,o,none⟩→b ≠ N) (hz:W.heap.size≤W'.heap.size) (hk:∀g,g ≠ N→W'.heap[g]?=W.heap[g]?):JR W' A n xs :=
 ⟨h.1,fun hn=>by
  obtain⟨b,o,e,hlt,hc⟩:=h.2 hn
  refine⟨b,o,e,Nat.lt_of_lt_of_le hlt hz,fun i hi=>?_⟩
  have:=hc i hi
  unfold World.cell? at this ⊢
  rw[hk b (hne b o hn e)]
  exact this⟩
theorem ret_config (tm:Array Value) (N:Nat) (W:World) (v0 v1 v2 v3 v4 v5 v6:Value) (h2:tm.getD 2 undef=.pointer (some ⟨N,0,none⟩)) (c0:W.cell? ⟨N,0,none⟩=some v0) (c1:W.cell? ⟨N,1,none⟩=some v1) (c2:W.cell? ⟨N,2,none⟩=some v2) (c3:W.cell? ⟨N,3,none⟩=some v3) (c4:W.cell? ⟨N,4,none⟩=some v4) (c5:W.cell? ⟨N,5,none⟩=some v5) (c6:W.cell? ⟨N,6,none⟩=some v6) :
  (results Tryz.f63 tm).run Tryz.prog W=.ok (.agg #[v0,v1,v2,v3,v4,v5,v6]) W:=by
 have h2':tm[2]?.getD undef=.pointer (some ⟨N,0,none⟩):=by simpa using h2
 simp[results,Tryz.results63,go_sem,h2',c0,c1,c2,c3,c4,c5,c6]
section
variable {b:Nat} {T:TP} {x:Cfg} {gs:List Int}
set_option maxHeartbeats 4000000 in
set_option maxRecDepth 100000 in
theorem config_any (w:World) (h:TW w b T x gs) (hrn:∀y∈x.rs,(str y.1).size≤281474976710656) (hln:∀y∈x.ls,(str y.1).size≤281474976710656) :
  Calls Tryz.prog 63 #[.pointer (some ⟨T.N,0,none⟩)] w fun e w'=>∃ (M:Cm) (x':Cfg),e=.returned (.agg #[.slice M.r.A M.r.n M.r.c,.slice M.l.A M.l.n M.l.c,.slice M.p.A M.p.n M.p.c,.slice M.o.A M.o.n M.o.c,.slice M.g.A M.g.n M.g.c,.slice M.s.A M.s.n M.s.c,.slice M.m.A M.m.n M.m.c])∧CWo w' w.heap.size M x'∧Alike x x'∧Below w.heap.size w w':=by
 have HB0:=Lib.hid ((Below.refl w.heap.size w).alloc (Nat.le_refl _) (.cells #[.slice none 0 0,.slice none 0 0,.slice none 0 0,.slice none 0 0,.slice none 0 0,.slice none 0 0,.slice none 0 0] 30))
 have HS:=Lib.hid (Blk.new w 30 #[.slice none 0 0,.slice none 0 0,.slice none 0 0,.slice none 0 0,.slice none 0 0,.slice none 0 0,.slice none 0 0])
 have HZ:Hid ((w.alloc (.cells #[.slice none 0 0,.slice none 0 0,.slice none 0 0,.slice none 0 0,.slice none 0 0,.slice none 0 0,.slice none 0 0] 30)).heap.size=w.heap.size+1):=Lib.hid (by simp)
 have HC:=Lib.hid (clone_any T.M x _ (h.next HB0.out).net.cw hrn hln)
 have hblk:=(h.next HB0.out).blk
 have y0:=hblk.cell 0
 have y1:=hblk.cell 1
 have y2:=hblk.cell 2
 have y3:=hblk.cell 3
 have y4:=hblk.cell 4
 have y5:=hblk.cell 5
 have y6:=hblk.cell 6
 simp only[List.getElem?_toArray,List.getElem?_cons_succ,List.getElem?_cons_zero]at y0 y1 y2 y3 y4 y5 y6
 clear h hrn hln hblk
 go_enter Tryz.func63,Tryz.ntmps63
 go_upto_region 1 with fail
 generalize w.alloc (.cells #[.slice none 0 0,.slice none 0 0,.slice none 0 0,.slice none 0 0,.slice none 0 0,.slice none 0 0,.slice none 0 0] 30)=W0 at *
 go_wp2_with (
  go_at_call 50;refine HC.out.mono ?_;rintro e w2 ⟨M,x',rfl,hc,ha,hb⟩
  have H2:=Lib.hid hc
  have H3:=Lib.hid ha
  have H4:=Lib.hid (below_next HB0.out hb)
  have HS2:=Lib.hid (HS.out.next hb)
  clear y0 y1 y2 y3 y4 y5 y6 hc ha hb
  have s0:w2.cell? ⟨w.heap.size,0,none⟩=some (.slice none 0 0):=HS2.out.cell 0
  have s1:w2.cell? ⟨w.heap.size,1,none⟩=some (.slice none 0 0):=HS2.out.cell 1
  have s2:w2.cell? ⟨w.heap.size,2,none⟩=some (.slice none 0 0):=HS2.out.cell 2
  have s3:w2.cell? ⟨w.heap.size,3,none⟩=some (.slice none 0 0):=HS2.out.cell 3
  have s4:w2.cell? ⟨w.heap.size,4,none⟩=some (.slice none 0 0):=HS2.out.cell 4
  have s5:w2.cell? ⟨w.heap.size,5,none⟩=some (.slice none 0 0):=HS2.out.cell 5
  have s6:w2.cell? ⟨w.heap.size,6,none⟩=some (.slice none 0 0):=HS2.out.cell 6
  have z0:w2.frozen? ⟨w.heap.size,0,none⟩=false:=HS2.out.frozen 0
  have z1:w2.frozen? ⟨w.heap.size,1,none⟩=false:=HS2.out.frozen 1
  have z2:w2.frozen? ⟨w.heap.size,2,none⟩=false:=HS2.out.frozen 2
  have z3:w2.frozen? ⟨w.heap.size,3,none⟩=false:=HS2.out.frozen 3
  have z4:w2.frozen? ⟨w.heap.size,4,none⟩=false:=HS2.out.frozen 4
  have z5:w2.frozen? ⟨w.heap.size,5,none⟩=false:=HS2.out.frozen 5
  have z6:w2.frozen? ⟨w.heap.size,6,none⟩=false:=HS2.out.frozen 6)
 have hfr:=far7 w2 w.heap.size (.slice M.r.A M.r.n M.r.c) (.slice M.l.A M.l.n M.l.c) (.slice M.p.A M.p.n M.p.c) (.slice M.o.A M.o.n M.o.c) (.slice M.g.A M.g.n M.g.c) (.slice M.s.A M.s.n M.s.c) (.slice M.m.A M.m.n M.m.c)
 obtain⟨W',hW',hk',hB',_⟩:=store7 HS2.out.slot (Nat.le_refl _) (.slice M.r.A M.r.n M.r.c) (.slice M.l.A M.l.n M.l.c) (.slice M.p.A M.p.n M.p.c) (.slice M.o.A M.o.n M.o.c) (.slice M.g.A M.g.n M.g.c) (.slice M.s.A M.s.n M.s.c) (.slice M.m.A M.m.n M.m.c)
 rw[←hW']at hfr ⊢
 clear hW' s0 s1 s2 s3 s4 s5 s6 z0 z1 z2 z3 z4 z5 z6
 refine bodyPost_ret (ret_config _ w.heap.size _ _ _ _ _ _ _ _ rfl (hk'.cell 0) (hk'.cell 1) (hk'.cell 2) (hk'.cell 3) (hk'.cell 4) (hk'.cell 5) (hk'.cell 6)) rfl ?_
 exact⟨M,x',rfl,((H2.out.ge (fun g hg _=>hfr g (by have:=HZ.out;omega))).up (by have:=HZ.out;omega)),H3.out,hB' _ H4.out⟩
end
end Go.Proofs.YtfidicbknjoafaaGreatDoor
