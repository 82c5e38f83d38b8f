/- Contracts of lex. -/
import Derived.Test.YtfidicbknjoafaaGreatDoorQAs
import Derived.Lib.FieldsP
import Derived.Lib.SplitLaws
import Derived.Below
import Derived.WalkKit
import Derived.Test.YtfidicbknjoafaaGreatDoorProg
import Derived.Lib.Hide
namespace Go.Proofs.YtfidicbknjoafaaGreatDoor
namespace Lx
def sep (c:UInt8):Bool:=c.toNat == 32 || c.toNat == 9 || c.toNat == 13
def scan:List UInt8→List UInt8→List (List UInt8)
 | cur,[]=>if cur=[] then [] else [cur]
 | cur,c :: l=>if sep c then (if cur=[] then scan [] l else cur :: scan [] l) else scan (cur ++ [c]) l
def words (l:List UInt8):List (List UInt8):=scan [] l
def nl:List UInt8→List (List UInt8)
 | []=>[[]]
 | c :: l=>if c=10 then [] :: nl l else match nl l with | p :: ps=>(c :: p) :: ps | []=>[[c]]
def bare:List UInt8→List UInt8
 | []=>[]
 | c :: l=>if c=35 then [] else c :: bare l
def row (no:Nat) (p:List UInt8):List (Nat × List (List UInt8)):=if words (bare p)=[] then [] else [(no,words (bare p))]
def rows:Nat→List (List UInt8)→List (Nat × List (List UInt8))
 | _,[]=>[]
 | no,p :: ps=>row no p ++ rows (no+1) ps
def lines (l:List UInt8):List (Nat × List (List UInt8)):=rows 1 (nl l)
def fin (no:Nat) (ws:List (List UInt8)):List (Nat × List (List UInt8)):=if ws=[] then [] else [(no,ws)]
end Lx
end Go.Proofs.YtfidicbknjoafaaGreatDoor
namespace Go.Proofs.YtfidicbknjoafaaGreatDoor
open Go.RowKit
namespace Lx
def str (l:List UInt8):ByteArray:=⟨l.toArray⟩
def VS (ws:List (List UInt8)):List Value:=ws.map fun l=>.string (str l)
theorem VS_len (ws:List (List UInt8)):(VS ws).length=ws.length:=by simp [VS]
theorem VS_at {ws:List (List UInt8)} {i:Nat} (h:i<ws.length):(VS ws)[i]?=some (.string (str (ws.getD i []))):=by
 simp [VS,List.getD,List.getElem?_eq_getElem h]
theorem str_data (l:List UInt8):(str l).data.toList=l:=by simp [str]
end Lx
open Lx
def SR (w:World) (A:Option Addr) (n:Nat) (ws:List (List UInt8)):Prop :=
 ws.length=n∧(0<n→∃ b o,A=some ⟨b,o,none⟩∧b<w.heap.size∧∀ i,i<n→w.cell? ⟨b,o+i,none⟩=some (.string (str (ws.getD i []))))
section
variable {w w':World} {A:Option Addr} {n:Nat} {ws:List (List UInt8)}
theorem SR.none_ (w:World) (A:Option Addr):SR w A 0 []:=⟨rfl,fun h=>absurd h (by omega)⟩
theorem SR.len (h:SR w A n ws):ws.length=n:=h.1
theorem SR.next (h:SR w A n ws) (hb:Below w.heap.size w w'):SR w' A n ws :=
 ⟨h.1,fun hn=>by
  obtain ⟨b,o,e,hlt,hc⟩:=h.2 hn
  exact ⟨b,o,e,Nat.lt_of_lt_of_le hlt hb.size,fun i hi=>(hb.cell (p:=⟨b,o+i,none⟩) hlt).trans (hc i hi)⟩⟩
theorem SR.at_ {k:Nat} (h:SR w A n ws) (hk:k<n):∃ b o,A=some ⟨b,o,none⟩∧b<w.heap.size∧w.cell? ⟨b,o+k,none⟩=some (.string (str (ws.getD k []))):=by
 obtain ⟨b,o,e,hlt,hc⟩:=h.2 (by omega)
 exact ⟨b,o,e,hlt,hc k hk⟩
theorem own_strs {base:Nat} {e:TypeId} {v:Value} (h:w.ownsRow base e 1 v n (VS ws)):∃ A c,v=.slice A n c∧n≤c∧SR w A n ws:=by
 have hl:ws.length=n:=by have:=h.1;rw [VS_len] at this;omega
 have h0:=h
 rcases h.2 with ⟨rfl,rfl⟩ | ⟨g,cap,cur,rfl,hbg,hh,hnc,_⟩
 ·obtain rfl:ws=[]:=List.eq_nil_of_length_eq_zero hl
  exact ⟨none,0,rfl,Nat.le_refl _,SR.none_ _ _⟩
 ·have hlt:g<w.heap.size:=(Array.getElem?_eq_some_iff.1 hh).1
  refine ⟨_,cap,rfl,hnc,hl,fun _=>⟨g,0,rfl,hlt,fun i hi=>?_⟩⟩
  rw [Nat.zero_add,h0.cellAt i (by omega)]
  exact VS_at (by omega)
theorem own_slice {base:Nat} {e:TypeId} {k:Nat} {v:Value} {xs:List Value} (h:w.ownsRow base e k v n xs):∃ A c,v=.slice A n c∧n≤c∧(0<n→∃ g,A=some ⟨g,0,none⟩∧base≤g∧g<w.heap.size):=by
 rcases h.2 with ⟨rfl,rfl⟩ | ⟨g,cap,cur,rfl,hbg,hh,hnc,_⟩
 ·exact ⟨none,0,rfl,Nat.le_refl _,fun h=>absurd h (by omega)⟩
 ·exact ⟨_,cap,rfl,hnc,fun _=>⟨g,rfl,hbg,(Array.getElem?_eq_some_iff.1 hh).1⟩⟩
end
def LC (w:World) (tS:TypeId):List (Nat × List (List UInt8))→List Value→Prop
 | [],cs=>cs=[]
 | (no,ws) :: L,cs=>∃ v cs',cs=.int .i64 (no:Int) :: v :: cs'∧w.ownsRow 0 tS 1 v ws.length (VS ws)∧LC w tS L cs'
section
variable {w w':World} {tS tL:TypeId}
theorem LC.len:∀ {L:List (Nat × List (List UInt8))} {cs:List Value},LC w tS L cs→cs.length=L.length*2
 | [],cs,h=>by rw [show cs=[] from h];rfl
 | (no,ws) :: L,cs,⟨v,cs',e,_,h⟩=>by
  rw [e,List.length_cons,List.length_cons,h.len,List.length_cons];omega
theorem LC.one:∀ {L:List (Nat × List (List UInt8))} {cs:List Value},LC w tS L cs→∀ u ∈ cs,u.oneCell'=true
 | [],cs,h=>by rw [show cs=[] from h];intro u hu;cases hu
 | (no,ws) :: L,cs,⟨v,cs',e,ho,h⟩=>by
  subst e
  intro u hu
  rcases List.mem_cons.1 hu with rfl | hu
  ·rfl
  ·rcases List.mem_cons.1 hu with rfl | hu
   ·obtain ⟨A,c,rfl,_⟩:=own_slice ho
    rfl
   ·exact h.one u hu
theorem LC.next:∀ {L:List (Nat × List (List UInt8))} {cs:List Value},LC w tS L cs→Below w.heap.size w w'→LC w' tS L cs
 | [],_,h,_=>h
 | (_,_) :: _,_,⟨v,cs',e,ho,h⟩,hb=>⟨v,cs',e,own_next ho hb,h.next hb⟩
theorem LC.kept {base n k:Nat} {u:Value} {us:List Value} (hn:tS ≠ tL) (hu:w.ownsRow base tL k u n us) (hg:w.grownBy w' u.ownBlock):∀ {L:List (Nat × List (List UInt8))} {cs:List Value},LC w tS L cs→LC w' tS L cs
 | [],_,h=>h
 | (_,_) :: _,_,⟨v,cs',e,ho,h⟩=>by
  refine ⟨v,cs',e,ho.kept hg ?_,h.kept hn hu hg⟩
  rcases ho.2 with ⟨rfl,_⟩ | ⟨g,cap,cur,rfl,_,hh,_⟩
  ·exact .inl rfl
  ·right
   rcases hu.2 with ⟨rfl,_⟩ | ⟨g',cap',cur',rfl,_,hh',_⟩
   ·simp [Value.ownBlock]
   ·simp only [Value.ownBlock]
    intro e2
    cases e2
    rw [hh] at hh'
    injection hh' with h1
    injection h1 with _ h2
    exact hn h2
theorem LC.at_:∀ {L:List (Nat × List (List UInt8))} {cs:List Value} {i:Nat},LC w tS L cs→(hi:i<L.length)→cs[i*2]?=some (.int .i64 ((L.getD i (0,[])).1:Int))∧∃ A c,cs[i*2+1]?=some (.slice A (L.getD i (0,[])).2.length c)∧SR w A (L.getD i (0,[])).2.length (L.getD i (0,[])).2
 | [],cs,i,_,hi=>absurd hi (by simp)
 | (no,ws) :: L,cs,0,⟨v,cs',e,ho,h⟩,_=>by
  obtain ⟨A,c,rfl,_,hs⟩:=own_strs ho
  subst e
  exact ⟨rfl,A,c,rfl,hs⟩
 | (no,ws) :: L,cs,i+1,⟨v,cs',e,ho,h⟩,hi=>by
  have:=h.at_ (i:=i) (by simpa using hi)
  subst e
  rw [show (i+1)*2=i*2+1+1 by omega,show i*2+1+1+1=(i*2+1)+1+1 by omega]
  simpa using this
end
def LR (w:World) (A:Option Addr) (n:Nat) (L:List (Nat × List (List UInt8))):Prop :=
 L.length=n∧(0<n→∃ b,A=some ⟨b,0,none⟩∧b<w.heap.size∧∀ i,i<n→w.cell? ⟨b,i*2,none⟩=some (.int .i64 ((L.getD i (0,[])).1:Int)) ∧
  ∃ B c,w.cell? ⟨b,i*2+1,none⟩=some (.slice B (L.getD i (0,[])).2.length c)∧SR w B (L.getD i (0,[])).2.length (L.getD i (0,[])).2)
section
variable {w w':World} {A:Option Addr} {n:Nat} {L:List (Nat × List (List UInt8))} {tS tL:TypeId}
theorem LR.len (h:LR w A n L):L.length=n:=h.1
theorem LR.none_ (w:World) (A:Option Addr):LR w A 0 []:=⟨rfl,fun h=>absurd h (by omega)⟩
theorem LR.next (h:LR w A n L) (hb:Below w.heap.size w w'):LR w' A n L :=
 ⟨h.1,fun hn=>by
  obtain ⟨b,e,hlt,hc⟩:=h.2 hn
  refine ⟨b,e,Nat.lt_of_lt_of_le hlt hb.size,fun i hi=>?_⟩
  obtain ⟨h1,B,c,h2,h3⟩:=hc i hi
  exact ⟨(hb.cell (p:=⟨b,i*2,none⟩) hlt).trans h1,B,c,(hb.cell (p:=⟨b,i*2+1,none⟩) hlt).trans h2,h3.next hb⟩⟩
theorem LR.at_ {k:Nat} (h:LR w A n L) (hk:k<n):∃ b,A=some ⟨b,0,none⟩∧b<w.heap.size∧w.cell? ⟨b,k*2,none⟩=some (.int .i64 ((L.getD k (0,[])).1:Int)) ∧
  ∃ B c,w.cell? ⟨b,k*2+1,none⟩=some (.slice B (L.getD k (0,[])).2.length c)∧SR w B (L.getD k (0,[])).2.length (L.getD k (0,[])).2:=by
 obtain ⟨b,e,hlt,hc⟩:=h.2 (by omega)
 exact ⟨b,e,hlt,hc k hk⟩
end
end Go.Proofs.YtfidicbknjoafaaGreatDoor
namespace Go.Proofs.YtfidicbknjoafaaGreatDoor
open Go.RowKit Lx
def IR {α:Type} (enc:α→List Value) (k:Nat) (w:World) (A:Option Addr) (n:Nat) (xs:List α):Prop :=
 xs.length=n∧(0<n→∃ b o,A=some ⟨b,o,none⟩∧b<w.heap.size∧∀ i x,xs[i]?=some x→∀ j v,(enc x)[j]?=some v→w.cell? ⟨b,o+i*k+j,none⟩=some v)
section
variable {α:Type} {enc:α→List Value} {k:Nat} {w w':World} {A:Option Addr} {n:Nat} {xs:List α}
theorem IR.none_ (enc:α→List Value) (k:Nat) (w:World) (A:Option Addr):IR enc k w A 0 []:=⟨rfl,fun h=>absurd h (by omega)⟩
theorem IR.len (h:IR enc k w A n xs):xs.length=n:=h.1
theorem IR.next (h:IR enc k w A n xs) (hb:Below w.heap.size w w'):IR enc k w' A n xs :=
 ⟨h.1,fun hn=>by
  obtain ⟨b,o,e,hlt,hc⟩:=h.2 hn
  exact ⟨b,o,e,Nat.lt_of_lt_of_le hlt hb.size,fun i x hx j v hv=>(hb.cell (p:=⟨b,o+i*k+j,none⟩) hlt).trans (hc i x hx j v hv)⟩⟩
theorem IR.at_ {i:Nat} (h:IR enc k w A n xs) (hk:i<n):∃ b o x,A=some ⟨b,o,none⟩∧b<w.heap.size∧xs[i]?=some x∧∀ j v,(enc x)[j]?=some v→w.cell? ⟨b,o+i*k+j,none⟩=some v:=by
 obtain ⟨b,o,e,hlt,hc⟩:=h.2 (by omega)
 have hx:xs[i]?=some (xs[i]'(by have:=h.1;omega)):=List.getElem?_eq_getElem _
 exact ⟨b,o,_,e,hlt,hx,hc i _ hx⟩
theorem IR.take (h:IR enc k w A n xs) {i:Nat} (hi:i≤n):IR enc k w A i (xs.take i):=by
 refine ⟨by rw [List.length_take];have:=h.1;omega,fun hp=>?_⟩
 obtain ⟨b,o,e,hlt,hc⟩:=h.2 (by omega)
 refine ⟨b,o,e,hlt,fun j x hx=>hc j x ?_⟩
 rw [List.getElem?_take] at hx
 split at hx
 ·exact hx
 ·cases hx
end
def idxI {α:Type} (p:α→Bool):List α→Int
 | []=>-1
 | x :: xs=>if p x then 0 else if idxI p xs<0 then -1 else idxI p xs+1
section
variable {α:Type} {p:α→Bool}
theorem idxI_cons (x:α) (xs:List α):idxI p (x :: xs)=if p x=true then 0 else if idxI p xs<0 then -1 else idxI p xs+1:=rfl
theorem idxI_any:∀ xs:List α,decide (0≤idxI p xs)=xs.any p
 | []=>by simp [idxI]
 | x :: xs=>by
  have h:=idxI_any xs
  rw [List.any_cons,← h,idxI_cons]
  generalize idxI p xs=m
  cases p x
  ·rw [if_neg (by simp)]
   split
   ·rename_i hm
    rw [Bool.eq_iff_iff];simp;omega
   ·rename_i hm
    rw [Bool.eq_iff_iff];simp;omega
  ·simp
theorem idxI_none:∀ (xs:List α),(∀ (j:Nat) (x:α),xs[j]?=some x→p x=false)→idxI p xs=-1
 | [],_=>rfl
 | x :: xs,h=>by
  unfold idxI
  rw [h 0 x rfl,idxI_none xs (fun j y hy=>h (j+1) y (by simpa using hy))]
  rfl
theorem idxI_hit:∀ (xs:List α) (k:Nat) (x:α),xs[k]?=some x→p x=true→(∀ (j:Nat) (y:α),j<k→xs[j]?=some y→p y=false)→idxI p xs=k
 | [],k,x,h,_,_=>by simp at h
 | y :: ys,0,x,h,hp,_=>by
  simp at h;subst h
  unfold idxI;rw [hp];rfl
 | y :: ys,k+1,x,h,hp,hn=>by
  have h1:=idxI_hit ys k x (by simpa using h) hp (fun j z hj hz=>hn (j+1) z (by omega) (by simpa using hz))
  unfold idxI
  rw [hn 0 y (by omega) rfl,h1]
  simp;omega
end
def feC (C:Nat→Int) (most:Nat):Nat→Nat→Int
 | _,0=>0
 | i,m+1=>if most≤i then 104 else if C i=0 then feC C most (i+1) m else C i
theorem feC_done (C:Nat→Int) (most i:Nat):feC C most i 0=0:=rfl
theorem feC_many {C:Nat→Int} {most i m:Nat} (h:most≤i) (hm:0<m):feC C most i m=104:=by
 obtain ⟨m,rfl⟩:∃ m',m=m'+1:=⟨m - 1,by omega⟩
 simp [feC,h]
theorem feC_next {C:Nat→Int} {most i m:Nat} (h:i<most) (hm:0<m) (hc:C i=0):feC C most i m=feC C most (i+1) (m - 1):=by
 obtain ⟨m,rfl⟩:∃ m',m=m'+1:=⟨m - 1,by omega⟩
 simp [feC,hc,show ¬ most≤i by omega]
theorem feC_here {C:Nat→Int} {most i m:Nat} (h:i<most) (hm:0<m) (hc:C i ≠ 0):feC C most i m=C i:=by
 obtain ⟨m,rfl⟩:∃ m',m=m'+1:=⟨m - 1,by omega⟩
 simp [feC,hc,show ¬ most≤i by omega]
end Go.Proofs.YtfidicbknjoafaaGreatDoor
namespace Go.Proofs.YtfidicbknjoafaaGreatDoor
open Go.RowKit Lx
structure Mb where
 l:Int
 g:Int
 o:Bool
 A:Option Addr
 n:Nat
 c:Nat
 xs:List Int
def VRouter:List UInt8 × Int→Value:=fun ⟨s1,r1⟩=>.agg #[.string (str s1),.int .i64 r1]
def CRouter:List UInt8 × Int→List Value:=fun ⟨s1,r1⟩=>[.string (str s1),.int .i64 r1]
def VLink:List UInt8 × Int × Int→Value:=fun ⟨s1,a1,b1⟩=>.agg #[.string (str s1),.int .u32 a1,.int .i64 b1]
def CLink:List UInt8 × Int × Int→List Value:=fun ⟨s1,a1,b1⟩=>[.string (str s1),.int .u32 a1,.int .i64 b1]
def VPort:Int × Int × Int→Value:=fun ⟨r1,l1,a1⟩=>.agg #[.int .i64 r1,.int .i64 l1,.int .u32 a1]
def CPort:Int × Int × Int→List Value:=fun ⟨r1,l1,a1⟩=>[.int .i64 r1,.int .i64 l1,.int .u32 a1]
def VRoute:Int × Int × Int × Int × Int→Value:=fun ⟨r1,a1,b1,v1,c1⟩=>.agg #[.int .i64 r1,.int .u32 a1,.int .i64 b1,.int .u32 v1,.int .i64 c1]
def CRoute:Int × Int × Int × Int × Int→List Value:=fun ⟨r1,a1,b1,v1,c1⟩=>[.int .i64 r1,.int .u32 a1,.int .i64 b1,.int .u32 v1,.int .i64 c1]
def VRange:Int × Int × Int→Value:=fun ⟨a1,b1,r1⟩=>.agg #[.int .u32 a1,.int .i64 b1,.int .u32 r1]
def CRange:Int × Int × Int→List Value:=fun ⟨a1,b1,r1⟩=>[.int .u32 a1,.int .i64 b1,.int .u32 r1]
def VSource:Int × Int × Int→Value:=fun ⟨l1,s1,g1⟩=>.agg #[.int .i64 l1,.int .u32 s1,.int .u32 g1]
def CSource:Int × Int × Int→List Value:=fun ⟨l1,s1,g1⟩=>[.int .i64 l1,.int .u32 s1,.int .u32 g1]
def VMember:Mb→Value:=fun ⟨l1,g1,o1,A1,n1,c1,_xs1⟩=>.agg #[.int .i64 l1,.int .u32 g1,.bool o1,.slice A1 n1 c1]
def CMember:Mb→List Value:=fun ⟨l1,g1,o1,A1,n1,c1,_xs1⟩=>[.int .i64 l1,.int .u32 g1,.bool o1,.slice A1 n1 c1]
def VAddr:Int→Value:=fun a1=>.int .u32 a1
def CAddr:Int→List Value:=fun a1=>[.int .u32 a1]
end Go.Proofs.YtfidicbknjoafaaGreatDoor
namespace Go.Proofs.YtfidicbknjoafaaGreatDoor
open Go.RowKit
def erS (ads:List Addr) (c:Int):Value:=if c=0 then .nilIface else ev (ads.getD (c - 101).toNat ⟨0,0,none⟩)
def IsC (c:Int):Prop:=c=0∨∃ j:Nat,j<14∧c=101+(j:Int)
def errC:List (Nat × Nat):=[(2,1),(3,5),(8,6),(9,0),(10,3),(11,4),(12,2)]
def EnvC (ads:List Addr) (w:World):Prop :=
 ads.length=14∧(∀ (j g:Nat) (a:Addr),errC.lookup j=some g→ads[j]?=some a→w.cell? ⟨g,0,none⟩=some (ev a))∧∀ a ∈ ads,∃ c t,w.heap[a.block]?=some (.cells c t (0,0))
theorem EnvC.below {ads:List Addr} {w w':World} (h:EnvC ads w) (hb:Below w.heap.size w w'):EnvC ads w':=by
 obtain ⟨h1,h3,h4⟩:=h
 refine ⟨h1,fun i g a hg ha=>(hb.cell (World.block_lt_of_cell? w _ (h3 i g a hg ha))).trans (h3 i g a hg ha),fun a ha=>?_⟩
 obtain ⟨c,t,hh⟩:=h4 a ha
 refine ⟨c,t,(hb.block a.block ?_).trans hh⟩
 rcases Nat.lt_or_ge a.block w.heap.size with hlt | hge
 ·exact hlt
 ·rw [Array.getElem?_eq_none hge] at hh;cases hh
theorem erS_of {ads:List Addr} (h:ads.length=14) {j:Nat} (hj:j<14):∃ a,ads[j]?=some a∧erS ads (101+(j:Int))=ev a:=by
 have h3:ads[j]?=some (ads[j]'(by rw [h];omega)):=by simp [h,hj]
 refine ⟨_,h3,?_⟩
 unfold erS
 rw [if_neg (by omega),show (101+(j:Int) - 101).toNat=j by omega]
 simp [List.getD,h,hj]
theorem erS_at {ads:List Addr} {w:World} (hS:EnvC ads w) {j:Nat} (hj:j<14):∃ a,ads[j]?=some a∧erS ads (101+(j:Int))=ev a:=erS_of hS.1 hj
theorem erS_cell {ads:List Addr} {w:World} (hS:EnvC ads w) {j g:Nat} (hj:j<14) (hg:errC.lookup j=some g):w.cell? ⟨g,0,none⟩=some (erS ads (101+(j:Int))):=by
 obtain ⟨a,h1,h2⟩:=erS_at hS hj
 rw [h2]
 exact hS.2.1 j g a hg h1
end Go.Proofs.YtfidicbknjoafaaGreatDoor
namespace Go.Proofs.YtfidicbknjoafaaGreatDoor
namespace Ad
open Go.RowKit (wrap32 wrap64)
def fr (n:Int):Nat:=(32 - n).toNat
def mask (b:Int):Int:=4294967296 - 2 ^ (fr (max 0 (min b 32)))
def valid (a b:Int):Bool:=decide (0≤b∧b≤32∧a % 2 ^ fr b=0)
def isIn (a b x:Int):Bool:=valid a b && decide (x - x % 2 ^ fr b=a)
def within (a b c d:Int):Bool:=valid a b && (decide (d≤b) && isIn c d a)
def group (a:Int):Bool:=decide (a / 268435456=14)
theorem two_pos (k:Nat):(1:Int)≤2 ^ k:=by
 have:0<(2:Int) ^ k:=Int.pow_pos (by decide)
 omega
theorem fr_le (b:Int) (h:0≤b):fr b≤32:=by unfold fr;omega
theorem mask_in (b:Int) (h0:0≤b) (h1:b≤32):mask b=4294967296 - 2 ^ fr b:=by
 unfold mask;rw [show max 0 (min b 32)=b by omega]
theorem mask_low (b:Int) (h:b<0):mask b=0:=by
 unfold mask;rw [show max 0 (min b 32)=0 by omega];rfl
theorem mask_high (b:Int) (h:32<b):mask b=4294967295:=by
 unfold mask;rw [show max 0 (min b 32)=32 by omega];rfl
theorem shl_mask (k:Nat) (h:k≤32):(4294967295:Int)*2 ^ k % 4294967296=4294967296 - 2 ^ k∨(k=32∧(4294967295:Int)*2 ^ k % 4294967296=0):=by
 have hk:∀ j:Fin 33,(4294967295:Int)*2 ^ j.val % 4294967296=4294967296 - 2 ^ j.val∨(j.val=32∧(4294967295:Int)*2 ^ j.val % 4294967296=0):=by decide +kernel
 exact hk ⟨k,by omega⟩
theorem shl_mask' (b:Int) (h0:0≤b) (h1:b≤32):(4294967295:Int)*2 ^ (32 - b).toNat % 4294967296=mask b:=by
 rw [mask_in b h0 h1]
 rcases shl_mask (32 - b).toNat (by omega) with h | ⟨h,g⟩
 ·exact h
 ·unfold fr;rw [g,h];rfl
theorem nat_high (a k:Nat) (hk:k≤32) (ha:a<4294967296):a &&& (4294967296 - 2 ^ k)=a - a % 2 ^ k:=by
 have e:a - a % 2 ^ k=(a / 2 ^ k) <<< k:=by
  rw [Nat.shiftLeft_eq]
  have:=Nat.div_add_mod a (2 ^ k)
  rw [Nat.mul_comm] at this
  omega
 have e2:4294967296 - 2 ^ k=(2 ^ (32 - k) - 1) <<< k:=by
  rw [Nat.shiftLeft_eq,Nat.sub_mul,← Nat.pow_add,Nat.sub_add_cancel hk,Nat.one_mul]
 rw [e,e2]
 apply Nat.eq_of_testBit_eq
 intro i
 rw [Nat.testBit_and,Nat.testBit_shiftLeft,Nat.testBit_shiftLeft,Nat.testBit_two_pow_sub_one,Nat.testBit_div_two_pow]
 by_cases h:k≤i
 ·rw [Nat.sub_add_cancel h]
  simp only [h,decide_true,Bool.true_and]
  by_cases h32:i<32
  ·simp only [show i - k<32 - k by omega,decide_true,Bool.and_true]
  ·have:a.testBit i=false:=Nat.testBit_lt_two_pow (Nat.lt_of_lt_of_le ha (Nat.pow_le_pow_right (by omega:2 > 0) (show 32≤i by omega)))
   simp [this]
 ·simp [h]
theorem cast_two (k:Nat):((2 ^ k:Nat):Int)=(2:Int) ^ k:=by simp
theorem nat_two_le {k:Nat} (h:k≤32):(2:Nat) ^ k≤4294967296:=Nat.pow_le_pow_right (by decide) h
theorem and_high (a:Int) (k:Nat) (hk:k≤32) (h0:0≤a) (h1:a≤4294967295):bits .and .u32 a (4294967296 - 2 ^ k)=a - a % 2 ^ k:=by
 obtain ⟨n,rfl⟩:=Int.eq_ofNat_of_zero_le h0
 have h2:=nat_two_le hk
 have hp:0<2 ^ k:=Nat.two_pow_pos k
 have hm:(4294967296:Int) - 2 ^ k=((4294967296 - 2 ^ k:Nat):Int):=by rw [← cast_two];omega
 rw [hm,u32_and_nat n _ (by omega) (by omega),nat_high n k hk (by omega)]
 have hl:n % 2 ^ k≤n:=Nat.mod_le _ _
 rw [Int.natCast_sub hl,Int.natCast_emod,cast_two]
theorem andNot_low (a:Int) (k:Nat) (hk:k≤32) (h0:0≤a) (h1:a≤4294967295):bits .andNot .u32 a (4294967296 - 2 ^ k)=a % 2 ^ k:=by
 obtain ⟨n,rfl⟩:=Int.eq_ofNat_of_zero_le h0
 have h2:=nat_two_le hk
 have hp:0<2 ^ k:=Nat.two_pow_pos k
 have hm:(4294967296:Int) - 2 ^ k=((4294967296 - 2 ^ k:Nat):Int):=by rw [← cast_two];omega
 rw [hm,u32_andNot_nat n _ (by omega) (by omega),show 4294967295 - (4294967296 - 2 ^ k)=2 ^ k - 1 by omega,Nat.and_two_pow_sub_one_eq_mod]
 rw [Int.natCast_emod,cast_two]
theorem and_mask (a b:Int) (hb0:0≤b) (hb1:b≤32) (h0:0≤a) (h1:a≤4294967295):bits .and .u32 a (mask b)=a - a % 2 ^ fr b:=by
 rw [mask_in b hb0 hb1];exact and_high a _ (fr_le b hb0) h0 h1
theorem andNot_mask (a b:Int) (hb0:0≤b) (hb1:b≤32) (h0:0≤a) (h1:a≤4294967295):bits .andNot .u32 a (mask b)=a % 2 ^ fr b:=by
 rw [mask_in b hb0 hb1];exact andNot_low a _ (fr_le b hb0) h0 h1
theorem or_join (x y:Int) (i:Nat) (hx0:0≤x) (hx1:x≤4294967295) (hx:x % 2 ^ i=0) (hy0:0≤y) (hy:y<2 ^ i) (hy1:y≤4294967295):bits .or .u32 x y=x+y:=by
 obtain ⟨n,rfl⟩:=Int.eq_ofNat_of_zero_le hx0
 obtain ⟨m,rfl⟩:=Int.eq_ofNat_of_zero_le hy0
 rw [u32_or_nat n m (by omega) (by omega),nat_join i n m (by rw [← cast_two] at hx;omega) (by rw [← cast_two] at hy;omega)]
 exact Int.natCast_add _ _
end Ad
end Go.Proofs.YtfidicbknjoafaaGreatDoor
namespace Go.Proofs.YtfidicbknjoafaaGreatDoor
open Go.RowKit Go.Lib
namespace Lx
def ltr (c:UInt8):Bool:=decide (97≤c.toNat∧c.toNat≤122)
def dgt (c:UInt8):Bool:=decide (48≤c.toNat∧c.toNat≤57)
def nch (c:UInt8):Bool:=ltr c || dgt c || decide (c.toNat=45)
def headOk (l:List UInt8):Bool:=decide (1≤l.length∧l.length≤12) && ltr (l.headD 0)
def nameOk (l:List UInt8):Bool:=headOk l && l.all nch
theorem all_take_next (l:List UInt8) (k:Nat) (h:k<l.length):(l.take (k+1)).all nch=((l.take k).all nch && nch l[k]):=by
  rw [List.take_succ_eq_append_getElem h,List.all_append];simp
theorem all_false (l:List UInt8) (k:Nat) (h:k<l.length) (hc:nch l[k]=false):l.all nch=false:=by
  rw [Bool.eq_false_iff]
  intro ha
  rw [List.all_eq_true] at ha
  rw [ha l[k] (List.getElem_mem h)] at hc
  cases hc
theorem ch_cases (c:UInt8):(97≤c.toNat∧c.toNat≤122∧nch c=true∧ltr c=true)∨(122<c.toNat∧nch c=false∧ltr c=false∧dgt c=false)∨(48≤c.toNat∧c.toNat≤57∧nch c=true∧ltr c=false∧dgt c=true) ∨
    (57<c.toNat∧c.toNat<97∧nch c=false∧ltr c=false∧dgt c=false)∨(c.toNat=45∧nch c=true∧ltr c=false∧dgt c=false)∨(c.toNat<48∧c.toNat ≠ 45∧nch c=false∧ltr c=false∧dgt c=false):=by
  unfold nch ltr dgt
  simp only [Bool.or_eq_true,Bool.or_eq_false_iff,decide_eq_true_eq,decide_eq_false_iff_not]
  omega
theorem nameOk_no {l:List UInt8} (h:headOk l=false):nameOk l=false:=by unfold nameOk;rw [h];rfl
theorem nameOk_not {l:List UInt8} (h:l.all nch=false):nameOk l=false:=by unfold nameOk;rw [h];simp
theorem nameOk_yes {l:List UInt8} (h:headOk l=true) (g:l.all nch=true):nameOk l=true:=by unfold nameOk;rw [h,g];rfl
end Lx
open Lx
theorem at_byte (s:ByteArray) (k:Nat) (h:k<s.size):s[k]=s.data.toList[k]'(by simpa using h):=rfl
theorem head_byte (s:ByteArray) (h:0<s.size):s.data.toList.headD 0=s[0]:=by
  have e:∀ l:List UInt8,(hl:0<l.length)→l.headD 0=l[0]:=fun l hl=>by
    cases l with
    | nil=>simp at hl
    | cons a r=>rfl
  exact e s.data.toList (by simpa using h)
def nmV (b:Bool) (x:Value):Value:=if b then .nilIface else x
theorem ret_if {b:Bool} {v x:Value} {W:World} (h:b=true∧x=.nilIface∨b=false∧x=v):Ending.returned x=Ending.returned (nmV b v)∧W=W:=by
  rcases h with ⟨rfl,rfl⟩ | ⟨rfl,rfl⟩ <;> exact ⟨rfl,rfl⟩
theorem letter_any (c:UInt8) (w:World):Calls Tryz.prog 210 #[.int .u8 (c.toNat:Int)] w fun e w'=>e=.returned (.bool (ltr c))∧w=w':=by
  have hl:Hid (ltr c=decide (97≤c.toNat∧c.toNat≤122)):=rfl
  generalize ltr c=b at *
  generalize c.toNat=n at *
  rcases Nat.lt_or_ge n 97 with h | h
  · go_enter Tryz.func210, Tryz.ntmps210
    go_wp2
    go_ret
    exact ⟨ret_bool (hl.out.trans (by rw [Bool.eq_iff_iff];simp;omega)).symm,rfl⟩
  · rcases Nat.lt_or_ge 122 n with g | g
    · go_enter Tryz.func210, Tryz.ntmps210
      go_wp2
      go_ret
      exact ⟨ret_bool (hl.out.trans (by rw [Bool.eq_iff_iff];simp;omega)).symm,rfl⟩
    · go_enter Tryz.func210, Tryz.ntmps210
      go_wp2
      go_ret
      exact ⟨ret_bool (hl.out.trans (by rw [Bool.eq_iff_iff];simp;omega)).symm,rfl⟩
theorem digit_any (c:UInt8) (w:World):Calls Tryz.prog 211 #[.int .u8 (c.toNat:Int)] w fun e w'=>e=.returned (.bool (dgt c))∧w=w':=by
  have hl:Hid (dgt c=decide (48≤c.toNat∧c.toNat≤57)):=rfl
  generalize dgt c=b at *
  generalize c.toNat=n at *
  rcases Nat.lt_or_ge n 48 with h | h
  · go_enter Tryz.func211, Tryz.ntmps211
    go_wp2
    go_ret
    exact ⟨ret_bool (hl.out.trans (by rw [Bool.eq_iff_iff];simp;omega)).symm,rfl⟩
  · rcases Nat.lt_or_ge 57 n with g | g
    · go_enter Tryz.func211, Tryz.ntmps211
      go_wp2
      go_ret
      exact ⟨ret_bool (hl.out.trans (by rw [Bool.eq_iff_iff];simp;omega)).symm,rfl⟩
    · go_enter Tryz.func211, Tryz.ntmps211
      go_wp2
      go_ret
      exact ⟨ret_bool (hl.out.trans (by rw [Bool.eq_iff_iff];simp;omega)).symm,rfl⟩
set_option maxHeartbeats 2000000 in
theorem name_any (s:ByteArray) (x:Value) (w:World) (hx:w.cell? ⟨6,0,none⟩=some x) :
    Calls Tryz.prog 149 #[.string s] w fun e w'=>e=.returned (nmV (nameOk s.data.toList) x)∧w=w':=by
  have HL:Hid (s.data.toList.length=s.size):=by show _=_;simp
  have hcase:(Hid (headOk s.data.toList=false)∧s.size<1)∨(Hid (headOk s.data.toList=false)∧1≤s.size∧12<s.size) ∨
      ∃ h:0<s.size,s.size≤12∧((Hid (headOk s.data.toList=false)∧ltr s[0]=false)∨(Hid (headOk s.data.toList=true)∧ltr s[0]=true)):=by
    unfold headOk
    by_cases h1:s.size<1
    · refine .inl ⟨?_, h1⟩
      show _=false
      rw [HL.out];simp;omega
    · by_cases h2 : 12 < s.size
      · refine .inr (.inl ⟨?_, by omega, h2⟩)
        show _=false
        rw [HL.out];simp;omega
      · refine .inr (.inr ⟨by omega, by omega, ?_⟩)
        rw [head_byte s (by omega)]
        cases hl:ltr s[0] with
        | false=>exact .inl ⟨by show _=false;simp,rfl⟩
        | true=>exact .inr ⟨by show _=true;rw [HL.out];simp;omega,rfl⟩
  rcases hcase with ⟨H,h1⟩ | ⟨H,h0,h1⟩ | ⟨h1,h2,hcase⟩
  · go_enter Tryz.func149, Tryz.ntmps149
    go_wp2
    go_ret
    exact ret_if (.inr ⟨nameOk_no H.out,rfl⟩)
  · go_enter Tryz.func149, Tryz.ntmps149
    go_wp2
    go_ret
    exact ret_if (.inr ⟨nameOk_no H.out,rfl⟩)
  · have HC0 := Lib.hid (fun W => letter_any s[0] W)
    rcases hcase with ⟨H,hl⟩ | ⟨H,hl⟩
    · rw [hl] at HC0
      clear hl
      go_enter Tryz.func149,Tryz.ntmps149
      go_wp2_with (go_at_call 210;refine (HC0.out _).mono ?_;rintro e w1 ⟨rfl,rfl⟩)
      go_ret
      exact ret_if (.inr ⟨nameOk_no H.out,rfl⟩)
    · rw [hl] at HC0
      clear hl
      go_enter Tryz.func149,Tryz.ntmps149
      go_wp2_with (go_at_call 210;refine (HC0.out _).mono ?_;rintro e w1 ⟨rfl,rfl⟩)
      clear HC0
      go_loop [21] (fun i=>∃ k:Nat,k≤s.size∧i=.int .i64 k∧Hid ((s.data.toList.take k).all nch=true)) (fun i=>s.size - (intOf i).toNat)
      case atStart=>exact ⟨0,Nat.zero_le _,rfl,rfl⟩
      case round =>
        obtain ⟨k,hk,rfl,ha⟩:=hrel
        by_cases hlt:k<s.size
        · have HN := Lib.hid (all_take_next s.data.toList k (by rw [HL.out]; exact hlt))
          have HF:=Lib.hid (all_false s.data.toList k (by rw [HL.out];exact hlt))
          rw [← at_byte s k hlt] at HN HF
          rw [ha.out] at HN
          have HCl:=Lib.hid (fun W=>letter_any s[k] W)
          have HCd:=Lib.hid (fun W=>digit_any s[k] W)
          have hi0:(k:Int)<s.size:=by omega
          rcases ch_cases s[k] with ⟨_,_,h3,h4⟩ | ⟨h1,h3,h4,h5⟩ | ⟨_,_,h3,h4,h5⟩ | ⟨h0,h1,h3,h4,h5⟩ | ⟨h1,h3,h4,h5⟩ | ⟨_,h1,h3,h4,h5⟩
          · rw [h4] at HCl
            rw [h3] at HN
            clear h3 h4 HF
            go_wp2_with (go_at_call 210;refine (HCl.out _).mono ?_;rintro e w1 ⟨rfl,rfl⟩)
            go_round
            case rel=>exact ⟨k+1,by omega,by go_num,HN⟩
            case measure=>simp [intOf];omega
          · rw [h4] at HCl
            rw [h5] at HCd
            have he:(((s[k].toNat:Nat):Int) != 45)=true:=by simp;omega
            have HX:=Lib.hid (HF.out h3)
            clear h3 h4 h5 HF h1
            go_wp2_with (first
              | (go_at_call 210;refine (HCl.out _).mono ?_;rintro e w1 ⟨rfl,rfl⟩)
              | (go_at_call 211;refine (HCd.out _).mono ?_;rintro e w1 ⟨rfl,rfl⟩))
            go_ret
            exact ret_if (.inr ⟨nameOk_not HX.out,rfl⟩)
          · rw [h4] at HCl
            rw [h5] at HCd
            rw [h3] at HN
            clear h3 h4 h5 HF
            go_wp2_with (first
              | (go_at_call 210;refine (HCl.out _).mono ?_;rintro e w1 ⟨rfl,rfl⟩)
              | (go_at_call 211;refine (HCd.out _).mono ?_;rintro e w1 ⟨rfl,rfl⟩))
            go_round
            case rel=>exact ⟨k+1,by omega,by go_num,HN⟩
            case measure=>simp [intOf];omega
          · rw [h4] at HCl
            rw [h5] at HCd
            have he:(((s[k].toNat:Nat):Int) != 45)=true:=by simp;omega
            have HX:=Lib.hid (HF.out h3)
            clear h3 h4 h5 HF h1 h0
            go_wp2_with (first
              | (go_at_call 210;refine (HCl.out _).mono ?_;rintro e w1 ⟨rfl,rfl⟩)
              | (go_at_call 211;refine (HCd.out _).mono ?_;rintro e w1 ⟨rfl,rfl⟩))
            go_ret
            exact ret_if (.inr ⟨nameOk_not HX.out,rfl⟩)
          · rw [h4] at HCl
            rw [h5] at HCd
            have he:(((s[k].toNat:Nat):Int) != 45)=false:=by rw [h1];rfl
            rw [h3] at HN
            clear h3 h4 h5 HF h1
            go_wp2_with (first
              | (go_at_call 210;refine (HCl.out _).mono ?_;rintro e w1 ⟨rfl,rfl⟩)
              | (go_at_call 211;refine (HCd.out _).mono ?_;rintro e w1 ⟨rfl,rfl⟩))
            go_round
            case rel=>exact ⟨k+1,by omega,by go_num,HN⟩
            case measure=>simp [intOf];omega
          · rw [h4] at HCl
            rw [h5] at HCd
            have he:(((s[k].toNat:Nat):Int) != 45)=true:=by simp;omega
            have HX:=Lib.hid (HF.out h3)
            clear h3 h4 h5 HF h1
            go_wp2_with (first
              | (go_at_call 210;refine (HCl.out _).mono ?_;rintro e w1 ⟨rfl,rfl⟩)
              | (go_at_call 211;refine (HCd.out _).mono ?_;rintro e w1 ⟨rfl,rfl⟩))
            go_ret
            exact ret_if (.inr ⟨nameOk_not HX.out,rfl⟩)
        · have he : s.data.toList.take k = s.data.toList := List.take_of_length_le (by rw [HL.out]; omega)
          rw [he] at ha
          clear he
          go_wp2
          go_ret
          exact ret_if (.inl ⟨nameOk_yes H.out ha.out,rfl⟩)
end Go.Proofs.YtfidicbknjoafaaGreatDoor
namespace Go.Proofs.YtfidicbknjoafaaGreatDoor
open Go.RowKit Go.Lib Lx
def nmC (b:Bool):Int:=if b then 0 else 109
theorem ret_code {b:Bool} {x:Int} {W:World} (h:b=true∧x=0∨b=false∧x=109):Ending.returned (.int .i64 x)=Ending.returned (.int .i64 (nmC b))∧W=W:=by
  rcases h with ⟨rfl,rfl⟩ | ⟨rfl,rfl⟩ <;> exact ⟨rfl,rfl⟩
theorem bval {a b:Bool} (h:a=b):Value.bool a=Value.bool b:=by rw [h]
set_option maxHeartbeats 4000000 in
theorem rname_big (s:ByteArray) (w:World) (hs:s.size≤9223372036854775807) :
    Calls Tryz.prog 204 #[.string s] w fun e w'=>e=.returned (.int .i64 (nmC (nameOk s.data.toList)))∧w=w':=by
  have HL:Hid (s.data.toList.length=s.size):=by show _=_;simp
  have hcase:(Hid (headOk s.data.toList=false)∧s.size<1)∨(Hid (headOk s.data.toList=false)∧1≤s.size∧12<s.size) ∨
      ∃ h:0<s.size,1≤s.size∧s.size≤12∧((Hid (headOk s.data.toList=false)∧s[0].toNat<97)∨(Hid (headOk s.data.toList=false)∧97≤s[0].toNat∧122<s[0].toNat)∨(Hid (headOk s.data.toList=true)∧97≤s[0].toNat∧s[0].toNat≤122)):=by
    unfold headOk
    by_cases h1:s.size<1
    · refine .inl ⟨?_, h1⟩
      show _=false
      rw [HL.out];simp;omega
    · by_cases h2 : 12 < s.size
      · refine .inr (.inl ⟨?_, by omega, h2⟩)
        show _=false
        rw [HL.out];simp;omega
      · refine .inr (.inr ⟨by omega, by omega, by omega, ?_⟩)
        rw [head_byte s (by omega)]
        unfold ltr
        by_cases h3:s[0].toNat<97
        · refine .inl ⟨?_, h3⟩
          show _=false
          simp;omega
        · by_cases h4 : 122 < s[0].toNat
          · refine .inr (.inl ⟨?_, by omega, h4⟩)
            show _=false
            simp;omega
          · refine .inr (.inr ⟨?_, by omega, by omega⟩)
            show _=true
            rw [HL.out];simp;omega
  rcases hcase with ⟨H,h1⟩ | ⟨H,h0,h1⟩ | ⟨h0,h1,h2,⟨H,h3⟩ | ⟨H,h3,h4⟩ | ⟨H,h3,h4⟩⟩
  all_goals
    go_enter Tryz.func204,Tryz.ntmps204
    go_wp2_with fail
    go_loop [3,4] (fun o i=>∃ (k:Nat) (b:Bool),k≤s.size∧i=.int .i64 k∧o=.bool b∧Hid ((headOk s.data.toList && (s.data.toList.take k).all nch)=b)) (fun _ i=>s.size - (intOf i).toNat)
    case atStart=>exact ⟨0,_,Nat.zero_le _,rfl,rfl,by show _=_;rw [H.out];first | rfl | (simp;done) | (simp;omega)⟩
    case round =>
      obtain ⟨k,b,hk,rfl,rfl,ha⟩:=hrel
      by_cases hlt:k<s.size
      · have HN := Lib.hid (congrArg (headOk s.data.toList && ·) (all_take_next s.data.toList k (by rw [HL.out]; exact hlt)))
        simp only [← Bool.and_assoc,ha.out] at HN
        rw [← at_byte s k hlt] at HN
        have hi0:(k:Int)<s.size:=by omega
        cases b with
        | false =>
          go_wp2
          go_round
          case rel=>exact ⟨k+1,false,by omega,by go_num,bval (by first | rfl | (simp;done) | (simp;omega)),HN⟩
          case measure=>simp [intOf];omega
        | true =>
          first
          | (exfalso;have h9:=ha.out;rw [H.out] at h9;simp at h9;done)
          | (clear H
             rcases ch_cases s[k] with ⟨g1,g2,h3,h4⟩ | ⟨g1,h3,h4,h5⟩ | ⟨g1,g2,h3,h4,h5⟩ | ⟨g0,g1,h3,h4,h5⟩ | ⟨g1,h3,h4,h5⟩ | ⟨g0,g1,h3,h4,h5⟩
             · rw [h3] at HN
               clear h3 h4
               go_wp2
               go_round
               case rel=>exact ⟨k+1,true,by omega,by go_num,bval (by first | rfl | (simp;done) | (simp;omega)),HN⟩
               case measure=>simp [intOf];omega
             · rw [h3] at HN
               clear h3 h4 h5
               have g2:97≤s[k].toNat:=by omega
               have g3:48≤s[k].toNat:=by omega
               have g4:57<s[k].toNat:=by omega
               have g5:(((s[k].toNat:Nat):Int) == 45)=false:=by simp;omega
               go_wp2
               go_round
               case rel=>exact ⟨k+1,false,by omega,by go_num,bval (by first | rfl | (simp;done) | (simp;omega)),HN⟩
               case measure=>simp [intOf];omega
             · rw [h3] at HN
               clear h3 h4 h5
               have g3:s[k].toNat<97:=by omega
               go_wp2
               go_round
               case rel=>exact ⟨k+1,true,by omega,by go_num,bval (by first | rfl | (simp;done) | (simp;omega)),HN⟩
               case measure=>simp [intOf];omega
             · rw [h3] at HN
               clear h3 h4 h5
               have g3:48≤s[k].toNat:=by omega
               have g5:(((s[k].toNat:Nat):Int) == 45)=false:=by simp;omega
               go_wp2
               go_round
               case rel=>exact ⟨k+1,false,by omega,by go_num,bval (by first | rfl | (simp;done) | (simp;omega)),HN⟩
               case measure=>simp [intOf];omega
             · rw [h3] at HN
               clear h3 h4 h5
               have g3:s[k].toNat<48:=by omega
               have g4:s[k].toNat<97:=by omega
               have g5:(((s[k].toNat:Nat):Int) == 45)=true:=by simp;omega
               clear g1
               go_wp2
               go_round
               case rel=>exact ⟨k+1,true,by omega,by go_num,bval (by first | rfl | (simp;done) | (simp;omega)),HN⟩
               case measure=>simp [intOf];omega
             · rw [h3] at HN
               clear h3 h4 h5
               have g4:s[k].toNat<97:=by omega
               have g5:(((s[k].toNat:Nat):Int) == 45)=false:=by simp;omega
               clear g1
               go_wp2
               go_round
               case rel=>exact ⟨k+1,false,by omega,by go_num,bval (by first | rfl | (simp;done) | (simp;omega)),HN⟩
               case measure=>simp [intOf];omega)
      · have he : s.data.toList.take k = s.data.toList := List.take_of_length_le (by rw [HL.out]; omega)
        rw [he] at ha
        clear he
        cases b with
        | false =>
          go_wp2
          go_ret
          exact ret_code (.inr ⟨ha.out,rfl⟩)
        | true =>
          go_wp2
          go_ret
          exact ret_code (.inl ⟨ha.out,rfl⟩)
end Go.Proofs.YtfidicbknjoafaaGreatDoor
