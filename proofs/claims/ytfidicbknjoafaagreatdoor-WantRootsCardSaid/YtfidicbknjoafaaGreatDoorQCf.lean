/- Rows of items in memory, and what a search over them, or the first error of them, comes to. -/
import Derived.Test.YtfidicbknjoafaaGreatDoorQKit
import Derived.WalkKit
import Derived.Laws.BitsAllLaws
import Derived.Maps.AppendAt
import Derived.Deep.AppendLies
import Derived.OwnWalk
import Derived.Lib.FieldsP
import Derived.Lib.SplitLaws
import Derived.Below
namespace Go.Proofs.YtfidicbknjoafaaGreatDoor
namespace Sm
def IsB (xs:List Int):Prop:=∀x∈xs,0≤x∧x≤255
def tot:List Int→Int
 | []=>0
 | [a]=>a*256
 | a :: b :: r=>a*256+b+tot r
def oc (t:Int):Int:=if t=0 then 0 else (t - 1) % 65535+1
def sum (xs:List Int):Int:=65535 - oc (tot xs)
def place (n:Nat) (at_:Int):Bool:=decide (0≤at_∧at_ % 2=0∧at_≤(n:Int) - 2)
def zero2 (xs:List Int) (i:Nat):List Int:=(xs.set i 0).set (i+1) 0
def put2 (xs:List Int) (i:Nat) (s:Int):List Int:=(xs.set i (s / 256)).set (i+1) (s % 256)
def put (xs:List Int) (at_:Int):List Int :=
 if place xs.length at_ then put2 (zero2 xs at_.toNat) at_.toNat (sum (zero2 xs at_.toNat)) else xs
theorem IsB.at_ {xs:List Int} (h:IsB xs) (i:Nat):0≤xs.getD i 0∧xs.getD i 0≤255:=by
 rw[List.getD_eq_getElem?_getD]
 cases hx:xs[i]? with
 | none=>simp
 | some x=>exact h x (List.mem_of_getElem? hx)
theorem IsB.tail {a:Int} {xs:List Int} (h:IsB (a :: xs)):IsB xs:=fun x hx=>h x (List.mem_cons_of_mem _ hx)
theorem IsB.take {xs:List Int} (h:IsB xs) (k:Nat):IsB (xs.take k):=fun x hx=>h x (List.mem_of_mem_take hx)
theorem IsB.drop {xs:List Int} (h:IsB xs) (k:Nat):IsB (xs.drop k):=fun x hx=>h x (List.mem_of_mem_drop hx)
theorem IsB.append {xs ys:List Int} (h:IsB xs) (g:IsB ys):IsB (xs++ys):=fun x hx=>by
 rcases List.mem_append.1 hx with h1|h1
 ·exact h x h1
 ·exact g x h1
theorem IsB.set {xs:List Int} (h:IsB xs) (i:Nat) {v:Int} (h0:0≤v) (h1:v≤255):IsB (xs.set i v):=fun x hx=>by
 rcases List.mem_or_eq_of_mem_set hx with h2|rfl
 ·exact h x h2
 ·exact⟨h0,h1⟩
theorem tot_bd:∀ {xs:List Int},IsB xs→0≤tot xs∧tot xs≤65535*(xs.length:Int)
 | [],_=>by simp[tot]
 | [a],h=>by
  have:=h a (by simp)
  simp[tot];omega
 | a :: b :: r,h=>by
  have h1:=h a (by simp)
  have h2:=h b (by simp)
  have h3:=tot_bd (xs:=r) h.tail.tail
  simp only[tot,List.length_cons]
  omega
theorem tot_set:∀ (xs:List Int) (i:Nat) (v:Int),i<xs.length→tot (xs.set i v)=tot xs+(v - xs.getD i 0)*(if i % 2=0 then 256 else 1)
 | [],i,v,h=>by simp at h
 | [a],i,v,h=>by
  obtain rfl:i=0:=by simpa using h
  simp[tot];omega
 | a :: b :: r,0,v,_=>by simp[tot];omega
 | a :: b :: r,1,v,_=>by simp[tot];omega
 | a :: b :: r,i+2,v,h=>by
  have h3:=tot_set r i v (by simpa using h)
  simp only[List.set_cons_succ,tot,h3,List.getD_cons_succ,Nat.add_mod_right]
  omega
theorem getD_set_self {xs:List Int} {i:Nat} (v:Int) (h:i<xs.length):(xs.set i v).getD i 0=v:=by simp[List.getD,h]
theorem getD_set_ne {xs:List Int} {i j:Nat} (v:Int) (h:i ≠ j):(xs.set i v).getD j 0=xs.getD j 0:=by simp[List.getD,List.getElem?_set_ne h]
theorem xor_bit:∀ (o:Fin 256) (j:Fin 8),(bits .xor .u8 (o.val:Int) (2 ^ j.val)=o.val+2 ^ j.val∨bits .xor .u8 (o.val:Int) (2 ^ j.val)=o.val - 2 ^ j.val) ∧
  bits .xor .u8 (bits .xor .u8 (o.val:Int) (2 ^ j.val)) (2 ^ j.val)=o.val∧0≤bits .xor .u8 (o.val:Int) (2 ^ j.val)∧bits .xor .u8 (o.val:Int) (2 ^ j.val)≤255:=by decide +kernel
theorem two8:∀j:Fin 8,(2:Int) ^ j.val=1∨(2:Int) ^ j.val=2∨(2:Int) ^ j.val=4∨(2:Int) ^ j.val=8∨(2:Int) ^ j.val=16∨(2:Int) ^ j.val=32∨(2:Int) ^ j.val=64∨(2:Int) ^ j.val=128:=by decide
theorem turned {xs:List Int} (hb:IsB xs) (ho:oc (tot xs)=65535) {i:Nat} (hi:i<xs.length) {j:Nat} (hj:j<8):oc (tot (xs.set i (bits .xor .u8 (xs.getD i 0) (2 ^ j)))) ≠ 65535:=by
 obtain⟨h0,h1⟩:=hb.at_ i
 obtain⟨o,ho'⟩:=Int.eq_ofNat_of_zero_le h0
 obtain⟨hx,_,hy0,hy1⟩:=xor_bit ⟨o,by omega⟩ ⟨j,hj⟩
 simp only at hx hy0 hy1
 have ht:=tot_bd (hb.set i hy0 hy1)
 have h2:=two8 ⟨j,hj⟩
 simp only at h2
 have e:=tot_set xs i (bits .xor .u8 (o:Int) (2 ^ j)) hi
 rw[ho']at e ⊢
 have ht0:=ht.1
 have hs:=(tot_bd hb).1
 rw[e]at ht0 ⊢
 generalize tot xs=T at *
 generalize bits .xor .u8 (o:Int) (2 ^ j)=V at *
 generalize (2:Int) ^ j=p at *
 have hd:∃d:Int,(V - o)*(if i % 2=0 then (256:Int) else 1)=d∧-32768≤d∧d≤32768∧d ≠ 0:=by
  refine⟨_,rfl,?_,?_,?_⟩ <;> split <;> omega
 obtain⟨d,hd,hd1,hd2,hd3⟩:=hd
 rw[hd]at ht0 ⊢
 unfold oc at *
 split at ho <;> split <;> omega
theorem back {xs:List Int} (hb:IsB xs) {i:Nat} (hi:i<xs.length) {j:Nat} (hj:j<8) :
  (xs.set i (bits .xor .u8 (xs.getD i 0) (2 ^ j))).set i (bits .xor .u8 ((xs.set i (bits .xor .u8 (xs.getD i 0) (2 ^ j))).getD i 0) (2 ^ j))=xs:=by
 obtain⟨h0,h1⟩:=hb.at_ i
 obtain⟨o,ho'⟩:=Int.eq_ofNat_of_zero_le h0
 obtain⟨_,hx,_,_⟩:=xor_bit ⟨o,by omega⟩ ⟨j,hj⟩
 simp only at hx
 rw[getD_set_self _ hi,List.set_set,ho']
 show xs.set i (bits .xor .u8 (bits .xor .u8 (o:Int) (2 ^ j)) (2 ^ j))=xs
 rw[hx]
 have:xs[i]=(o:Int):=by
  have e:xs.getD i 0=xs[i]:=by simp[List.getD,List.getElem?_eq_getElem hi]
  rw[←e,ho']
 rw[←this,List.set_getElem_self]
end Sm
end Go.Proofs.YtfidicbknjoafaaGreatDoor
namespace Go.Proofs.YtfidicbknjoafaaGreatDoor
open Go.RowKit Sm
def BR (w:World) (A:Option Addr) (n:Nat) (xs:List Int):Prop :=
 xs.length=n∧IsB xs∧(0<n→∃b o,A=some ⟨b,o,none⟩∧b<w.heap.size∧∀i,i<n→w.cell? ⟨b,o+i,none⟩=some (.int .u8 (xs.getD i 0)))
section
variable {w w':World} {A:Option Addr} {n:Nat} {xs:List Int}
theorem BR.none_ (w:World) (A:Option Addr):BR w A 0 []:=⟨rfl,(fun _ h=>by cases h),fun h=>absurd h (by omega)⟩
theorem BR.len (h:BR w A n xs):xs.length=n:=h.1
theorem BR.next (h:BR w A n xs) (hb:Below w.heap.size w w'):BR w' A n xs :=
 ⟨h.1,h.2.1,fun hn=>by
  obtain⟨b,o,e,hlt,hc⟩:=h.2.2 hn
  exact⟨b,o,e,Nat.lt_of_lt_of_le hlt hb.size,fun i hi=>(hb.cell (p:=⟨b,o+i,none⟩) hlt).trans (hc i hi)⟩⟩
theorem BR.at_ {k:Nat} (h:BR w A n xs) (hk:k<n):∃b o,A=some ⟨b,o,none⟩∧b<w.heap.size∧w.cell? ⟨b,o+k,none⟩=some (.int .u8 (xs.getD k 0)):=by
 obtain⟨b,o,e,hlt,hc⟩:=h.2.2 (by omega)
 exact⟨b,o,e,hlt,hc k hk⟩
theorem own_next {base:Nat} {e:TypeId} {v:Value} {ys:List Value} (h:w.ownsRow base e 1 v n ys) (hb:Below w.heap.size w w'):w'.ownsRow base e 1 v n ys:=by
 refine⟨h.1,?_⟩
 rcases h.2 with hn|⟨g,cap,cur,rfl,hbg,hh,rest⟩
 ·exact .inl hn
 ·exact .inr ⟨g,cap,cur,rfl,hbg,(hb.block g (Array.getElem?_eq_some_iff.1 hh).1).trans hh,rest⟩
theorem below_next {w1 w2:World} (h:Below w.heap.size w w1) (g:Below w1.heap.size w1 w2):Below w.heap.size w w2:=h.trans (g.mono h.size)
end
end Go.Proofs.YtfidicbknjoafaaGreatDoor
namespace Go.Proofs.YtfidicbknjoafaaGreatDoor
namespace Sm
def hdr (l i t p f o:Int):List Int:=[69,0,l / 256,l % 256,i / 256,i % 256,0,0,t,p,0,0,f / 16777216,f / 65536 % 256,f / 256 % 256,f % 256,o / 16777216,o / 65536 % 256,o / 256 % 256,o % 256]
def isA (f:Int):Prop:=0≤f∧f≤4294967295
def hbs (l i t p f o:Int):List Int:=put (hdr l i t p f o) 10
def rsh (xs:List Int):Bool:=decide (xs.getD 0 0=69∧xs.getD 1 0=0∧xs.getD 6 0=0∧xs.getD 7 0=0)
def rn (xs:List Int) (k:Nat):Int:=xs.getD k 0*256+xs.getD (k+1) 0
def ra (xs:List Int) (k:Nat):Int:=xs.getD k 0*16777216+xs.getD (k+1) 0*65536+xs.getD (k+2) 0*256+xs.getD (k+3) 0
def rcode (xs:List Int):Int :=
 if xs.length<20 then 101 else if rsh xs=false then 102 else if oc (tot (xs.take 20)) ≠ 65535 then 105 else if rn xs 2<20 then 103 else 0
end Sm
def hv (l i t p f o:Int):Value:=.agg #[.int .i64 l,.int .i64 i,.int .i64 t,.int .i64 p,.int .u32 f,.int .u32 o]
def rv (xs:List Int):Value:=if Sm.rcode xs=0 then hv (Sm.rn xs 2) (Sm.rn xs 4) (xs.getD 8 0) (xs.getD 9 0) (Sm.ra xs 12) (Sm.ra xs 16) else hv 0 0 0 0 0 0
end Go.Proofs.YtfidicbknjoafaaGreatDoor
namespace Go.Proofs.YtfidicbknjoafaaGreatDoor
structure Ms where
 k:Int
 f:Int
 t:Int
 s:Int
 g:Int
 r:Int
 c:Int
 o:Bool
 l:List Int
namespace Sm
def b4 (a:Int):List Int:=[a / 16777216,a / 65536 % 256,a / 256 % 256,a % 256]
def b2 (n:Int):List Int:=[n / 256,n % 256]
def flat:List Int→List Int
 | []=>[]
 | a :: r=>b4 a++flat r
def IsAs (l:List Int):Prop:=∀x∈l,isA x
def kOk (k:Int):Bool:=decide (1≤k∧k≤5)
def cOk (n:Int):Bool:=decide (0≤n∧n≤65535)
def gOk (a:Int):Bool:=decide (a / 268435456=14)
def owned (m:Ms):Ms:=⟨m.k,m.f,if m.k=2 then m.t else 0,if m.k=2∨m.k=3 then m.s else 0,if 2≤m.k∧m.k≤5 then m.g else 0,if m.k=1 then m.r else 0,if m.k=3 then m.c else 0,if m.k=4 then m.o else false,if m.k=4 then m.l else []⟩
def sameB (m n:Ms):Bool:=decide (m.k=n.k∧m.f=n.f∧m.t=n.t∧(m.s=n.s∧m.g=n.g)∧m.r=n.r∧m.c=n.c∧m.o=n.o∧m.l=n.l)
def mcode (m:Ms):Int :=
 if kOk m.k=false then 113 else if 4<m.l.length then 104
 else if (cOk m.r&&(cOk m.c&&((m.k==1) || gOk m.g)))=true∧sameB m (owned m)=true then 0 else 103
def body (m:Ms):List Int :=
 if m.k=1 then b2 m.r else if m.k=2 then b4 m.t++(b4 m.s++b4 m.g) else if m.k=3 then b4 m.s++(b4 m.g++b2 m.c)
 else if m.k=4 then b4 m.g++([if m.o then 1 else 0,(m.l.length:Int)]++flat m.l) else b4 m.g
theorem b4_len (a:Int):(b4 a).length=4:=rfl
theorem flat_len:∀l:List Int,(flat l).length=4*l.length
 | []=>rfl
 | a :: r=>by simp[flat,b4_len,flat_len r];omega
theorem IsB.cons {a:Int} {xs:List Int} (h0:0≤a) (h1:a≤255) (h:IsB xs):IsB (a :: xs):=fun x hx=>by
 rcases List.mem_cons.1 hx with rfl|hx
 ·exact⟨h0,h1⟩
 ·exact h x hx
end Sm
end Go.Proofs.YtfidicbknjoafaaGreatDoor
namespace Go.Proofs.YtfidicbknjoafaaGreatDoor
open Go.RowKit Sm
def A32 (xs:List Int):List Value:=xs.map (Value.int .u32)
theorem A32_len (xs:List Int):(A32 xs).length=xs.length:=by simp[A32]
theorem A32_set (xs:List Int) (i:Nat) (v:Int):A32 (xs.set i v)=(A32 xs).set i (.int .u32 v):=by simp[A32,List.map_set]
theorem A32_at {xs:List Int} {i:Nat} (h:i<xs.length):(A32 xs)[i]?=some (.int .u32 (xs.getD i 0)):=by
 simp[A32,List.getD,List.getElem?_eq_getElem h]
def AR (w:World) (A:Option Addr) (n:Nat) (xs:List Int):Prop :=
 xs.length=n∧IsAs xs∧(0<n→∃b o,A=some ⟨b,o,none⟩∧b<w.heap.size∧∀i,i<n→w.cell? ⟨b,o+i,none⟩=some (.int .u32 (xs.getD i 0)))
section
variable {w w':World} {A:Option Addr} {n:Nat} {xs:List Int}
theorem AR.none_ (w:World) (A:Option Addr):AR w A 0 []:=⟨rfl,(fun _ h=>by cases h),fun h=>absurd h (by omega)⟩
theorem AR.len (h:AR w A n xs):xs.length=n:=h.1
theorem AR.isAs (h:AR w A n xs):IsAs xs:=h.2.1
theorem AR.next (h:AR w A n xs) (hb:Below w.heap.size w w'):AR w' A n xs :=
 ⟨h.1,h.2.1,fun hn=>by
  obtain⟨b,o,e,hlt,hc⟩:=h.2.2 hn
  exact⟨b,o,e,Nat.lt_of_lt_of_le hlt hb.size,fun i hi=>(hb.cell (p:=⟨b,o+i,none⟩) hlt).trans (hc i hi)⟩⟩
theorem AR.at_ {k:Nat} (h:AR w A n xs) (hk:k<n):∃b o,A=some ⟨b,o,none⟩∧b<w.heap.size∧w.cell? ⟨b,o+k,none⟩=some (.int .u32 (xs.getD k 0)):=by
 obtain⟨b,o,e,hlt,hc⟩:=h.2.2 (by omega)
 exact⟨b,o,e,hlt,hc k hk⟩
theorem own_forma {base:Nat} {e:TypeId} {v:Value} (h:w.ownsRow base e 1 v n (A32 xs)) (hb:IsAs xs) :
  ∃A c,v=.slice A n c∧n≤c∧AR w A n xs∧(0<n→∃g,A=some ⟨g,0,none⟩∧base≤g∧g<w.heap.size):=by
 have hl:xs.length=n:=by have:=h.1;rw[A32_len]at this;omega
 have h0:=h
 rcases h.2 with ⟨rfl,rfl⟩|⟨g,cap,cur,rfl,hbg,hh,hnc,_⟩
 ·obtain rfl:xs=[]:=List.eq_nil_of_length_eq_zero hl
  exact⟨none,0,rfl,Nat.le_refl _,AR.none_ _ _,fun h=>absurd h (by omega)⟩
 ·have hlt:g<w.heap.size:=(Array.getElem?_eq_some_iff.1 hh).1
  refine⟨_,cap,rfl,hnc,⟨hl,hb,fun _=>⟨g,0,rfl,hlt,fun i hi=>?_⟩⟩,fun _=>⟨g,rfl,hbg,hlt⟩⟩
  rw[Nat.zero_add,h0.cellAt i (by omega)]
  exact A32_at (by omega)
theorem own_seta {base:Nat} {e:TypeId} {g cap:Nat} (h:w.ownsRow base e 1 (.slice (some ⟨g,0,none⟩) n cap) n (A32 xs)) (i:Nat) (v:Int) :
  (w.setCell ⟨g,i,none⟩ (.int .u32 v)).ownsRow base e 1 (.slice (some ⟨g,0,none⟩) n cap) n (A32 (xs.set i v)):=by
 rw[A32_set]
 exact (h.stored i (.int .u32 v)).1
end
end Go.Proofs.YtfidicbknjoafaaGreatDoor
namespace Go.Proofs.YtfidicbknjoafaaGreatDoor
namespace Lx
def sep (c:UInt8):Bool:=c.toNat==32 || c.toNat==9 || c.toNat==13
def scan:List UInt8→List UInt8→List (List UInt8)
 | cur,[]=>if cur=[] then [] else [cur]
 | cur,c :: l=>if sep c then (if cur=[] then scan [] l else cur :: scan [] l) else scan (cur++[c]) l
def words (l:List UInt8):List (List UInt8):=scan [] l
def nl:List UInt8→List (List UInt8)
 | []=>[[]]
 | c :: l=>if c=10 then [] :: nl l else match nl l with|p :: ps=>(c :: p) :: ps | []=>[[c]]
def bare:List UInt8→List UInt8
 | []=>[]
 | c :: l=>if c=35 then [] else c :: bare l
def row (no:Nat) (p:List UInt8):List (Nat × List (List UInt8)):=if words (bare p)=[] then [] else [(no,words (bare p))]
def rows:Nat→List (List UInt8)→List (Nat × List (List UInt8))
 | _,[]=>[]
 | no,p :: ps=>row no p++rows (no+1) ps
def lines (l:List UInt8):List (Nat × List (List UInt8)):=rows 1 (nl l)
def fin (no:Nat) (ws:List (List UInt8)):List (Nat × List (List UInt8)):=if ws=[] then [] else [(no,ws)]
end Lx
end Go.Proofs.YtfidicbknjoafaaGreatDoor
namespace Go.Proofs.YtfidicbknjoafaaGreatDoor
open Go.RowKit
namespace Lx
def str (l:List UInt8):ByteArray:=⟨l.toArray⟩
def VS (ws:List (List UInt8)):List Value:=ws.map fun l=>.string (str l)
theorem VS_len (ws:List (List UInt8)):(VS ws).length=ws.length:=by simp[VS]
theorem VS_at {ws:List (List UInt8)} {i:Nat} (h:i<ws.length):(VS ws)[i]?=some (.string (str (ws.getD i []))):=by
 simp[VS,List.getD,List.getElem?_eq_getElem h]
theorem str_data (l:List UInt8):(str l).data.toList=l:=by simp[str]
end Lx
open Lx
def SR (w:World) (A:Option Addr) (n:Nat) (ws:List (List UInt8)):Prop :=
 ws.length=n∧(0<n→∃b o,A=some ⟨b,o,none⟩∧b<w.heap.size∧∀i,i<n→w.cell? ⟨b,o+i,none⟩=some (.string (str (ws.getD i []))))
section
variable {w w':World} {A:Option Addr} {n:Nat} {ws:List (List UInt8)}
theorem SR.none_ (w:World) (A:Option Addr):SR w A 0 []:=⟨rfl,fun h=>absurd h (by omega)⟩
theorem SR.len (h:SR w A n ws):ws.length=n:=h.1
theorem SR.next (h:SR w A n ws) (hb:Below w.heap.size w w'):SR w' A n ws :=
 ⟨h.1,fun hn=>by
  obtain⟨b,o,e,hlt,hc⟩:=h.2 hn
  exact⟨b,o,e,Nat.lt_of_lt_of_le hlt hb.size,fun i hi=>(hb.cell (p:=⟨b,o+i,none⟩) hlt).trans (hc i hi)⟩⟩
theorem SR.at_ {k:Nat} (h:SR w A n ws) (hk:k<n):∃b o,A=some ⟨b,o,none⟩∧b<w.heap.size∧w.cell? ⟨b,o+k,none⟩=some (.string (str (ws.getD k []))):=by
 obtain⟨b,o,e,hlt,hc⟩:=h.2 (by omega)
 exact⟨b,o,e,hlt,hc k hk⟩
theorem own_strs {base:Nat} {e:TypeId} {v:Value} (h:w.ownsRow base e 1 v n (VS ws)):∃A c,v=.slice A n c∧n≤c∧SR w A n ws:=by
 have hl:ws.length=n:=by have:=h.1;rw[VS_len]at this;omega
 have h0:=h
 rcases h.2 with ⟨rfl,rfl⟩|⟨g,cap,cur,rfl,hbg,hh,hnc,_⟩
 ·obtain rfl:ws=[]:=List.eq_nil_of_length_eq_zero hl
  exact⟨none,0,rfl,Nat.le_refl _,SR.none_ _ _⟩
 ·have hlt:g<w.heap.size:=(Array.getElem?_eq_some_iff.1 hh).1
  refine⟨_,cap,rfl,hnc,hl,fun _=>⟨g,0,rfl,hlt,fun i hi=>?_⟩⟩
  rw[Nat.zero_add,h0.cellAt i (by omega)]
  exact VS_at (by omega)
theorem own_slice {base:Nat} {e:TypeId} {k:Nat} {v:Value} {xs:List Value} (h:w.ownsRow base e k v n xs):∃A c,v=.slice A n c∧n≤c∧(0<n→∃g,A=some ⟨g,0,none⟩∧base≤g∧g<w.heap.size):=by
 rcases h.2 with ⟨rfl,rfl⟩|⟨g,cap,cur,rfl,hbg,hh,hnc,_⟩
 ·exact⟨none,0,rfl,Nat.le_refl _,fun h=>absurd h (by omega)⟩
 ·exact⟨_,cap,rfl,hnc,fun _=>⟨g,rfl,hbg,(Array.getElem?_eq_some_iff.1 hh).1⟩⟩
end
def LC (w:World) (tS:TypeId):List (Nat × List (List UInt8))→List Value→Prop
 | [],cs=>cs=[]
 | (no,ws) :: L,cs=>∃v cs',cs=.int .i64 (no:Int) :: v :: cs'∧w.ownsRow 0 tS 1 v ws.length (VS ws)∧LC w tS L cs'
section
variable {w w':World} {tS tL:TypeId}
theorem LC.len:∀ {L:List (Nat × List (List UInt8))} {cs:List Value},LC w tS L cs→cs.length=L.length*2
 | [],cs,h=>by rw[show cs=[] from h];rfl
 | (no,ws) :: L,cs,⟨v,cs',e,_,h⟩=>by
  rw[e,List.length_cons,List.length_cons,h.len,List.length_cons];omega
theorem LC.one:∀ {L:List (Nat × List (List UInt8))} {cs:List Value},LC w tS L cs→∀u∈cs,u.oneCell'=true
 | [],cs,h=>by rw[show cs=[] from h];intro u hu;cases hu
 | (no,ws) :: L,cs,⟨v,cs',e,ho,h⟩=>by
  subst e
  intro u hu
  rcases List.mem_cons.1 hu with rfl|hu
  ·rfl
  ·rcases List.mem_cons.1 hu with rfl|hu
   ·obtain⟨A,c,rfl,_⟩:=own_slice ho
    rfl
   ·exact h.one u hu
theorem LC.next:∀ {L:List (Nat × List (List UInt8))} {cs:List Value},LC w tS L cs→Below w.heap.size w w'→LC w' tS L cs
 | [],_,h,_=>h
 | (_,_) :: _,_,⟨v,cs',e,ho,h⟩,hb=>⟨v,cs',e,own_next ho hb,h.next hb⟩
theorem LC.kept {base n k:Nat} {u:Value} {us:List Value} (hn:tS ≠ tL) (hu:w.ownsRow base tL k u n us) (hg:w.grownBy w' u.ownBlock):∀ {L:List (Nat × List (List UInt8))} {cs:List Value},LC w tS L cs→LC w' tS L cs
 | [],_,h=>h
 | (_,_) :: _,_,⟨v,cs',e,ho,h⟩=>by
  refine⟨v,cs',e,ho.kept hg ?_,h.kept hn hu hg⟩
  rcases ho.2 with ⟨rfl,_⟩|⟨g,cap,cur,rfl,_,hh,_⟩
  ·exact .inl rfl
  ·right
   rcases hu.2 with ⟨rfl,_⟩|⟨g',cap',cur',rfl,_,hh',_⟩
   ·simp[Value.ownBlock]
   ·simp only[Value.ownBlock]
    intro e2
    cases e2
    rw[hh]at hh'
    injection hh' with h1
    injection h1 with _ h2
    exact hn h2
theorem LC.at_:∀ {L:List (Nat × List (List UInt8))} {cs:List Value} {i:Nat},LC w tS L cs→(hi:i<L.length)→cs[i*2]?=some (.int .i64 ((L.getD i (0,[])).1:Int))∧∃A c,cs[i*2+1]?=some (.slice A (L.getD i (0,[])).2.length c)∧SR w A (L.getD i (0,[])).2.length (L.getD i (0,[])).2
 | [],cs,i,_,hi=>absurd hi (by simp)
 | (no,ws) :: L,cs,0,⟨v,cs',e,ho,h⟩,_=>by
  obtain⟨A,c,rfl,_,hs⟩:=own_strs ho
  subst e
  exact⟨rfl,A,c,rfl,hs⟩
 | (no,ws) :: L,cs,i+1,⟨v,cs',e,ho,h⟩,hi=>by
  have:=h.at_ (i:=i) (by simpa using hi)
  subst e
  rw[show (i+1)*2=i*2+1+1 by omega,show i*2+1+1+1=(i*2+1)+1+1 by omega]
  simpa using this
end
def LR (w:World) (A:Option Addr) (n:Nat) (L:List (Nat × List (List UInt8))):Prop :=
 L.length=n∧(0<n→∃b,A=some ⟨b,0,none⟩∧b<w.heap.size∧∀i,i<n→w.cell? ⟨b,i*2,none⟩=some (.int .i64 ((L.getD i (0,[])).1:Int)) ∧
  ∃B c,w.cell? ⟨b,i*2+1,none⟩=some (.slice B (L.getD i (0,[])).2.length c)∧SR w B (L.getD i (0,[])).2.length (L.getD i (0,[])).2)
section
variable {w w':World} {A:Option Addr} {n:Nat} {L:List (Nat × List (List UInt8))} {tS tL:TypeId}
theorem LR.len (h:LR w A n L):L.length=n:=h.1
theorem LR.none_ (w:World) (A:Option Addr):LR w A 0 []:=⟨rfl,fun h=>absurd h (by omega)⟩
theorem LR.next (h:LR w A n L) (hb:Below w.heap.size w w'):LR w' A n L :=
 ⟨h.1,fun hn=>by
  obtain⟨b,e,hlt,hc⟩:=h.2 hn
  refine⟨b,e,Nat.lt_of_lt_of_le hlt hb.size,fun i hi=>?_⟩
  obtain⟨h1,B,c,h2,h3⟩:=hc i hi
  exact⟨(hb.cell (p:=⟨b,i*2,none⟩) hlt).trans h1,B,c,(hb.cell (p:=⟨b,i*2+1,none⟩) hlt).trans h2,h3.next hb⟩⟩
theorem LR.at_ {k:Nat} (h:LR w A n L) (hk:k<n):∃b,A=some ⟨b,0,none⟩∧b<w.heap.size∧w.cell? ⟨b,k*2,none⟩=some (.int .i64 ((L.getD k (0,[])).1:Int)) ∧
  ∃B c,w.cell? ⟨b,k*2+1,none⟩=some (.slice B (L.getD k (0,[])).2.length c)∧SR w B (L.getD k (0,[])).2.length (L.getD k (0,[])).2:=by
 obtain⟨b,e,hlt,hc⟩:=h.2 (by omega)
 exact⟨b,e,hlt,hc k hk⟩
end
end Go.Proofs.YtfidicbknjoafaaGreatDoor
namespace Go.Proofs.YtfidicbknjoafaaGreatDoor
open Go.RowKit Lx
def IR {α:Type} (enc:α→List Value) (k:Nat) (w:World) (A:Option Addr) (n:Nat) (xs:List α):Prop :=
 xs.length=n∧(0<n→∃b o,A=some ⟨b,o,none⟩∧b<w.heap.size∧∀i x,xs[i]?=some x→∀j v,(enc x)[j]?=some v→w.cell? ⟨b,o+i*k+j,none⟩=some v)
section
variable {α:Type} {enc:α→List Value} {k:Nat} {w w':World} {A:Option Addr} {n:Nat} {xs:List α}
theorem IR.none_ (enc:α→List Value) (k:Nat) (w:World) (A:Option Addr):IR enc k w A 0 []:=⟨rfl,fun h=>absurd h (by omega)⟩
theorem IR.len (h:IR enc k w A n xs):xs.length=n:=h.1
theorem IR.next (h:IR enc k w A n xs) (hb:Below w.heap.size w w'):IR enc k w' A n xs :=
 ⟨h.1,fun hn=>by
  obtain⟨b,o,e,hlt,hc⟩:=h.2 hn
  exact⟨b,o,e,Nat.lt_of_lt_of_le hlt hb.size,fun i x hx j v hv=>(hb.cell (p:=⟨b,o+i*k+j,none⟩) hlt).trans (hc i x hx j v hv)⟩⟩
theorem IR.at_ {i:Nat} (h:IR enc k w A n xs) (hk:i<n):∃b o x,A=some ⟨b,o,none⟩∧b<w.heap.size∧xs[i]?=some x∧∀j v,(enc x)[j]?=some v→w.cell? ⟨b,o+i*k+j,none⟩=some v:=by
 obtain⟨b,o,e,hlt,hc⟩:=h.2 (by omega)
 have hx:xs[i]?=some (xs[i]'(by have:=h.1;omega)):=List.getElem?_eq_getElem _
 exact⟨b,o,_,e,hlt,hx,hc i _ hx⟩
theorem IR.take (h:IR enc k w A n xs) {i:Nat} (hi:i≤n):IR enc k w A i (xs.take i):=by
 refine⟨by rw[List.length_take];have:=h.1;omega,fun hp=>?_⟩
 obtain⟨b,o,e,hlt,hc⟩:=h.2 (by omega)
 refine⟨b,o,e,hlt,fun j x hx=>hc j x ?_⟩
 rw[List.getElem?_take]at hx
 split at hx
 ·exact hx
 ·cases hx
end
def idxI {α:Type} (p:α→Bool):List α→Int
 | []=>-1
 | x :: xs=>if p x then 0 else if idxI p xs<0 then -1 else idxI p xs+1
section
variable {α:Type} {p:α→Bool}
theorem idxI_cons (x:α) (xs:List α):idxI p (x :: xs)=if p x=true then 0 else if idxI p xs<0 then -1 else idxI p xs+1:=rfl
theorem idxI_any:∀xs:List α,decide (0≤idxI p xs)=xs.any p
 | []=>by simp[idxI]
 | x :: xs=>by
  have h:=idxI_any xs
  rw[List.any_cons,←h,idxI_cons]
  generalize idxI p xs=m
  cases p x
  ·rw[if_neg (by simp)]
   split
   ·rename_i hm
    rw[Bool.eq_iff_iff];simp;omega
   ·rename_i hm
    rw[Bool.eq_iff_iff];simp;omega
  ·simp
theorem idxI_none:∀ (xs:List α),(∀ (j:Nat) (x:α),xs[j]?=some x→p x=false)→idxI p xs=-1
 | [],_=>rfl
 | x :: xs,h=>by
  unfold idxI
  rw[h 0 x rfl,idxI_none xs (fun j y hy=>h (j+1) y (by simpa using hy))]
  rfl
theorem idxI_hit:∀ (xs:List α) (k:Nat) (x:α),xs[k]?=some x→p x=true→(∀ (j:Nat) (y:α),j<k→xs[j]?=some y→p y=false)→idxI p xs=k
 | [],k,x,h,_,_=>by simp at h
 | y :: ys,0,x,h,hp,_=>by
  simp at h;subst h
  unfold idxI;rw[hp];rfl
 | y :: ys,k+1,x,h,hp,hn=>by
  have h1:=idxI_hit ys k x (by simpa using h) hp (fun j z hj hz=>hn (j+1) z (by omega) (by simpa using hz))
  unfold idxI
  rw[hn 0 y (by omega) rfl,h1]
  simp;omega
end
def feC (C:Nat→Int) (most:Nat):Nat→Nat→Int
 | _,0=>0
 | i,m+1=>if most≤i then 104 else if C i=0 then feC C most (i+1) m else C i
theorem feC_done (C:Nat→Int) (most i:Nat):feC C most i 0=0:=rfl
theorem feC_many {C:Nat→Int} {most i m:Nat} (h:most≤i) (hm:0<m):feC C most i m=104:=by
 obtain⟨m,rfl⟩:∃m',m=m'+1:=⟨m - 1,by omega⟩
 simp[feC,h]
theorem feC_next {C:Nat→Int} {most i m:Nat} (h:i<most) (hm:0<m) (hc:C i=0):feC C most i m=feC C most (i+1) (m - 1):=by
 obtain⟨m,rfl⟩:∃m',m=m'+1:=⟨m - 1,by omega⟩
 simp[feC,hc,show ¬ most≤i by omega]
theorem feC_here {C:Nat→Int} {most i m:Nat} (h:i<most) (hm:0<m) (hc:C i ≠ 0):feC C most i m=C i:=by
 obtain⟨m,rfl⟩:∃m',m=m'+1:=⟨m - 1,by omega⟩
 simp[feC,hc,show ¬ most≤i by omega]
end Go.Proofs.YtfidicbknjoafaaGreatDoor
namespace Go.Proofs.YtfidicbknjoafaaGreatDoor
open Go.RowKit Lx
structure Mb where
 l:Int
 g:Int
 o:Bool
 A:Option Addr
 n:Nat
 c:Nat
 xs:List Int
def VRouter:List UInt8 × Int→Value:=fun ⟨s1,r1⟩=>.agg #[.string (str s1),.int .i64 r1]
def CRouter:List UInt8 × Int→List Value:=fun ⟨s1,r1⟩=>[.string (str s1),.int .i64 r1]
def VLink:List UInt8 × Int × Int→Value:=fun ⟨s1,a1,b1⟩=>.agg #[.string (str s1),.int .u32 a1,.int .i64 b1]
def CLink:List UInt8 × Int × Int→List Value:=fun ⟨s1,a1,b1⟩=>[.string (str s1),.int .u32 a1,.int .i64 b1]
def VPort:Int × Int × Int→Value:=fun ⟨r1,l1,a1⟩=>.agg #[.int .i64 r1,.int .i64 l1,.int .u32 a1]
def CPort:Int × Int × Int→List Value:=fun ⟨r1,l1,a1⟩=>[.int .i64 r1,.int .i64 l1,.int .u32 a1]
def VRoute:Int × Int × Int × Int × Int→Value:=fun ⟨r1,a1,b1,v1,c1⟩=>.agg #[.int .i64 r1,.int .u32 a1,.int .i64 b1,.int .u32 v1,.int .i64 c1]
def CRoute:Int × Int × Int × Int × Int→List Value:=fun ⟨r1,a1,b1,v1,c1⟩=>[.int .i64 r1,.int .u32 a1,.int .i64 b1,.int .u32 v1,.int .i64 c1]
def VRange:Int × Int × Int→Value:=fun ⟨a1,b1,r1⟩=>.agg #[.int .u32 a1,.int .i64 b1,.int .u32 r1]
def CRange:Int × Int × Int→List Value:=fun ⟨a1,b1,r1⟩=>[.int .u32 a1,.int .i64 b1,.int .u32 r1]
def VSource:Int × Int × Int→Value:=fun ⟨l1,s1,g1⟩=>.agg #[.int .i64 l1,.int .u32 s1,.int .u32 g1]
def CSource:Int × Int × Int→List Value:=fun ⟨l1,s1,g1⟩=>[.int .i64 l1,.int .u32 s1,.int .u32 g1]
def VMember:Mb→Value:=fun ⟨l1,g1,o1,A1,n1,c1,_xs1⟩=>.agg #[.int .i64 l1,.int .u32 g1,.bool o1,.slice A1 n1 c1]
def CMember:Mb→List Value:=fun ⟨l1,g1,o1,A1,n1,c1,_xs1⟩=>[.int .i64 l1,.int .u32 g1,.bool o1,.slice A1 n1 c1]
def VAddr:Int→Value:=fun a1=>.int .u32 a1
def CAddr:Int→List Value:=fun a1=>[.int .u32 a1]
end Go.Proofs.YtfidicbknjoafaaGreatDoor
namespace Go.Proofs.YtfidicbknjoafaaGreatDoor
open Go.RowKit
def erS (ads:List Addr) (c:Int):Value:=if c=0 then .nilIface else ev (ads.getD (c - 101).toNat ⟨0,0,none⟩)
def IsC (c:Int):Prop:=c=0∨∃j:Nat,j<14∧c=101+(j:Int)
def errC:List (Nat × Nat):=[(2,1),(3,5),(8,6),(9,0),(10,3),(11,4),(12,2)]
def EnvC (ads:List Addr) (w:World):Prop :=
 ads.length=14∧(∀ (j g:Nat) (a:Addr),errC.lookup j=some g→ads[j]?=some a→w.cell? ⟨g,0,none⟩=some (ev a))∧∀a∈ads,∃c t,w.heap[a.block]?=some (.cells c t (0,0))
theorem EnvC.below {ads:List Addr} {w w':World} (h:EnvC ads w) (hb:Below w.heap.size w w'):EnvC ads w':=by
 obtain⟨h1,h3,h4⟩:=h
 refine⟨h1,fun i g a hg ha=>(hb.cell (World.block_lt_of_cell? w _ (h3 i g a hg ha))).trans (h3 i g a hg ha),fun a ha=>?_⟩
 obtain⟨c,t,hh⟩:=h4 a ha
 refine⟨c,t,(hb.block a.block ?_).trans hh⟩
 rcases Nat.lt_or_ge a.block w.heap.size with hlt|hge
 ·exact hlt
 ·rw[Array.getElem?_eq_none hge]at hh;cases hh
theorem erS_of {ads:List Addr} (h:ads.length=14) {j:Nat} (hj:j<14):∃a,ads[j]?=some a∧erS ads (101+(j:Int))=ev a:=by
 have h3:ads[j]?=some (ads[j]'(by rw[h];omega)):=by simp[h,hj]
 refine⟨_,h3,?_⟩
 unfold erS
 rw[if_neg (by omega),show (101+(j:Int) - 101).toNat=j by omega]
 simp[List.getD,h,hj]
theorem erS_at {ads:List Addr} {w:World} (hS:EnvC ads w) {j:Nat} (hj:j<14):∃a,ads[j]?=some a∧erS ads (101+(j:Int))=ev a:=erS_of hS.1 hj
theorem erS_cell {ads:List Addr} {w:World} (hS:EnvC ads w) {j g:Nat} (hj:j<14) (hg:errC.lookup j=some g):w.cell? ⟨g,0,none⟩=some (erS ads (101+(j:Int))):=by
 obtain⟨a,h1,h2⟩:=erS_at hS hj
 rw[h2]
 exact hS.2.1 j g a hg h1
end Go.Proofs.YtfidicbknjoafaaGreatDoor
