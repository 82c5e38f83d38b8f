/- Plain facts of a light network's tables: whose ports and members are where, how many there are in all, that each address is one port's. -/
import Derived.Test.YtfidicbknjoafaaGreatDoorQKit
import Derived.Test.YtfidicbknjoafaaGreatDoorQCf
import Derived.Test.YtfidicbknjoafaaGreatDoorProg
import Derived.Test.YtfidicbknjoafaaGreatDoorQLg
import Derived.ProofKit
import Derived.OpenShut
import Derived.Test.YtfidicbknjoafaaGreatDoorQMe
import Derived.Test.YtfidicbknjoafaaGreatDoorQNw
import Derived.Test.YtfidicbknjoafaaGreatDoorQGr
namespace Go.Proofs.YtfidicbknjoafaaGreatDoor
open Go.ChangeShapes Go.WideShapes Go.ChangeAt Go.RowKit Sm
theorem opened_ads {H:Type} {enc:TypeId × Value→H} {P:Program} {t e:TypeId} (ht:P.underlying t=some (.slice e)) (he:P.underlying e=some (.int .u32)) (hc:P.cellsOf e=1) {W:World} {v:Value} {fuel:Nat} {x:DataW H × List MemPlace}
  (hf:DataW.trod enc P W 0 (fun _=>true) true fuel t [v]=some x):∃A len cap xs,v=.slice A len cap∧AR W A len xs∧len≤cap∧len≤9223372036854775807:=by
 rcases open_ints ht he hc hf with ⟨hcs,hx⟩|⟨a,len',cap',zs,hcs,_,hl,hm,hz,hx,hcell,hwz⟩
 ·simp only[List.cons.injEq,and_true]at hcs
  subst hcs
  exact⟨none,0,0,[],rfl,AR.none_ _ _,Nat.le_refl _,by decide⟩
 ·simp only[List.cons.injEq,and_true]at hcs
  subst hcs
  simp only[if_true]at hz
  refine⟨some a,len',cap',zs.take len',rfl,⟨by simp;omega,fun x hx=>wf_u32 (hwz x (List.mem_of_mem_take hx)),fun hn=>?_⟩,hl,by unfold maxLen at hm;omega⟩
  obtain⟨b,o,s⟩:=a
  obtain rfl:s=none:=by simpa [Addr.add] using World.cell?_spot (hcell 0 (by omega))
  refine⟨b,o,rfl,?_,fun i hi=>?_⟩
  ·have:=World.block_lt_of_cell? _ _ (hcell 0 (by omega))
   simpa [add_plain] using this
  ·rw[←add_plain,hcell i (by omega)]
   simp[List.getD,hi]
theorem slice_shape {H:Type} {enc:TypeId × Value→H} {P:Program} {t e:TypeId} (ht:P.underlying t=some (.slice e)) {W:World} {v:Value} {fuel:Nat} {x:DataW H × List MemPlace}
  (hf:DataW.trod enc P W 0 (fun _=>true) true fuel t [v]=some x):∃A len cap,v=.slice A len cap:=by
 rcases Deep.open_slice ht hf with ⟨hcs,hx⟩|⟨a,len',cap',m,n,D,Pl,hcs,_⟩
 ·simp only[List.cons.injEq,and_true]at hcs
  exact⟨_,_,_,hcs⟩
 ·simp only[List.cons.injEq,and_true]at hcs
  exact⟨_,_,_,hcs⟩
def wfMember (W:World) (x:Mb):Prop:=U32 x.g∧AR W x.A x.n x.xs∧x.n≤x.c∧x.n≤9223372036854775807
set_option maxRecDepth 100000 in
theorem opMember {H:Type} {enc:TypeId × Value→H} {W:World} (n:Nat) (l:List Value) (y:DataW H × List MemPlace) (hl:l.length=4) (htr:DataW.trod enc Tryz.prog W 0 (fun _=>true) true n 117 l=some y):∃x,l=CMember x∧wfMember W x:=by
 have ki:Tryz.prog.cellsOf 3=1:=by kernel_rfl
 have ka:Tryz.prog.cellsOf 42=1:=by kernel_rfl
 have kb:Tryz.prog.cellsOf 4=1:=by kernel_rfl
 have kR:Tryz.prog.cellsOf 31=1:=by kernel_rfl
 match l,hl with
 | [c0,c1,c2,c3],_ =>
  obtain⟨ys,n',_,_,_,hlen,hf⟩:=DataW.trod_struct Tryz.underlying117 htr
  match ys,hlen with
  | [y0,y1,y2,y3],_ =>
   have g0:DataW.trod enc Tryz.prog W 0 (fun _=>true) true n' 3 [c0]=some y0:=by simpa [ki,ka,kb,kR] using hf 0 _ rfl
   obtain⟨v0,e0,_,w0⟩:=DataW.trod_int Tryz.underlying3 g0
   have g1:DataW.trod enc Tryz.prog W 0 (fun _=>true) true n' 42 [c1]=some y1:=by simpa [ki,ka,kb,kR] using hf 1 _ rfl
   obtain⟨v1,e1,_,w1⟩:=DataW.trod_int Tryz.underlying42 g1
   have g2:DataW.trod enc Tryz.prog W 0 (fun _=>true) true n' 4 [c2]=some y2:=by simpa [ki,ka,kb,kR] using hf 2 _ rfl
   obtain⟨v2,e2,_⟩:=DataW.trod_bool Tryz.underlying4 g2
   have g3:DataW.trod enc Tryz.prog W 0 (fun _=>true) true n' 31 [c3]=some y3:=by simpa [ki,ka,kb,kR] using hf 3 _ rfl
   obtain⟨Aq,len,cap,xs,e3,hA,hlc,hlm⟩:=opened_ads Tryz.underlying31 Tryz.underlying42 ka g3
   simp only[List.cons.injEq,and_true]at e0 e1 e2
   subst e0
   subst e1
   subst e2
   subst e3
   exact⟨⟨v0,v1,v2,Aq,len,cap,xs⟩,rfl,wf_u32 w1,hA,hlc,hlm⟩
end Go.Proofs.YtfidicbknjoafaaGreatDoor
namespace Go.Proofs.YtfidicbknjoafaaGreatDoor
open Go.ChangeShapes Go.WideShapes Go.ChangeAt Go.RowKit Lx Sm
theorem str_of (s:ByteArray):str s.data.toList=s:=by simp[str]
def wfRouter (_W:World) (x:List UInt8 × Int):Prop:=(str x.1).size≤9223372036854775807
def wfLink (_W:World) (x:List UInt8 × Int × Int):Prop:=U32 x.2.1∧(str x.1).size≤9223372036854775807
def wfPort (_W:World) (x:Int × Int × Int):Prop:=U32 x.2.2
def wfRoute (_W:World) (x:Int × Int × Int × Int × Int):Prop:=U32 x.2.1∧U32 x.2.2.2.1
def wfRange (_W:World) (x:Int × Int × Int):Prop:=U32 x.1∧U32 x.2.2
def wfSource (_W:World) (x:Int × Int × Int):Prop:=U32 x.2.1∧U32 x.2.2
set_option maxRecDepth 100000 in
theorem opRouter {H:Type} {enc:TypeId × Value→H} {W:World} (n:Nat) (l:List Value) (y:DataW H × List MemPlace) (hl:l.length=2) (htr:DataW.trod enc Tryz.prog W 0 (fun _=>true) true n 165 l=some y):∃x,l=CRouter x∧wfRouter W x:=by
 have ks:Tryz.prog.cellsOf 9=1:=by kernel_rfl
 have ki:Tryz.prog.cellsOf 3=1:=by kernel_rfl
 have ka:Tryz.prog.cellsOf 42=1:=by kernel_rfl
 have kb:Tryz.prog.cellsOf 4=1:=by kernel_rfl
 have kP:Tryz.prog.cellsOf 125=2:=by kernel_rfl
 have kK:Tryz.prog.cellsOf 57=2:=by kernel_rfl
 have kR:Tryz.prog.cellsOf 31=1:=by kernel_rfl
 match l,hl with
 | [c0,c1],_ =>
  obtain⟨ys,n',_,_,_,hlen,hf⟩:=DataW.trod_struct Tryz.underlying165 htr
  match ys,hlen with
  | [y0,y1],_ =>
   have g0:DataW.trod enc Tryz.prog W 0 (fun _=>true) true n' 9 [c0]=some y0:=by simpa [ks,ki,ka,kb,kP,kK,kR] using hf 0 _ rfl
   obtain⟨v0,e0,_,w0⟩:=DataW.trod_string Tryz.underlying9 g0
   have g1:DataW.trod enc Tryz.prog W 0 (fun _=>true) true n' 3 [c1]=some y1:=by simpa [ks,ki,ka,kb,kP,kK,kR] using hf 1 _ rfl
   obtain⟨v1,e1,_,w1⟩:=DataW.trod_int Tryz.underlying3 g1
   simp only[List.cons.injEq,and_true]at e0 e1
   subst e0
   subst e1
   exact⟨⟨v0.data.toList,v1⟩,by simp only[CRouter,str_of],(by show (str v0.data.toList).size≤_;rw[str_of];have:=w0;unfold maxLen at this;omega)⟩
set_option maxRecDepth 100000 in
theorem opLink {H:Type} {enc:TypeId × Value→H} {W:World} (n:Nat) (l:List Value) (y:DataW H × List MemPlace) (hl:l.length=3) (htr:DataW.trod enc Tryz.prog W 0 (fun _=>true) true n 127 l=some y):∃x,l=CLink x∧wfLink W x:=by
 have ks:Tryz.prog.cellsOf 9=1:=by kernel_rfl
 have ki:Tryz.prog.cellsOf 3=1:=by kernel_rfl
 have ka:Tryz.prog.cellsOf 42=1:=by kernel_rfl
 have kb:Tryz.prog.cellsOf 4=1:=by kernel_rfl
 have kP:Tryz.prog.cellsOf 125=2:=by kernel_rfl
 have kK:Tryz.prog.cellsOf 57=2:=by kernel_rfl
 have kR:Tryz.prog.cellsOf 31=1:=by kernel_rfl
 match l,hl with
 | [c0,c1,c2],_ =>
  obtain⟨ys,n',_,_,_,hlen,hf⟩:=DataW.trod_struct Tryz.underlying127 htr
  match ys,hlen with
  | [y0,y1],_ =>
   have g0:DataW.trod enc Tryz.prog W 0 (fun _=>true) true n' 9 [c0]=some y0:=by simpa [ks,ki,ka,kb,kP,kK,kR] using hf 0 _ rfl
   obtain⟨v0,e0,_,w0⟩:=DataW.trod_string Tryz.underlying9 g0
   have g1:DataW.trod enc Tryz.prog W 0 (fun _=>true) true n' 125 [c1,c2]=some y1:=by simpa [ks,ki,ka,kb,kP,kK,kR] using hf 1 _ rfl
   obtain⟨zs1,m1,_,_,_,hlen1,hk1⟩:=DataW.trod_struct Tryz.underlying125 g1
   obtain⟨z10,z11,rfl⟩:∃a b,zs1=[a,b]:=by match zs1,hlen1 with | [a,b],_=>exact⟨a,b,rfl⟩
   have g10:DataW.trod enc Tryz.prog W 0 (fun _=>true) true m1 42 [c1]=some z10:=by simpa [ka,ki] using hk1 0 _ rfl
   obtain⟨v10,e10,_,w10⟩:=DataW.trod_int Tryz.underlying42 g10
   have g11:DataW.trod enc Tryz.prog W 0 (fun _=>true) true m1 3 [c2]=some z11:=by simpa [ka,ki] using hk1 1 _ rfl
   obtain⟨v11,e11,_,w11⟩:=DataW.trod_int Tryz.underlying3 g11
   simp only[List.cons.injEq,and_true]at e0 e10 e11
   subst e0
   subst e10
   subst e11
   exact⟨⟨v0.data.toList,v10,v11⟩,by simp only[CLink,str_of],wf_u32 w10,(by show (str v0.data.toList).size≤_;rw[str_of];have:=w0;unfold maxLen at this;omega)⟩
set_option maxRecDepth 100000 in
theorem opPort {H:Type} {enc:TypeId × Value→H} {W:World} (n:Nat) (l:List Value) (y:DataW H × List MemPlace) (hl:l.length=3) (htr:DataW.trod enc Tryz.prog W 0 (fun _=>true) true n 107 l=some y):∃x,l=CPort x∧wfPort W x:=by
 have ks:Tryz.prog.cellsOf 9=1:=by kernel_rfl
 have ki:Tryz.prog.cellsOf 3=1:=by kernel_rfl
 have ka:Tryz.prog.cellsOf 42=1:=by kernel_rfl
 have kb:Tryz.prog.cellsOf 4=1:=by kernel_rfl
 have kP:Tryz.prog.cellsOf 125=2:=by kernel_rfl
 have kK:Tryz.prog.cellsOf 57=2:=by kernel_rfl
 have kR:Tryz.prog.cellsOf 31=1:=by kernel_rfl
 match l,hl with
 | [c0,c1,c2],_ =>
  obtain⟨ys,n',_,_,_,hlen,hf⟩:=DataW.trod_struct Tryz.underlying107 htr
  match ys,hlen with
  | [y0,y1,y2],_ =>
   have g0:DataW.trod enc Tryz.prog W 0 (fun _=>true) true n' 3 [c0]=some y0:=by simpa [ks,ki,ka,kb,kP,kK,kR] using hf 0 _ rfl
   obtain⟨v0,e0,_,w0⟩:=DataW.trod_int Tryz.underlying3 g0
   have g1:DataW.trod enc Tryz.prog W 0 (fun _=>true) true n' 3 [c1]=some y1:=by simpa [ks,ki,ka,kb,kP,kK,kR] using hf 1 _ rfl
   obtain⟨v1,e1,_,w1⟩:=DataW.trod_int Tryz.underlying3 g1
   have g2:DataW.trod enc Tryz.prog W 0 (fun _=>true) true n' 42 [c2]=some y2:=by simpa [ks,ki,ka,kb,kP,kK,kR] using hf 2 _ rfl
   obtain⟨v2,e2,_,w2⟩:=DataW.trod_int Tryz.underlying42 g2
   simp only[List.cons.injEq,and_true]at e0 e1 e2
   subst e0
   subst e1
   subst e2
   exact⟨⟨v0,v1,v2⟩,rfl,wf_u32 w2⟩
set_option maxRecDepth 100000 in
theorem opRoute {H:Type} {enc:TypeId × Value→H} {W:World} (n:Nat) (l:List Value) (y:DataW H × List MemPlace) (hl:l.length=5) (htr:DataW.trod enc Tryz.prog W 0 (fun _=>true) true n 130 l=some y):∃x,l=CRoute x∧wfRoute W x:=by
 have ks:Tryz.prog.cellsOf 9=1:=by kernel_rfl
 have ki:Tryz.prog.cellsOf 3=1:=by kernel_rfl
 have ka:Tryz.prog.cellsOf 42=1:=by kernel_rfl
 have kb:Tryz.prog.cellsOf 4=1:=by kernel_rfl
 have kP:Tryz.prog.cellsOf 125=2:=by kernel_rfl
 have kK:Tryz.prog.cellsOf 57=2:=by kernel_rfl
 have kR:Tryz.prog.cellsOf 31=1:=by kernel_rfl
 match l,hl with
 | [c0,c1,c2,c3,c4],_ =>
  obtain⟨ys,n',_,_,_,hlen,hf⟩:=DataW.trod_struct Tryz.underlying130 htr
  match ys,hlen with
  | [y0,y1,y2,y3],_ =>
   have g0:DataW.trod enc Tryz.prog W 0 (fun _=>true) true n' 3 [c0]=some y0:=by simpa [ks,ki,ka,kb,kP,kK,kR] using hf 0 _ rfl
   obtain⟨v0,e0,_,w0⟩:=DataW.trod_int Tryz.underlying3 g0
   have g1:DataW.trod enc Tryz.prog W 0 (fun _=>true) true n' 125 [c1,c2]=some y1:=by simpa [ks,ki,ka,kb,kP,kK,kR] using hf 1 _ rfl
   obtain⟨zs1,m1,_,_,_,hlen1,hk1⟩:=DataW.trod_struct Tryz.underlying125 g1
   obtain⟨z10,z11,rfl⟩:∃a b,zs1=[a,b]:=by match zs1,hlen1 with | [a,b],_=>exact⟨a,b,rfl⟩
   have g10:DataW.trod enc Tryz.prog W 0 (fun _=>true) true m1 42 [c1]=some z10:=by simpa [ka,ki] using hk1 0 _ rfl
   obtain⟨v10,e10,_,w10⟩:=DataW.trod_int Tryz.underlying42 g10
   have g11:DataW.trod enc Tryz.prog W 0 (fun _=>true) true m1 3 [c2]=some z11:=by simpa [ka,ki] using hk1 1 _ rfl
   obtain⟨v11,e11,_,w11⟩:=DataW.trod_int Tryz.underlying3 g11
   have g2:DataW.trod enc Tryz.prog W 0 (fun _=>true) true n' 42 [c3]=some y2:=by simpa [ks,ki,ka,kb,kP,kK,kR] using hf 2 _ rfl
   obtain⟨v2,e2,_,w2⟩:=DataW.trod_int Tryz.underlying42 g2
   have g3:DataW.trod enc Tryz.prog W 0 (fun _=>true) true n' 3 [c4]=some y3:=by simpa [ks,ki,ka,kb,kP,kK,kR] using hf 3 _ rfl
   obtain⟨v3,e3,_,w3⟩:=DataW.trod_int Tryz.underlying3 g3
   simp only[List.cons.injEq,and_true]at e0 e10 e11 e2 e3
   subst e0
   subst e10
   subst e11
   subst e2
   subst e3
   exact⟨⟨v0,v10,v11,v2,v3⟩,rfl,wf_u32 w10,wf_u32 w2⟩
set_option maxRecDepth 100000 in
theorem opRange {H:Type} {enc:TypeId × Value→H} {W:World} (n:Nat) (l:List Value) (y:DataW H × List MemPlace) (hl:l.length=3) (htr:DataW.trod enc Tryz.prog W 0 (fun _=>true) true n 149 l=some y):∃x,l=CRange x∧wfRange W x:=by
 have ks:Tryz.prog.cellsOf 9=1:=by kernel_rfl
 have ki:Tryz.prog.cellsOf 3=1:=by kernel_rfl
 have ka:Tryz.prog.cellsOf 42=1:=by kernel_rfl
 have kb:Tryz.prog.cellsOf 4=1:=by kernel_rfl
 have kP:Tryz.prog.cellsOf 125=2:=by kernel_rfl
 have kK:Tryz.prog.cellsOf 57=2:=by kernel_rfl
 have kR:Tryz.prog.cellsOf 31=1:=by kernel_rfl
 match l,hl with
 | [c0,c1,c2],_ =>
  obtain⟨ys,n',_,_,_,hlen,hf⟩:=DataW.trod_struct Tryz.underlying149 htr
  match ys,hlen with
  | [y0,y1],_ =>
   have g0:DataW.trod enc Tryz.prog W 0 (fun _=>true) true n' 125 [c0,c1]=some y0:=by simpa [ks,ki,ka,kb,kP,kK,kR] using hf 0 _ rfl
   obtain⟨zs0,m0,_,_,_,hlen0,hk0⟩:=DataW.trod_struct Tryz.underlying125 g0
   obtain⟨z00,z01,rfl⟩:∃a b,zs0=[a,b]:=by match zs0,hlen0 with | [a,b],_=>exact⟨a,b,rfl⟩
   have g00:DataW.trod enc Tryz.prog W 0 (fun _=>true) true m0 42 [c0]=some z00:=by simpa [ka,ki] using hk0 0 _ rfl
   obtain⟨v00,e00,_,w00⟩:=DataW.trod_int Tryz.underlying42 g00
   have g01:DataW.trod enc Tryz.prog W 0 (fun _=>true) true m0 3 [c1]=some z01:=by simpa [ka,ki] using hk0 1 _ rfl
   obtain⟨v01,e01,_,w01⟩:=DataW.trod_int Tryz.underlying3 g01
   have g1:DataW.trod enc Tryz.prog W 0 (fun _=>true) true n' 42 [c2]=some y1:=by simpa [ks,ki,ka,kb,kP,kK,kR] using hf 1 _ rfl
   obtain⟨v1,e1,_,w1⟩:=DataW.trod_int Tryz.underlying42 g1
   simp only[List.cons.injEq,and_true]at e00 e01 e1
   subst e00
   subst e01
   subst e1
   exact⟨⟨v00,v01,v1⟩,rfl,wf_u32 w00,wf_u32 w1⟩
set_option maxRecDepth 100000 in
theorem opSource {H:Type} {enc:TypeId × Value→H} {W:World} (n:Nat) (l:List Value) (y:DataW H × List MemPlace) (hl:l.length=3) (htr:DataW.trod enc Tryz.prog W 0 (fun _=>true) true n 147 l=some y):∃x,l=CSource x∧wfSource W x:=by
 have ks:Tryz.prog.cellsOf 9=1:=by kernel_rfl
 have ki:Tryz.prog.cellsOf 3=1:=by kernel_rfl
 have ka:Tryz.prog.cellsOf 42=1:=by kernel_rfl
 have kb:Tryz.prog.cellsOf 4=1:=by kernel_rfl
 have kP:Tryz.prog.cellsOf 125=2:=by kernel_rfl
 have kK:Tryz.prog.cellsOf 57=2:=by kernel_rfl
 have kR:Tryz.prog.cellsOf 31=1:=by kernel_rfl
 match l,hl with
 | [c0,c1,c2],_ =>
  obtain⟨ys,n',_,_,_,hlen,hf⟩:=DataW.trod_struct Tryz.underlying147 htr
  match ys,hlen with
  | [y0,y1],_ =>
   have g0:DataW.trod enc Tryz.prog W 0 (fun _=>true) true n' 3 [c0]=some y0:=by simpa [ks,ki,ka,kb,kP,kK,kR] using hf 0 _ rfl
   obtain⟨v0,e0,_,w0⟩:=DataW.trod_int Tryz.underlying3 g0
   have g1:DataW.trod enc Tryz.prog W 0 (fun _=>true) true n' 57 [c1,c2]=some y1:=by simpa [ks,ki,ka,kb,kP,kK,kR] using hf 1 _ rfl
   obtain⟨zs1,m1,_,_,_,hlen1,hk1⟩:=DataW.trod_struct Tryz.underlying57 g1
   obtain⟨z10,z11,rfl⟩:∃a b,zs1=[a,b]:=by match zs1,hlen1 with | [a,b],_=>exact⟨a,b,rfl⟩
   have g10:DataW.trod enc Tryz.prog W 0 (fun _=>true) true m1 42 [c1]=some z10:=by simpa [ka,ki] using hk1 0 _ rfl
   obtain⟨v10,e10,_,w10⟩:=DataW.trod_int Tryz.underlying42 g10
   have g11:DataW.trod enc Tryz.prog W 0 (fun _=>true) true m1 42 [c2]=some z11:=by simpa [ka,ki] using hk1 1 _ rfl
   obtain⟨v11,e11,_,w11⟩:=DataW.trod_int Tryz.underlying42 g11
   simp only[List.cons.injEq,and_true]at e0 e10 e11
   subst e0
   subst e10
   subst e11
   exact⟨⟨v0,v10,v11⟩,rfl,wf_u32 w10,wf_u32 w11⟩
theorem array7 {α:Type} {cs:Array α} (h:cs.size=7):∃c0 c1 c2 c3 c4 c5 c6,cs=#[c0,c1,c2,c3,c4,c5,c6]:=by
 obtain⟨l⟩:=cs
 match l,h with
 | [c0,c1,c2,c3,c4,c5,c6],_=>exact⟨c0,c1,c2,c3,c4,c5,c6,rfl⟩
set_option maxRecDepth 100000 in
theorem open_cfg {H:Type} {enc:TypeId × Value→H} {W:World} {r:Reach} {b0:Nat} {v:Value} {d:DataW H} {p:List MemPlace}
  (hv:Value.okWide Tryz.prog W r b0 30 v) (h:DataW.Trod enc Tryz.prog W 0 (fun _=>true) true 30 v d p) :
  ∃ (M:Cm) (x:Cfg),v=.agg #[.slice M.r.A M.r.n M.r.c,.slice M.l.A M.l.n M.l.c,.slice M.p.A M.p.n M.p.c,.slice M.o.A M.o.n M.o.c,.slice M.g.A M.g.n M.g.c,.slice M.s.A M.s.n M.s.c,.slice M.m.A M.m.n M.m.c]∧LW W M x:=by
 have hs:=Tryz.underlying30
 obtain⟨cs,rfl,hsz⟩:=okWide_struct hs hv
 obtain⟨c0,c1,c2,c3,c4,c5,c6,rfl⟩:=array7 (hsz.trans (by kernel_rfl))
 obtain⟨fuel,hf⟩:=h
 obtain⟨xs,n,_,_,hl,hlen,hf⟩:=DataW.trod_struct hs hf
 have q0:Tryz.prog.cellsOf 22=1:=by kernel_rfl
 have q1:Tryz.prog.cellsOf 23=1:=by kernel_rfl
 have q2:Tryz.prog.cellsOf 24=1:=by kernel_rfl
 have q3:Tryz.prog.cellsOf 25=1:=by kernel_rfl
 have q4:Tryz.prog.cellsOf 26=1:=by kernel_rfl
 have q5:Tryz.prog.cellsOf 27=1:=by kernel_rfl
 have q6:Tryz.prog.cellsOf 28=1:=by kernel_rfl
 match xs,hlen with
 | [y0,y1,y2,y3,y4,y5,y6],_ =>
  have g0:DataW.trod enc Tryz.prog W 0 (fun _=>true) true n 22 [c0]=some y0:=by simpa [Value.cells,q0,q1,q2,q3,q4,q5,q6] using hf 0 _ rfl
  obtain⟨A0,n0,k0,rfl⟩:=slice_shape Tryz.underlying22 g0
  obtain⟨xs0,h0,hw0,hc0⟩:=open_items CRouter (wfRouter W) Tryz.underlying22 (k:=2) (by kernel_rfl) (by omega) opRouter (d0:=y0.1) (p:=y0.2) (a0:=A0) (len:=n0) (cap:=k0) ⟨n,by simpa [Value.cells] using g0⟩
  have g1:DataW.trod enc Tryz.prog W 0 (fun _=>true) true n 23 [c1]=some y1:=by simpa [Value.cells,q0,q1,q2,q3,q4,q5,q6] using hf 1 _ rfl
  obtain⟨A1,n1,k1,rfl⟩:=slice_shape Tryz.underlying23 g1
  obtain⟨xs1,h1,hw1,hc1⟩:=open_items CLink (wfLink W) Tryz.underlying23 (k:=3) (by kernel_rfl) (by omega) opLink (d0:=y1.1) (p:=y1.2) (a0:=A1) (len:=n1) (cap:=k1) ⟨n,by simpa [Value.cells] using g1⟩
  have g2:DataW.trod enc Tryz.prog W 0 (fun _=>true) true n 24 [c2]=some y2:=by simpa [Value.cells,q0,q1,q2,q3,q4,q5,q6] using hf 2 _ rfl
  obtain⟨A2,n2,k2,rfl⟩:=slice_shape Tryz.underlying24 g2
  obtain⟨xs2,h2,hw2,hc2⟩:=open_items CPort (wfPort W) Tryz.underlying24 (k:=3) (by kernel_rfl) (by omega) opPort (d0:=y2.1) (p:=y2.2) (a0:=A2) (len:=n2) (cap:=k2) ⟨n,by simpa [Value.cells] using g2⟩
  have g3:DataW.trod enc Tryz.prog W 0 (fun _=>true) true n 25 [c3]=some y3:=by simpa [Value.cells,q0,q1,q2,q3,q4,q5,q6] using hf 3 _ rfl
  obtain⟨A3,n3,k3,rfl⟩:=slice_shape Tryz.underlying25 g3
  obtain⟨xs3,h3,hw3,hc3⟩:=open_items CRoute (wfRoute W) Tryz.underlying25 (k:=5) (by kernel_rfl) (by omega) opRoute (d0:=y3.1) (p:=y3.2) (a0:=A3) (len:=n3) (cap:=k3) ⟨n,by simpa [Value.cells] using g3⟩
  have g4:DataW.trod enc Tryz.prog W 0 (fun _=>true) true n 26 [c4]=some y4:=by simpa [Value.cells,q0,q1,q2,q3,q4,q5,q6] using hf 4 _ rfl
  obtain⟨A4,n4,k4,rfl⟩:=slice_shape Tryz.underlying26 g4
  obtain⟨xs4,h4,hw4,hc4⟩:=open_items CRange (wfRange W) Tryz.underlying26 (k:=3) (by kernel_rfl) (by omega) opRange (d0:=y4.1) (p:=y4.2) (a0:=A4) (len:=n4) (cap:=k4) ⟨n,by simpa [Value.cells] using g4⟩
  have g5:DataW.trod enc Tryz.prog W 0 (fun _=>true) true n 27 [c5]=some y5:=by simpa [Value.cells,q0,q1,q2,q3,q4,q5,q6] using hf 5 _ rfl
  obtain⟨A5,n5,k5,rfl⟩:=slice_shape Tryz.underlying27 g5
  obtain⟨xs5,h5,hw5,hc5⟩:=open_items CSource (wfSource W) Tryz.underlying27 (k:=3) (by kernel_rfl) (by omega) opSource (d0:=y5.1) (p:=y5.2) (a0:=A5) (len:=n5) (cap:=k5) ⟨n,by simpa [Value.cells] using g5⟩
  have g6:DataW.trod enc Tryz.prog W 0 (fun _=>true) true n 28 [c6]=some y6:=by simpa [Value.cells,q0,q1,q2,q3,q4,q5,q6] using hf 6 _ rfl
  obtain⟨A6,n6,k6,rfl⟩:=slice_shape Tryz.underlying28 g6
  obtain⟨xs6,h6,hw6,hc6⟩:=open_items CMember (wfMember W) Tryz.underlying28 (k:=4) (by kernel_rfl) (by omega) opMember (d0:=y6.1) (p:=y6.2) (a0:=A6) (len:=n6) (cap:=k6) ⟨n,by simpa [Value.cells] using g6⟩
  refine⟨⟨⟨A0,n0,k0⟩,⟨A1,n1,k1⟩,⟨A2,n2,k2⟩,⟨A3,n3,k3⟩,⟨A4,n4,k4⟩,⟨A5,n5,k5⟩,⟨A6,n6,k6⟩⟩,⟨xs0,xs1,xs2,xs3,xs4,xs5,xs6⟩,rfl,⟨h0,h1,h2,h3,h4,h5,h6,hc0,hc1,hc2,hc3,hc4,hc5,hc6,fun y hy=>(hw6 y hy).2,⟨fun y hy=>(hw1 y hy).1,fun y hy=>hw2 y hy,fun y hy=>hw3 y hy,fun y hy=>hw4 y hy,fun y hy=>hw5 y hy,fun y hy=>(hw6 y hy).1⟩,fun y hy=>hw0 y hy,fun y hy=>(hw1 y hy).2⟩⟩
end Go.Proofs.YtfidicbknjoafaaGreatDoor
namespace Go.Proofs.YtfidicbknjoafaaGreatDoor
open Go.RowKit Lx Sm Go.Maps
def M0:Cm:=⟨⟨none,0,0⟩,⟨none,0,0⟩,⟨none,0,0⟩,⟨none,0,0⟩,⟨none,0,0⟩,⟨none,0,0⟩,⟨none,0,0⟩⟩
def x0:Cfg:=⟨[],[],[],[],[],[],[]⟩
end Go.Proofs.YtfidicbknjoafaaGreatDoor
namespace Go.Proofs.YtfidicbknjoafaaGreatDoor
open Go.RowKit Lx Sm Go.Maps
theorem fnz_all {l:List Int} (h:firstNZ l=0):∀a∈l,a=0:=by
 induction l with
 | nil=>intro a ha;cases ha
 | cons a l ih =>
  unfold firstNZ at h
  intro b hb
  split at h
  ·rename_i h0
   rcases List.mem_cons.1 hb with rfl|hb
   ·exact h0
   ·exact ih h b hb
  ·rename_i h0;exact absurd h h0
theorem fec_all {C:Nat→Int} {most:Nat}:∀ (m i:Nat),feC C most i m=0→∀j,i≤j→j<i+m→C j=0
 | 0,_,_,j,h1,h2=>absurd h2 (by omega)
 | m+1,i,h,j,h1,h2=>by
  unfold feC at h
  split at h
  ·cases h
  ·split at h
   ·rename_i h0
    rcases Nat.eq_or_lt_of_le h1 with rfl|hlt
    ·exact h0
    ·exact fec_all m (i+1) h j hlt (by omega)
   ·rename_i h0;exact absurd h h0
theorem atc_all {α:Type} {f:α→List α→Int} {xs:List α} {most:Nat} (h:feC (atC f xs) most 0 xs.length=0) {y:α} (hy:y∈xs):∃ah,f y ah=0:=by
 obtain⟨i,hi,rfl⟩:=List.getElem_of_mem hy
 have:=fec_all _ _ h i (Nat.zero_le _) (by omega)
 rw[atC_at (List.getElem?_eq_getElem hi)]at this
 exact⟨_,this⟩
theorem nameOk_len {l:List UInt8} (h:nameOk l=true):l.length≤12:=by
 unfold nameOk headOk at h
 simp only[Bool.and_eq_true,decide_eq_true_eq]at h
 exact h.1.1.2
theorem rcode_name {y:List UInt8 × Int} {ah:List (List UInt8 × Int)} (h:rcode y ah=0):(str y.1).size≤12:=by
 unfold rcode at h
 split at h
 ·cases h
 ·rename_i h0
  simp only[Bool.not_eq_false]at h0
  simpa [str,ByteArray.size] using nameOk_len h0
theorem lcode_name {y:List UInt8 × Int × Int} {ah:List (List UInt8 × Int × Int)} (h:lcode y ah=0):(str y.1).size≤12:=by
 unfold lcode at h
 split at h
 ·cases h
 ·rename_i h0
  simp only[Bool.not_eq_false]at h0
  simpa [str,ByteArray.size] using nameOk_len h0
theorem plOk_lt {i:Int} {n:Nat} (h:¬ plOk i n=false):0≤i∧i<(n:Int):=by
 simpa [plOk] using h
theorem pcode_lt {nr:Nat} {ls:List (List UInt8 × Int × Int)} {y:Int × Int × Int} {ah:List (Int × Int × Int)} (h:pcode nr ls y ah=0):0≤y.1∧y.1<nr∧0≤y.2.1∧y.2.1<ls.length:=by
 unfold pcode at h
 split at h
 ·cases h
 ·rename_i h0
  split at h
  ·cases h
  ·rename_i h1
   have:=plOk_lt h0;have:=plOk_lt h1
   omega
theorem mcode_lt {nl:Nat} {y:Mb} (h:mcode nl y=0):0≤y.l∧y.l<nl∧y.xs.length≤4:=by
 unfold mcode at h
 split at h
 ·cases h
 ·rename_i h0
  split at h
  ·cases h
  ·split at h
   ·cases h
   ·split at h
    ·cases h
    ·have:=plOk_lt h0
     omega
structure LtOK (x:Cfg):Prop where
 v:vcode x=0
 rl:x.rs.length≤16
 ll:x.ls.length≤12
 pl:x.ps.length≤24
 ol:x.os.length≤30
 gl:x.gs.length≤4
 sl:x.ss.length≤5
 ml:x.ms.length≤10
 rn:∀y∈x.rs,(str y.1).size≤281474976710656
 ln:∀y∈x.ls,(str y.1).size≤281474976710656
 po:∀y∈x.ps,0≤y.1∧y.1<x.rs.length∧0≤y.2.1∧y.2.1<x.ls.length
 mo:∀y∈x.ms,0≤y.l∧y.l<x.ls.length
 xl:∀y∈x.ms,y.xs.length≤4
theorem v_parts {x:Cfg} (h:vcode x=0):feC (atC (rcode) x.rs) 16 0 x.rs.length=0∧feC (atC (lcode) x.ls) 24 0 x.ls.length=0∧feC (atC (pcode x.rs.length x.ls) x.ps) 64 0 x.ps.length=0∧feC (atC (fun y _=>ocode x.rs.length y) x.os) 96 0 x.os.length=0∧feC (atC (gcode) x.gs) 8 0 x.gs.length=0∧feC (atC (scode x.ls x.ps) x.ss) 8 0 x.ss.length=0∧feC (atC (fun y _=>mcode x.ls.length y) x.ms) 24 0 x.ms.length=0:=by
 have:=fnz_all h
 simpa only[vlist,List.mem_cons,List.not_mem_nil,or_false,forall_eq_or_imp,forall_eq] using this
theorem lt_ok {x:Cfg} {n:Int} (h:lightP x n=true) (hn:n≤16):LtOK x:=by
 unfold lightP at h
 simp only[Bool.and_eq_true,decide_eq_true_eq,beq_iff_eq]at h
 obtain⟨⟨⟨⟨⟨⟨⟨h1,h2⟩,h3⟩,h4⟩,h5⟩,h6⟩,h7⟩,hv⟩:=h
 obtain⟨v1,v2,v3,_,_,_,v7⟩:=v_parts hv
 refine⟨hv,by omega,h2,h3,h4,h5,h6,h7,fun y hy=>?_,fun y hy=>?_,fun y hy=>?_,fun y hy=>?_,fun y hy=>?_⟩
 ·obtain⟨ah,he⟩:=atc_all v1 hy
  have:=rcode_name he;omega
 ·obtain⟨ah,he⟩:=atc_all v2 hy
  have:=lcode_name he;omega
 ·obtain⟨ah,he⟩:=atc_all v3 hy
  exact pcode_lt he
 ·obtain⟨ah,he⟩:=atc_all v7 hy
  have:=mcode_lt he;exact⟨this.1,this.2.1⟩
 ·obtain⟨ah,he⟩:=atc_all v7 hy
  exact (mcode_lt he).2.2
theorem lt_rl {x:Cfg} {n:Int} (h:lightP x n=true):(x.rs.length:Int)≤n:=by
 unfold lightP at h
 simp only[Bool.and_eq_true,decide_eq_true_eq,beq_iff_eq]at h
 exact h.1.1.1.1.1.1.1
theorem LtOK.alike {x x':Cfg} (h:LtOK x) (k:Alike x x') (hv:vcode x'=0):LtOK x':=by
 have hm:=alike_ms k
 have mem:∀y∈x'.ms,∃y0∈x.ms,y0.l=y.l∧y0.xs=y.xs:=fun y hy=>by
  have:y.plain∈x.ms.map Mb.plain:=by rw[←k.m];exact List.mem_map_of_mem hy
  obtain⟨y0,h0,e0⟩:=List.mem_map.1 this
  simp only[Mb.plain,Prod.mk.injEq]at e0
  exact⟨y0,h0,e0.1,e0.2.2.2⟩
 refine⟨hv,by rw[k.r];exact h.rl,by rw[k.l];exact h.ll,by rw[k.p];exact h.pl,by rw[k.o];exact h.ol,by rw[k.g];exact h.gl,by rw[k.s];exact h.sl,by rw[hm];exact h.ml,by rw[k.r];exact h.rn,by rw[k.l];exact h.ln,by rw[k.p,k.r,k.l];exact h.po,fun y hy=>?_,fun y hy=>?_⟩
 ·obtain⟨y0,h0,e1,_⟩:=mem y hy
  rw[k.l,←e1];exact h.mo y0 h0
 ·obtain⟨y0,h0,_,e2⟩:=mem y hy
  rw[←e2];exact h.xl y0 h0
theorem LW.cw {w:World} {M:Cm} {x:Cfg} (h:LW w M x) (k:LtOK x):CW w M x:=by
 refine⟨h.r,h.l,h.p,h.o,h.g,h.s,h.m,⟨h.rc,?_⟩,⟨h.lc,?_⟩,⟨h.pc,?_⟩,⟨h.oc,?_⟩,⟨h.gc,?_⟩,⟨h.sc,?_⟩,⟨h.mc,?_⟩,fun y hy=>⟨(h.src y hy).1,(h.src y hy).2.1,?_⟩,h.ok⟩
 ·have:=h.r.1;have:=k.rl;omega
 ·have:=h.l.1;have:=k.ll;omega
 ·have:=h.p.1;have:=k.pl;omega
 ·have:=h.o.1;have:=k.ol;omega
 ·have:=h.g.1;have:=k.gl;omega
 ·have:=h.s.1;have:=k.sl;omega
 ·have:=h.m.1;have:=k.ml;omega
 ·have:=(h.src y hy).1.1;have:=k.xl y hy;omega
theorem grpL_len (x:Cfg):(grpL x).length=x.ss.length+x.ms.length:=by simp[grpL]
theorem nub_le (l:List Int):(nubA l).length≤l.length:=by
 have:=grp_len l
 unfold groupsL at this
 rw[sortA_len]at this
 exact this
theorem new_light (ads:List Addr) (M:Cm) (x:Cfg) (w:World) (hE:EnvC ads w) (h:CW w M x) (k:LtOK x) :
  Calls Tryz.prog 12 #[.agg #[.slice M.r.A M.r.n M.r.c,.slice M.l.A M.l.n M.l.c,.slice M.p.A M.p.n M.p.c,.slice M.o.A M.o.n M.o.c,.slice M.g.A M.g.n M.g.c,.slice M.s.A M.s.n M.s.c,.slice M.m.A M.m.n M.m.c]] w fun e w'=>∃ (T:TP) (x':Cfg),e=.returned (.tuple #[.pointer (some ⟨T.N,0,none⟩),.nilIface])∧TW w' w.heap.size T x' (groupsL (grpL x))∧Alike x x'∧Below w.heap.size w w':=by
 refine new_ok ads M x (groupsL (grpL x)) w hE h k.v k.rn k.ln (fun W hW=>?_) k.po k.mo
 refine tgrp_any M x W (h.next hW) ?_ ?_
 ·have:=nub_le (grpL x);rw[grpL_len]at this
  have:=k.sl;have:=k.ml;omega
 ·have:=h.s.len;have:=h.m.len;have:=k.sl;have:=k.ml;omega
theorem vcode_alike {x x':Cfg} (h:Alike x x'):vcode x'=vcode x:=by
 unfold vcode vlist
 rw[h.r,h.l,h.p,h.o,h.g,h.s,alike_ms h]
 have hm:atC (fun (y:Mb) _=>mcode x.ls.length y) x'.ms=atC (fun (y:Mb) _=>mcode x.ls.length y) x.ms:=by
  funext i
  have:=congrArg (fun l=>l[i]?) h.m
  simp only[List.getElem?_map]at this
  unfold atC
  cases h1:x'.ms[i]? with
  | none =>
   cases h2:x.ms[i]? with
   | none=>rfl
   | some b=>rw[h1,h2]at this;cases this
  | some a =>
   cases h2:x.ms[i]? with
   | none=>rw[h1,h2]at this;cases this
   | some b =>
    rw[h1,h2]at this
    simp only[Option.map_some,Option.some.injEq,Mb.plain,Prod.mk.injEq]at this
    obtain⟨e1,e2,e3,e4⟩:=this
    simp only[mcode,e1,e2,e4]
 rw[hm]
end Go.Proofs.YtfidicbknjoafaaGreatDoor
namespace Go.Proofs.YtfidicbknjoafaaGreatDoor
open Go.RowKit Lx Sm Go.Maps
theorem AR.of_ir {w:World} {A:Option Addr} {n:Nat} {xs:List Int} (h:IR CAddr 1 w A n xs) (hu:∀a∈xs,U32 a):AR w A n xs:=by
 refine⟨h.len,fun a ha=>hu a ha,fun hp=>?_⟩
 obtain⟨b,o,y,e,hl,_,_⟩:=h.at_ hp
 refine⟨b,o,e,hl,fun i hi=>?_⟩
 obtain⟨b',o',y',e',_,hx,hc⟩:=h.at_ hi
 rw[e]at e'
 cases e'
 have:=hc 0 _ rfl
 rw[List.getD_eq_getElem?_getD,hx]
 simpa using this
def rowF (x:Cfg) (p:Int):List Int:=rowIn (tabs x x.ps.length x.ps.length x.ms.length 1) x.rs.length p
theorem rowF_at {x:Cfg} {p:Int} (h0:0≤p) (h1:p<x.rs.length):rowF x p=picks (fun y=>y.1==p) x.ps x.ps.length:=by
 unfold rowF rowIn
 rw[if_pos ⟨h0,h1⟩]
 show picks (fun y=>y.1==(p.toNat:Int)) x.ps x.ps.length=_
 rw[Int.toNat_of_nonneg h0]
theorem rowIn_out {xs:Nat→List Int} {n:Nat} {p:Int} (h:¬ (0≤p∧p<(n:Int))):rowIn xs n p=[]:=by unfold rowIn;rw[if_neg h]
theorem rowF_alike {x x':Cfg} (h:Alike x x') (p:Int):rowF x' p=rowF x p:=by
 unfold rowF;rw[alike_tabs h,h.p,h.r,alike_ms h]
section
variable {b:Nat} {T:TP} {x x':Cfg} {gs:List Int}
theorem of_al (p:Int) (w:World) (h:TW w b T x' gs) (k:Alike x x') :
  Calls Tryz.prog 47 #[.pointer (some ⟨T.N,0,none⟩),.int .i64 p] w fun e w'=>∃A c,e=.returned (.slice A (rowF x p).length c)∧JR w' A (rowF x p).length (rowF x p)∧Below w.heap.size w w':=by
 rw[←rowF_alike k p];exact tof_any p w h
end
end Go.Proofs.YtfidicbknjoafaaGreatDoor
