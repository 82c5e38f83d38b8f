/- An argument that is one thing heard, opened. -/
import Derived.Test.YtfidicbknjoafaaGreatDoorQYx
namespace Go.Proofs.YtfidicbknjoafaaGreatDoor
open Go.ChangeShapes Go.WideShapes Go.ChangeAt Go.RowKit Lx Sm Go.Maps
theorem array3h {α:Type} {cs:Array α} (h:cs.size=3):∃c0 c1 c2,cs=#[c0,c1,c2]:=by
 obtain⟨l⟩:=cs
 match l,h with
 | [c0,c1,c2],_=>exact⟨c0,c1,c2,rfl⟩
theorem op_heard {H:Type} {enc:TypeId × Value→H} {W:World} (n:Nat) {c0 c1 c2:Value} {y:DataW H × List MemPlace} (htr:DataW.trod enc Tryz.prog W 0 (fun _=>true) true n 89 [c0,c1,c2]=some y):∃x:Int × Int × Int,[c0,c1,c2]=CHd x∧wfHd x:=by
 have ki:Tryz.prog.cellsOf 3=1:=by kernel_rfl
 have kk:Tryz.prog.cellsOf 57=2:=by kernel_rfl
 have ka:Tryz.prog.cellsOf 42=1:=by kernel_rfl
 obtain⟨ys,n',_,_,_,hlen,hf⟩:=DataW.trod_struct Tryz.underlying89 htr
 match ys,hlen with
 | [y0,y1],_ =>
  have g0:DataW.trod enc Tryz.prog W 0 (fun _=>true) true n' 3 [c0]=some y0:=by simpa [ki] using hf 0 _ rfl
  have g1:DataW.trod enc Tryz.prog W 0 (fun _=>true) true n' 57 [c1,c2]=some y1:=by simpa [kk,ki] using hf 1 _ rfl
  obtain⟨zs,n2,_,_,_,hlen2,hf2⟩:=DataW.trod_struct Tryz.underlying57 g1
  match zs,hlen2 with
  | [z0,z1],_ =>
   have f0:DataW.trod enc Tryz.prog W 0 (fun _=>true) true n2 42 [c1]=some z0:=by simpa [ka] using hf2 0 _ rfl
   have f1:DataW.trod enc Tryz.prog W 0 (fun _=>true) true n2 42 [c2]=some z1:=by simpa [ka] using hf2 1 _ rfl
   obtain⟨a0,e0,_,w0⟩:=DataW.trod_int Tryz.underlying3 g0
   obtain⟨a1,e1,_,w1⟩:=DataW.trod_int Tryz.underlying42 f0
   obtain⟨a2,e2,_,w2⟩:=DataW.trod_int Tryz.underlying42 f1
   simp only[List.cons.injEq,and_true]at e0 e1 e2
   subst e0;subst e1;subst e2
   exact⟨(a0,a1,a2),rfl,wf_i64 w0,wf_u32 w1,wf_u32 w2⟩
set_option maxRecDepth 100000 in
theorem opened_h1 {H:Type} {enc:TypeId × Value→H} {W:World} {r:Reach} {b0:Nat} {v:Value} {d:DataW H} {p:List MemPlace}
  (hv:Value.okWide Tryz.prog W r b0 89 v) (h:DataW.Trod enc Tryz.prog W 0 (fun _=>true) true 89 v d p):∃x:Int × Int × Int,v=.agg #[.int .i64 x.1,.int .u32 x.2.1,.int .u32 x.2.2]∧wfHd x:=by
 obtain⟨cs,rfl,hsz⟩:=okWide_struct Tryz.underlying89 hv
 obtain⟨c0,c1,c2,rfl⟩:=array3h (hsz.trans (by kernel_rfl))
 obtain⟨fuel,hf⟩:=h
 obtain⟨x,e,hw⟩:=op_heard fuel (c0:=c0) (c1:=c1) (c2:=c2) hf
 refine⟨x,?_,hw⟩
 have e':[c0,c1,c2]=[Value.int .i64 x.1,.int .u32 x.2.1,.int .u32 x.2.2]:=e
 simp only[List.cons.injEq,and_true]at e'
 obtain⟨rfl,rfl,rfl⟩:=e'
 rfl
end Go.Proofs.YtfidicbknjoafaaGreatDoor
