/- The statement that more that is heard makes no row less, as it is said. -/
import Derived.Test.YtfidicbknjoafaaGreatDoorQWantGrows
import Derived.Test.YtfidicbknjoafaaGreatDoorQOpenB
import Derived.Test.YtfidicbknjoafaaGreatDoorQTn
import Derived.Test.YtfidicbknjoafaaGreatDoorQYh
import Derived.Test.YtfidicbknjoafaaGreatDoorTie
import Derived.Test.YtfidicbknjoafaaGreatDoorCards
import Derived.ProofKit
import Derived.OpenShut
import Derived.LaidMore
import Derived.Lay
import Derived.ShapedOpen
import Derived.SevenTiedAt
import Derived.Stop.Joined
import Derived.Stop.LaidErr
import Derived.Lib.LaidTab
namespace Go.Proofs.YtfidicbknjoafaaGreatDoor.wantGrows
open Go.ChangeShapes Go.WideShapes Go.ChangeAt Go.RowKit
theorem own:ownKnob Tryz.prog.godebug=none:=by kernel_rfl
theorem laidOut:laidOutB Tryz.prog=true:=by kernel_rfl
set_option maxRecDepth 100000 in
theorem door_met (os:Os) (args:Array Value):laidMetH Tryz.prog Rows.wantGrowsRow.laid ((World.laidAll Tryz.prog os Rows.wantGrowsRow.laid).forCall (fun _ _=>0) ⟨#[],args,[]⟩).memory:=by
 rw[MakeChecks.laidMetH_plain _ _ _ (by kernel_rfl)]
 exact laidMet_laidAll _ (by kernel_rfl) (by kernel_rfl)
theorem env_of_laid {W:World} (h:laidMetH Tryz.prog Rows.wantGrowsRow.laid W) (_hsh:W.ShapedOpen Tryz.prog):∃ads,EnvC ads W:=by
 rw[MakeChecks.laidMetH_plain _ _ _ (by kernel_rfl)]at h
 exact envC_of_laid (rest:=[]) h
set_option maxHeartbeats 800000 in
set_option maxRecDepth 100000 in
theorem lifted (os:Os) (started:os.Started) (H:Type) (enc:TypeId × Value→H) :
  ReturnsInHanded {} Tryz.checked os 6 .any (fun w args=>(Rows.wantGrowsSpec.pre enc Tryz.prog Tryz.f6 [] false w args∧laidMetH Tryz.prog Rows.wantGrowsRow.laid w)∧sizedMet enc Tryz.prog Tryz.f6 (OpenSpec.ofChange Rows.wantGrowsSpec) false w args)
   (Rows.wantGrowsSpec.post enc Tryz.prog Tryz.f6 false true false false):=by
 refine rih_and_shaped (C:=Tryz.checked) (X:=fun w _=>laidMetH Tryz.prog Rows.wantGrowsRow.laid w) (fun _ _ _ hh h=>h.of_heap hh) own started (by kernel_rfl) Tryz.func6
  (ChangeSpec.witness_shaped (enc:=enc) (C:=Tryz.checked) (os:=os) (X:=fun w _=>laidMetH Tryz.prog Rows.wantGrowsRow.laid w) false (World.laidAll Tryz.prog os Rows.wantGrowsRow.laid) #[.agg #[.slice none 0 0,.slice none 0 0,.slice none 0 0,.slice none 0 0,.slice none 0 0,.slice none 0 0,.slice none 0 0],.int .i64 0,.slice none 0 0,.agg #[.int .i64 0,.int .u32 0,.int .u32 0],.int .i64 0] 8 (World.laidAll_os _ _ _) (World.shaped_of_ZipB (by kernel_rfl) (by kernel_rfl)) (by kernel_rfl) (by kernel_rfl) (by kernel_rfl) (door_met os _)) ?_
 intro W base args ds gs before hval0 hW _ _ hL hsh
 have hval:∀ (j:Nat) t v,Tryz.f6.params[j]?=some t→args[j]?=some v→Value.okWide Tryz.prog W .any base t v:=hval0
 have hW':=hW
 obtain⟨p,q,hA0,hV,rfl,_,_⟩:=hW
 have hA:DataW.TrodAll enc Tryz.prog W 0 (fun _=>true) true Tryz.f6.params.toList args.toList ds p:=hA0
 rw[Tryz.params6]at hA hval
 obtain⟨v0,vs0,d0,ds0,p0,q0,hargs,rfl,rfl,r0,t0⟩:=trodAll_cons hA
 obtain⟨v1,vs1,d1,ds1,p1,q1,rfl,rfl,rfl,r1,t1⟩:=trodAll_cons t0
 obtain⟨v2,vs2,d2,ds2,p2,q2,rfl,rfl,rfl,r2,t2⟩:=trodAll_cons t1
 obtain⟨v3,vs3,d3,ds3,p3,q3,rfl,rfl,rfl,r3,t3⟩:=trodAll_cons t2
 obtain⟨v4,vs4,d4,ds4,p4,q4,rfl,rfl,rfl,r4,t4⟩:=trodAll_cons t3
 obtain⟨rfl,rfl,rfl⟩:=trodAll_nil t4
 obtain rfl:args=#[v0,v1,v2,v3,v4]:=by cases args;simp_all
 obtain⟨rfl,rfl⟩:=trodVars_none hV
 obtain⟨M0,x0,rfl,hl0⟩:=open_cfg (hval 0 30 v0 rfl rfl) r0
 obtain⟨a1,rfl,_,_,w1⟩:=open_int Tryz.underlying3 (hval 1 3 v1 rfl rfl) r1
 obtain⟨A2,n2,c2,rfl⟩:=okWide_slice Tryz.underlying74 (hval 2 74 v2 rfl rfl)
 obtain⟨x3,rfl,hw3⟩:=opened_h1 (hval 3 89 v3 rfl rfl) r3
 obtain⟨a4,rfl,_,_,w4⟩:=open_int Tryz.underlying3 (hval 4 3 v4 rfl rfl) r4
 have hT:=env_of_laid hL hsh
 obtain⟨ads,hE⟩:=hT
 clear hA0 hval0
 simp only[List.append_nil]at hW'
 have hlt:∀x∈p0++(p1++(p2++(p3++(p4)))),x.block<W.heap.size:=fun x hx=>by simpa using hW'.lt x hx
 have harg0:∀W',Below W.heap.size W W'→DataW.Trod enc Tryz.prog W' 0 (fun b=>decide (b<W.heap.size)) true 30 _ d0 p0:=fun W' hb =>
  Below.trod laidOut (by kernel_rfl) (of_decide_eq_true (by kernel_rfl)) r0 hb (fun x hx=>hlt x (List.mem_append.2 (.inl hx)))
 have harg1:∀W',Below W.heap.size W W'→DataW.Trod enc Tryz.prog W' 0 (fun b=>decide (b<W.heap.size)) true 3 _ d1 p1:=fun W' hb =>
  Below.trod laidOut (by kernel_rfl) (of_decide_eq_true (by kernel_rfl)) r1 hb (fun x hx=>hlt x (List.mem_append.2 (.inr (List.mem_append.2 (.inl hx)))))
 have harg2:∀W',Below W.heap.size W W'→DataW.Trod enc Tryz.prog W' 0 (fun b=>decide (b<W.heap.size)) true 74 _ d2 p2:=fun W' hb =>
  Below.trod laidOut (by kernel_rfl) (of_decide_eq_true (by kernel_rfl)) r2 hb (fun x hx=>hlt x (List.mem_append.2 (.inr (List.mem_append.2 (.inr (List.mem_append.2 (.inl hx)))))))
 have harg3:∀W',Below W.heap.size W W'→DataW.Trod enc Tryz.prog W' 0 (fun b=>decide (b<W.heap.size)) true 89 _ d3 p3:=fun W' hb =>
  Below.trod laidOut (by kernel_rfl) (of_decide_eq_true (by kernel_rfl)) r3 hb (fun x hx=>hlt x (List.mem_append.2 (.inr (List.mem_append.2 (.inr (List.mem_append.2 (.inr (List.mem_append.2 (.inl hx)))))))))
 have harg4:∀W',Below W.heap.size W W'→DataW.Trod enc Tryz.prog W' 0 (fun b=>decide (b<W.heap.size)) true 3 _ d4 p4:=fun W' hb =>
  Below.trod laidOut (by kernel_rfl) (of_decide_eq_true (by kernel_rfl)) r4 hb (fun x hx=>hlt x (List.mem_append.2 (.inr (List.mem_append.2 (.inr (List.mem_append.2 (.inr (List.mem_append.2 (.inr hx)))))))))
 obtain⟨xs2,h2,hw2,hc2⟩:=opened_heard r2
 refine (law_wgrow ads M0 x0 a1 A2 n2 c2 xs2 x3.1 x3.2.1 x3.2.2 a4 W hE hl0 h2 hc2 hw2 hw3.2).mono fun e W' ⟨he,hb⟩=>?_
 subst he
 exact⟨_,rfl,_,_,_,[],(p0++(p1++(p2++(p3++(p4++[]))))),[],hW',trodAll_mk1 (shut_bool Tryz.underlying4 _),(trodAll_cons_mk (harg0 W' hb) (trodAll_cons_mk (harg1 W' hb) (trodAll_cons_mk (harg2 W' hb) (trodAll_cons_mk (harg3 W' hb) (trodAll_cons_mk (harg4 W' hb) trodAll_mk0))))),rfl,hb.frame _,fun h=>by cases h⟩
set_option maxHeartbeats 8000000 in
theorem closed:joinedFacts Tryz.checked.prog 6 Tryz.f6 Rows.wantGrowsSpec Rows.wantGrowsRow=true:=by
 unfold joinedFacts
 simp only[Bool.and_eq_true]
 repeat' apply And.intro
 all_goals as_aux_lemma=>kernel_rfl
theorem over:Rows.wantGrowsRow.holds Tryz.pinned (OpenSpec.ofChange Rows.wantGrowsSpec) :=
 OpenClaim.holds_of_wide 6 Tryz.f6 rfl rfl rfl rfl rfl rfl rfl ⟨rfl,rfl,rfl,rfl,rfl⟩ rfl rfl rfl rfl rfl (by kernel_rfl) Tryz.func6 closed
  (of_decide_eq_true (by kernel_rfl)) (by unfold Func.isWrapper;first|(rw[if_pos (by decide +kernel)];kernel_rfl)|(rw[if_neg (by decide +kernel)];exact⟨rfl,rfl⟩))
  (fun os started H enc _=>lifted os started H enc)
theorem p_main:Tryz.pinned.checked.prog.mainIs=some (Rows.wantGrowsCard.stood.harness.fst,Rows.wantGrowsCard.stood.harness.snd.toList):=by kernel_rfl
theorem p_fn:Tryz.prog.funcNamed "rivulet/rivuletlaw17.WantGrows"=some 6:=by kernel_rfl
theorem p_look:Rows.wantGrowsCard.stood.looks=Tryz.pinned.checked.prog.looks []:=by kernel_rfl
theorem p_goes:false=Rows.wantGrowsRow.goesBy Tryz.pinned.checked.prog:=by kernel_rfl
theorem p_wf:OpenClaim.wfByText (OpenSpec.ofChange Rows.wantGrowsSpec) Rows.wantGrowsRow=true:=by kernel_rfl
theorem p_w0:Tryz.prog.wantsStandIn 30=false:=by kernel_rfl
theorem p_w1:Tryz.prog.wantsStandIn 3=false:=by kernel_rfl
theorem p_w2:Tryz.prog.wantsStandIn 74=false:=by kernel_rfl
theorem p_w3:Tryz.prog.wantsStandIn 89=false:=by kernel_rfl
theorem p_all (t:TypeId) (h:t∈[30,3,74,89,3]):Tryz.prog.wantsStandIn t=false:=by
 simp only[List.mem_cons,List.not_mem_nil,or_false]at h
 rcases h with rfl|rfl|rfl|rfl|rfl
 ·exact p_w0
 ·exact p_w1
 ·exact p_w2
 ·exact p_w3
 ·exact p_w1
theorem proved:Rows.WantGrowsCardSaid :=
 Claim7.holds_tied_plain_at .later [] Rows.wantGrowsCard.laidKinds true Rows.wantGrowsCard.stood.harness Rows.wantGrowsCard.stood.looks
  over (fun _ h=>by cases h) p_wf (fun _ h=>by cases h) wantGrows_row_tie rfl ⟨rfl,rfl⟩ p_main rfl
  (fun f fn hf hfn=>by
   obtain rfl:f=6:=Option.some.inj (p_fn.symm.trans hf) |>.symm
   obtain rfl:fn=Tryz.f6:=(Option.some.inj (Tryz.func6.symm.trans hfn)).symm
   exact⟨p_look,fun j t ht=>by
    rw[Tryz.params6]at ht
    have hm:t∈[30,3,74,89,3]:=by simpa using Array.mem_of_getElem? ht
    exact p_all t hm⟩)
  p_goes
#print axioms proved
end Go.Proofs.YtfidicbknjoafaaGreatDoor.wantGrows
