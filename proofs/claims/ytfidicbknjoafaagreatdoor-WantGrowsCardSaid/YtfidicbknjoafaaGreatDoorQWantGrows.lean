/- Things heard in whatever order and however often: the same rows; more that is heard makes no row less; walked. -/
import Derived.Test.YtfidicbknjoafaaGreatDoorQYu
import Derived.Test.YtfidicbknjoafaaGreatDoorQYi
import Derived.Test.YtfidicbknjoafaaGreatDoorQYq
import Derived.Deep.CutRange
import Derived.Deep.RegionHeld3
namespace Go.Proofs.YtfidicbknjoafaaGreatDoor
open Go.ChangeShapes Go.WideShapes Go.ChangeAt Go.RowKit Lx Sm Go.Maps
theorem blk_new2G (w:World) (o:Obj) (t:TypeId) (cs:Array Value):Blk ((w.alloc o).alloc (.cells cs t)) (w.heap.size+1) t cs:=by
 have:=Blk.new (w.alloc o) t cs
 simpa using this
theorem Blk.grownG {w w':World} {g:Nat} {t:TypeId} {cs:Array Value} {ob:Option Nat} (h:Blk w g t cs) (hg:w.grownBy w' ob) (ne:some g ≠ ob):Blk w' g t cs:=(hg.block g h.lt ne).trans h
theorem own_new2G (w:World) (o:Obj) (t:TypeId):((w.alloc o).alloc (.cells #[] t)).drew.ownsRow w.heap.size t 3 (.slice (some ⟨w.heap.size+1,0,none⟩) 0 0) 0 []:=by
 have:=World.ownsRow_lit (base:=w.heap.size) (e:=t) (size:=3) (w.alloc o) #[] 0 (by simp) (by decide) rfl
 refine World.ownsRow.drew ?_
 simpa using this
theorem findR_mem {l:List PRow} {r:Int} {k:Int × Int} {p:PRow} (h:findR l r k=some p):p∈l:=List.mem_of_find?_eq_some h
theorem grow_key {x:Cfg} {r:Int} {own:List Int} {L M:List (Int × Int × Int)} (hs:∀y∈L,y∈M) {p:PRow} (hp:p∈rowsP x r own L) :
  ∃p2,findR (rowsP x r own M) r p.k=some p2∧p2.i=p.i∧p2.u=p.u∧(∀a∈p.xs,a∈p2.xs)∧p.i ∉ p.xs:=by
 unfold rowsP at hp
 obtain⟨k,hk,rfl⟩:=List.mem_map.1 hp
 have hpo:∀ (k:Int × Int) a,a∈portsK own k L→a∈portsK own k M:=fun k a ha=>portsK_mem.2 ⟨(portsK_mem.1 ha).1,hs _ (portsK_mem.1 ha).2⟩
 have hkM:k∈rowKeys x r own M:=by
  unfold rowKeys at hk ⊢
  rw[keysS_mem,List.mem_append]at hk ⊢
  rcases hk with h|h
  ·left
   rw[heardK_mem]at h ⊢
   obtain⟨a,ha⟩:=List.exists_mem_of_ne_nil _ h
   exact fun e=>by have:=hpo k a ha;rw[e]at this;cases this
  ·right
   unfold askK at h ⊢
   rw[List.mem_filter]at h ⊢
   refine⟨h.1,?_⟩
   have h2:=h.2
   simp only[Bool.and_eq_true,decide_eq_true_eq]at h2 ⊢
   refine⟨?_,h2.2⟩
   obtain⟨a,ha⟩:=List.exists_mem_of_length_pos h2.1
   exact List.length_pos_of_mem (hpo _ a ha)
 have hf:∀l:List (Int × Int),k∈l→findR (l.map (rowK x r own M)) r k=some (rowK x r own M k):=by
  intro l
  induction l with
  | nil=>intro h;cases h
  | cons z l ih =>
   intro h
   unfold findR at ih ⊢
   rw[List.map_cons]
   by_cases e:z=k
   ·subst e
    rw[List.find?_cons_of_pos (by simp[rowK])]
   ·rw[List.find?_cons_of_neg (by
     simp only[rowK,beq_self_eq_true,Bool.true_and,Bool.and_eq_true,beq_iff_eq,not_and]
     intro h1 h2
     exact e (Prod.ext h1 h2))]
    exact ih (by
     rcases List.mem_cons.1 h with h|h
     ·exact absurd h.symm e
     ·exact h)
 refine⟨rowK x r own M k,hf _ hkM,rfl,rfl,fun a ha=>?_,fun h=>?_⟩
 ·have:=outP_mem.1 (show a∈outP (inUp x r k).1 (portsK own k L) (portsK own (0,k.2) L) from ha)
  exact outP_mem.2 ⟨this.1.imp (hpo k a) (hpo _ a),this.2⟩
 ·exact (outP_mem.1 (show (inUp x r k).1∈outP (inUp x r k).1 (portsK own k L) (portsK own (0,k.2) L) from h)).2 rfl
set_option maxHeartbeats 8000000 in
set_option maxRecDepth 100000 in
theorem law_wgrow (ads:List Addr) (M:Cm) (x:Cfg) (r:Int) (A:Option Addr) (n c:Nat) (xs:List (Int × Int × Int)) (xp x1 x2 by_:Int) (w:World) (hE:EnvC ads w) (hL:LW w M x) (hA:RI CHd 3 w A n xs) (hcap:n≤c) (hw:∀y∈xs,wfHd y) (hxk:UK (x1,x2)) :
    Calls Tryz.prog 6 #[.agg #[.slice M.r.A M.r.n M.r.c,.slice M.l.A M.l.n M.l.c,.slice M.p.A M.p.n M.p.c,.slice M.o.A M.o.n M.o.c,.slice M.g.A M.g.n M.g.c,.slice M.s.A M.s.n M.s.c,.slice M.m.A M.m.n M.m.c],.int .i64 r,.slice A n c,.agg #[.int .i64 xp,.int .u32 x1,.int .u32 x2],.int .i64 by_] w fun e w'=>e=.returned (.bool true)∧Below w.heap.size w w':=by
  have HB0:=Lib.hid (((Below.refl w.heap.size w).alloc (Nat.le_refl _) (.cells #[.slice M.r.A M.r.n M.r.c,.slice M.l.A M.l.n M.l.c,.slice M.p.A M.p.n M.p.c,.slice M.o.A M.o.n M.o.c,.slice M.g.A M.g.n M.g.c,.slice M.s.A M.s.n M.s.c,.slice M.m.A M.m.n M.m.c] 30)).alloc (by simp) (.cells #[.int .i64 xp,.int .u32 x1,.int .u32 x2] 89))
  have HK0:Hid (Blk ((w.alloc (.cells #[.slice M.r.A M.r.n M.r.c,.slice M.l.A M.l.n M.l.c,.slice M.p.A M.p.n M.p.c,.slice M.o.A M.o.n M.o.c,.slice M.g.A M.g.n M.g.c,.slice M.s.A M.s.n M.s.c,.slice M.m.A M.m.n M.m.c] 30)).alloc (.cells #[.int .i64 xp,.int .u32 x1,.int .u32 x2] 89)) w.heap.size 30 #[.slice M.r.A M.r.n M.r.c,.slice M.l.A M.l.n M.l.c,.slice M.p.A M.p.n M.p.c,.slice M.o.A M.o.n M.o.c,.slice M.g.A M.g.n M.g.c,.slice M.s.A M.s.n M.s.c,.slice M.m.A M.m.n M.m.c]):=Lib.hid ((Blk.new _ _ _).alloc _)
  have HQ0:Hid (Blk ((w.alloc (.cells #[.slice M.r.A M.r.n M.r.c,.slice M.l.A M.l.n M.l.c,.slice M.p.A M.p.n M.p.c,.slice M.o.A M.o.n M.o.c,.slice M.g.A M.g.n M.g.c,.slice M.s.A M.s.n M.s.c,.slice M.m.A M.m.n M.m.c] 30)).alloc (.cells #[.int .i64 xp,.int .u32 x1,.int .u32 x2] 89)) (w.heap.size+1) 89 #[.int .i64 xp,.int .u32 x1,.int .u32 x2]):=Lib.hid (by
    have:=Blk.new (w.alloc (.cells #[.slice M.r.A M.r.n M.r.c,.slice M.l.A M.l.n M.l.c,.slice M.p.A M.p.n M.p.c,.slice M.o.A M.o.n M.o.c,.slice M.g.A M.g.n M.g.c,.slice M.s.A M.s.n M.s.c,.slice M.m.A M.m.n M.m.c] 30)) 89 #[.int .i64 xp,.int .u32 x1,.int .u32 x2]
    simpa using this)
  have HF:=Lib.hid (first17_any ads _ (hE.below HB0.out))
  have HE:=Lib.hid hE
  have HL:=Lib.hid hL
  clear hE hL
  go_enter Tryz.func6,Tryz.ntmps6
  go_upto_region 1 with fail
  generalize (w.alloc (.cells #[.slice M.r.A M.r.n M.r.c,.slice M.l.A M.l.n M.l.c,.slice M.p.A M.p.n M.p.c,.slice M.o.A M.o.n M.o.c,.slice M.g.A M.g.n M.g.c,.slice M.s.A M.s.n M.s.c,.slice M.m.A M.m.n M.m.c] 30)).alloc (.cells #[.int .i64 xp,.int .u32 x1,.int .u32 x2] 89)=W0 at *
  go_wp2_with fail
  refine HF.out.mono ?_
  rintro e w1 ⟨rfl,hb1⟩
  have HB1:=Lib.hid (below_next HB0.out hb1)
  have HK1:=Lib.hid (HK0.out.next hb1)
  have HQ1:=Lib.hid (HQ0.out.next hb1)
  have y0:w1.cell? ⟨w.heap.size,0,none⟩=some (.slice M.r.A M.r.n M.r.c):=HK1.out.cell 0
  have y1:w1.cell? ⟨w.heap.size,1,none⟩=some (.slice M.l.A M.l.n M.l.c):=HK1.out.cell 1
  have y2:w1.cell? ⟨w.heap.size,2,none⟩=some (.slice M.p.A M.p.n M.p.c):=HK1.out.cell 2
  have y3:w1.cell? ⟨w.heap.size,3,none⟩=some (.slice M.o.A M.o.n M.o.c):=HK1.out.cell 3
  have y4:w1.cell? ⟨w.heap.size,4,none⟩=some (.slice M.g.A M.g.n M.g.c):=HK1.out.cell 4
  have y5:w1.cell? ⟨w.heap.size,5,none⟩=some (.slice M.s.A M.s.n M.s.c):=HK1.out.cell 5
  have y6:w1.cell? ⟨w.heap.size,6,none⟩=some (.slice M.m.A M.m.n M.m.c):=HK1.out.cell 6
  have HG:=Lib.hid (light_any M x 8 w1 (HL.out.next HB1.out) (by omega))
  clear hb1 HF
  go_wp2_with fail
  refine HG.out.mono ?_
  rintro e w2 ⟨rfl,hb2⟩
  have HB2:=Lib.hid (below_next HB1.out hb2)
  have HK2:=Lib.hid (HK1.out.next hb2)
  have HQ2:=Lib.hid (HQ1.out.next hb2)
  clear y0 y1 y2 y3 y4 y5 y6 HG hb2
  cases hlp:lightP x 8 with
  | false =>
    go_wp2
    go_ret
    exact⟨rfl,HB2.out⟩
  | true =>
    have HOK:=Lib.hid (lt_ok hlp (by omega))
    have HRL:=Lib.hid (lt_rl hlp)
    have HC2:=Lib.hid ((HL.out.next HB2.out).cw HOK.out)
    have HN:=Lib.hid (new_light ads M x w2 (HE.out.below HB2.out) HC2.out HOK.out)
    have y0:w2.cell? ⟨w.heap.size,0,none⟩=some (.slice M.r.A M.r.n M.r.c):=HK2.out.cell 0
    have y1:w2.cell? ⟨w.heap.size,1,none⟩=some (.slice M.l.A M.l.n M.l.c):=HK2.out.cell 1
    have y2:w2.cell? ⟨w.heap.size,2,none⟩=some (.slice M.p.A M.p.n M.p.c):=HK2.out.cell 2
    have y3:w2.cell? ⟨w.heap.size,3,none⟩=some (.slice M.o.A M.o.n M.o.c):=HK2.out.cell 3
    have y4:w2.cell? ⟨w.heap.size,4,none⟩=some (.slice M.g.A M.g.n M.g.c):=HK2.out.cell 4
    have y5:w2.cell? ⟨w.heap.size,5,none⟩=some (.slice M.s.A M.s.n M.s.c):=HK2.out.cell 5
    have y6:w2.cell? ⟨w.heap.size,6,none⟩=some (.slice M.m.A M.m.n M.m.c):=HK2.out.cell 6
    clear hlp HL HB1 HK1 HB0 HK0 HQ1 HQ0
    by_cases h30:30<n
    · have e0 : decide ((30 : Int) < (n : Int)) = true := by simp; omega
      go_wp2;go_ret;exact⟨rfl,HB2.out⟩
    have e0:decide ((30:Int)<(n:Int))=false:=by simp;omega
    have e0':¬ (30:Int)<(n:Int):=by omega
    by_cases hr:r<0∨(M.r.n:Int)≤r
    · cases e1 : decide (r < 0) with
      | true=>go_wp2;go_ret;exact⟨rfl,HB2.out⟩
      | false =>
        have e2:decide ((M.r.n:Int)≤r)=true:=by simp only[decide_eq_false_iff_not,decide_eq_true_eq]at e1 ⊢;omega
        go_wp2;go_ret;exact⟨rfl,HB2.out⟩
    obtain⟨q,rfl⟩:∃q:Nat,r=(q:Int):=⟨r.toNat,by omega⟩
    have hqn:q<M.r.n:=by omega
    have e1:decide ((q:Int)<0)=false:=by simp
    have e2:decide ((M.r.n:Int)≤(q:Int))=false:=by simp;omega
    clear hr
    go_wp2_with fail
    refine HN.out.mono ?_
    rintro e w4 ⟨T,x',rfl,hT,hal,hb4⟩
    have HT:=Lib.hid hT
    have HAL:=Lib.hid hal
    have HB4:=Lib.hid (below_next HB2.out hb4)
    have HK4:=Lib.hid (HK2.out.next hb4)
    have HC4:=Lib.hid (HC2.out.next hb4)
    have HQ4:=Lib.hid (HQ2.out.next hb4)
    clear y0 y1 y2 y3 y4 y5 y6 HN hT hal hb4 HC2 HK2
    have qr:M.r.n≤16:=by have:=HC4.out.r.len;have:=HOK.out.rl;omega
    have ql:M.l.n≤12:=by have:=HC4.out.l.len;have:=HOK.out.ll;omega
    have qp:M.p.n≤24:=by have:=HC4.out.p.len;have:=HOK.out.pl;omega
    have qo:M.o.n≤30:=by have:=HC4.out.o.len;have:=HOK.out.ol;omega
    have qg:M.g.n≤4:=by have:=HC4.out.g.len;have:=HOK.out.gl;omega
    have qs:M.s.n≤5:=by have:=HC4.out.s.len;have:=HOK.out.sl;omega
    have qm:M.m.n≤10:=by have:=HC4.out.m.len;have:=HOK.out.ml;omega
    clear e0 e0' e1 e2
    have HOK':=Lib.hid (HOK.out.alike HAL.out (by rw[vcode_alike HAL.out];exact HOK.out.v))
    have HUX:=Lib.hid (fun y (hy:y∈xs)=>(hw y hy).2)
    have HRA:=Lib.hid (fun W (hW:Below w4.heap.size w4 W) A' n' c' hs (h1:RI CHd 3 W A' n' hs) (h2:∀y∈hs,UK y.2) (h3:n'≤100)=>rows_al (q:Int) A' n' c' hs W w4 M (HT.out.next hW) HAL.out HC4.out HOK.out HOK'.out h1 h2 h3)
    have HHA:=Lib.hid (hA.next HB4.out)
    have HLX:=Lib.hid hA.len
    have HXK:=Lib.hid hxk
    have HCAP:=Lib.hid hcap
    have hn30:n≤30:=by omega
    clear hA hw hxk hcap
    obtain⟨kk,hkk,hkn⟩:∃kk:Nat,by_ % ((n:Int)+1)=(kk:Int)∧kk≤n:=by
      have h1:=Int.emod_nonneg by_ (show (n:Int)+1 ≠ 0 by omega)
      have h2:=Int.emod_lt_of_pos by_ (show (0:Int)<(n:Int)+1 by omega)
      exact⟨(by_ % ((n:Int)+1)).toNat,by omega,by omega⟩
    have HNU:=Lib.hid (number_any by_ ((n:Int)+1) w4 (by omega) (by omega))
    rw[hkk]at HNU
    clear hkk
    have hw0:IntKind.i64.wrap ((n:Int)+1)=(n:Int)+1:=IntWalk.i64_in _ (by omega)
    go_upto_region 10 with (go_at_call 41;refine HNU.out.mono ?_;rintro e w5 ⟨rfl,rfl⟩)
    clear hw0 HNU
    go_cut [15] from 61 to 67 (fun s15 wc=>∃ (A':Option Addr) (c':Nat),s15=.slice A' (n - kk+n) c'∧Hid (RI CHd 3 wc A' (n - kk+n) (xs.drop kk++xs))∧Hid (Below w4.heap.size w4 wc))
    case first =>
      have hlx:=HLX.out
      have hcc:=HCAP.out
      have hk0:(0:Int)≤(kk:Int):=by omega
      have hk1:(kk:Int)≤(n:Int):=by omega
      have hk2:(kk:Int)≤(c:Int):=by omega
      have hk3:(n:Int)≤(c:Int):=by omega
      have hk4:kk≤c:=by omega
      have HO0:=Lib.hid (World.ownsRow_lit (base:=w4.heap.size) (e:=89) (size:=3) w4 #[] 0 (Nat.le_refl _) (by decide) rfl)
      have HBl:=Lib.hid ((Below.refl w4.heap.size w4).alloc (Nat.le_refl _) (.cells #[] 89))
      by_cases hck:c=kk
      · obtain rfl : n = kk := by omega
        subst hck
        go_wp2_with (at_builtin;first
          | (refine wpList_items elemHd rfl _ _ rfl w4.heap.size _ 0 [] rfl HO0.out _ 0 _ [] rfl (RI.none_ _ _ _ _) (by omega) (by omega) HBl.out.size ?_;intro v6 w6 hown6 hb6 _;have HB6:=Lib.hid (HBl.out.trans hb6);have HO6:=Lib.hid hown6;clear hown6 hb6)
          | (refine wpList_items elemHd rfl _ _ rfl w4.heap.size v6 (0+0) ([]++[]) rfl HO6.out A c c xs rfl (HHA.out.next HB6.out) (by omega) (by omega) HB6.out.size ?_;intro v7 w7 hown7 hb7 _;have HB7:=Lib.hid (HB6.out.trans hb7);have HO7:=Lib.hid hown7;clear hown7 hb7))
        go_meet
        case rel =>
          obtain⟨A7,c7,e7,_,hr7⟩:=RI.of_own (enc:=CHd) (k:=3) (xs:=xs) (fun _=>rfl) (by rw[hlx];simpa using HO7.out)
          rw[hlx]at hr7 e7
          exact⟨A7,c7,by rw[e7];simp,Lib.hid (by rw[List.drop_of_length_le (by omega)];simpa using hr7),HB7⟩
      · have hck2 : ¬ (c : Int) = (kk : Int) := by omega
        go_wp2_with (at_builtin;first
          | (refine wpList_items elemHd rfl _ _ rfl w4.heap.size _ 0 [] rfl HO0.out _ (n - kk) _ (xs.drop kk) rfl (RI.drop (HHA.out.next HBl.out) hkn (fun h=>by first|rfl|omega|rw[Option.map_some,add_plain])) (by omega) (by omega) HBl.out.size ?_;intro v6 w6 hown6 hb6 _;have HB6:=Lib.hid (HBl.out.trans hb6);have HO6:=Lib.hid hown6;clear hown6 hb6)
          | (refine wpList_items elemHd rfl _ _ rfl w4.heap.size v6 (0+(n - kk)) ([]++xs.drop kk) rfl HO6.out A n c xs rfl (HHA.out.next HB6.out) (by omega) (by omega) HB6.out.size ?_;intro v7 w7 hown7 hb7 _;have HB7:=Lib.hid (HB6.out.trans hb7);have HO7:=Lib.hid hown7;clear hown7 hb7))
        go_meet
        case rel =>
          have hll:(xs.drop kk++xs).length=n - kk+n:=by rw[List.length_append,List.length_drop];omega
          obtain⟨A7,c7,e7,_,hr7⟩:=RI.of_own (enc:=CHd) (k:=3) (xs:=xs.drop kk++xs) (fun _=>rfl) (by rw[hll];simpa using HO7.out)
          rw[hll]at hr7 e7
          exact⟨A7,c7,e7,Lib.hid hr7,HB7⟩
    case rest =>
      rename World=>wt
      obtain⟨At,ct,rfl,HRT,HBt⟩:=hcut
      have HR1:=Lib.hid (HRA.out wt HBt.out A n c xs (HHA.out.next HBt.out) HUX.out (by omega))
      go_upto_region 12 with (go_at_call 31;refine HR1.out.mono ?_;rintro e w5 ⟨v5,ms,rfl,hown,hmp,hjr,hb5⟩;have HO5:=Lib.hid hown;have HMP:=Lib.hid hmp;have HJR:=Lib.hid hjr;have HB5:=Lib.hid (below_next HBt.out hb5);have HN5:=Lib.hid hb5;clear hown hmp hjr hb5)
      obtain⟨A5,c5,rfl,_,hr5⟩:=RI.of_own (enc:=CRw) (k:=6) (fun _=>rfl) HO5.out
      have HR5:=Lib.hid hr5
      have HR2:=Lib.hid (HRA.out w5 HB5.out At (n - kk+n) ct (xs.drop kk++xs) (HRT.out.next HN5.out) (fun y hy=>(List.mem_append.1 hy).elim (fun h=>HUX.out y (List.mem_of_mem_drop h)) (HUX.out y)) (by omega))
      clear HO5 hr5 HR1
      go_upto_region 13 with (go_at_call 31;refine HR2.out.mono ?_;rintro e w6 ⟨v6,mt,rfl,hown,hmp,hjr,hb6⟩;have HO6:=Lib.hid hown;have HMT:=Lib.hid hmp;have HJT:=Lib.hid hjr;have HB6:=Lib.hid (below_next HB5.out hb6);have HN6:=Lib.hid hb6;clear hown hmp hjr hb6)
      obtain⟨A6,c6,rfl,_,hr6⟩:=RI.of_own (enc:=CRw) (k:=6) (fun _=>rfl) HO6.out
      have HR6:=Lib.hid hr6
      clear HO6 hr6 HR2
      have HEQ:Hid (mt.map PMr.p=ms.map PMr.p):=Lib.hid (by
        rw[HMP.out,HMT.out]
        refine rowsP_same fun y=>?_
        rw[List.mem_append]
        exact⟨fun h=>h.elim List.mem_of_mem_drop id,.inr⟩)
      have hmtl:mt.length=ms.length:=by have:=congrArg List.length HEQ.out;simpa using this
      have hml:ms.length≤1000:=by
        have h1:=congrArg List.length HMP.out
        rw[List.length_map]at h1
        have h2:=rows_len x (q:Int) (rowF x (q:Int)) xs HOK.out
        have:=HLX.out
        omega
      have HPL:Hid (∀hs:List (Int × Int × Int),hs.length≤100→∀p∈rowsP x (q:Int) (rowF x (q:Int)) hs,p.xs.length≤1000):=Lib.hid (fun hs hl p hp=>by
        unfold rowsP at hp
        obtain⟨k,_,rfl⟩:=List.mem_map.1 hp
        have h1:=outP_len (inUp x (q:Int) k).1 (portsK (rowF x (q:Int)) k hs) (portsK (rowF x (q:Int)) (0,k.2) hs)
        have h2:=portsK_len (rowF x (q:Int)) k hs
        have h3:=portsK_len (rowF x (q:Int)) (0,k.2) hs
        show (outP (inUp x (q:Int) k).1 (portsK (rowF x (q:Int)) k hs) (portsK (rowF x (q:Int)) (0,k.2) hs)).length≤1000
        omega)
      have HQ6:=Lib.hid (HQ4.out.next HB6.out)
      have HHA6:=Lib.hid (HHA.out.next HB6.out)
      have HRB:=Lib.hid (fun W (hW:Below w6.heap.size w6 W) A' c' (h1:RI CHd 3 W A' (n+1) (xs++[(xp,x1,x2)]))=>HRA.out W (below_next HB6.out hW) A' (n+1) c' (xs++[(xp,x1,x2)]) h1 (fun y hy=>(List.mem_append.1 hy).elim (HUX.out y) (fun h=>by rw[List.mem_singleton.1 h];exact HXK.out)) (by omega))
      clear HRA HRT
      have hlx:=HLX.out
      have f0:∀W,Below w6.heap.size w6 W→W.cell? ⟨w.heap.size+1,0,none⟩=some (.int .i64 xp):=fun W hW=>(HQ6.out.next hW).cell 0
      have f1:∀W,Below w6.heap.size w6 W→W.cell? ⟨w.heap.size+1,1,none⟩=some (.int .u32 x1):=fun W hW=>(HQ6.out.next hW).cell 1
      have f2:∀W,Below w6.heap.size w6 W→W.cell? ⟨w.heap.size+1,2,none⟩=some (.int .u32 x2):=fun W hW=>(HQ6.out.next hW).cell 2
      go_region_held3 (fun w'=>Below w6.heap.size w6 w')
        (first|assumption|exact (Below.refl _ _).drew|exact Below.refl _ _|exact ((Below.refl _ _).alloc (Nat.le_refl _) _).drew|exact (((Below.refl _ _).alloc (Nat.le_refl _) _).alloc (by simp) _).drew|exact hb5|exact hb4|exact hb4.alloc hb4.size _)
        (first
        | (refine step_items elemHd (by rfl) _ _ (by rfl) w6.heap.size _ 0 [] (by rfl) (by first | exact World.ownsRow_lit w6 #[] 0 (Nat.le_refl _) (by decide) rfl | exact (World.ownsRow_lit w6 #[] 0 (Nat.le_refl _) (by decide) rfl).alloc _ | exact own_new2G w6 _ _) A n c xs (by rfl) (HHA6.out.next (by assumption)) (by decide) (by omega) (by first | exact Nat.le_refl _ | (simp; done) | (simp; omega)) ?_
           intro v4 w4' hown4 hb4x hg4;have hb4:Below w6.heap.size w6 w4':=Below.trans (by assumption) hb4x;(first|have hli:=Blk.grownG (g:=w6.heap.size+1) (t:=89) (cs:=#[.int .i64 xp,.int .u32 x1,.int .u32 x2]) (Blk.drew (blk_new2G w6 _ _ _)) hg4 (show some (w6.heap.size+1) ≠ some w6.heap.size by simp)|have hli:=Blk.grownG (g:=w6.heap.size) (t:=89) (cs:=#[.int .i64 xp,.int .u32 x1,.int .u32 x2]) (Blk.drew ((Blk.new w6 _ _).alloc _)) hg4 (show some w6.heap.size ≠ some (w6.heap.size+1) by simp)|skip);clear hg4)
        | (refine step_items elemHd (by rfl) _ _ (by rfl) w6.heap.size v4 (0 + n) ([] ++ xs) (by rfl) (by first | exact hown4 | exact hown4.alloc _) _ 1 1 [(xp, x1, x2)] (by rfl) (by first | exact RI.new _ _ (xp, x1, x2) rfl rfl | exact RI.lit hli) (by omega) (by decide) (by first | exact hb4.size | exact (hb4.alloc hb4.size _).size) ?_
           intro v5' w5' hown5 hb5x hg5;clear hg5;have hb5:Below w6.heap.size w6 w5':=Below.trans (by assumption) hb5x;obtain⟨A7,c7,rfl,hc7,hr7⟩:=RI.of_own (enc:=CHd) (k:=3) (xs:=xs++[(xp,x1,x2)]) (fun _=>rfl) (by simpa [hlx,Nat.add_comm] using hown5))
        | (go_at_call 31;refine (HRB.out w5' hb5 A7 c7 (by simpa [hlx] using hr7)).mono ?_;rintro e w8 ⟨v8,mm,rfl,hown8,hmp8,hjr8,hb8x⟩;have HO8:=Lib.hid hown8;have HMM:=Lib.hid hmp8;have HJM:=Lib.hid hjr8;have HB8:=Lib.hid (below_next hb5 hb8x)))
      all_goals
        clear f0 f1 f2 hown8 hmp8 hjr8 hb8x
        obtain⟨A8,c8,rfl,_,hr8⟩:=RI.of_own (enc:=CRw) (k:=6) (fun _=>rfl) HO8.out
        have HR8:=Lib.hid hr8
        clear HO8 hr8
        have hlen1:(ms.length != mt.length)=false:=by simp[hmtl]
        have hmml:mm.length≤1000:=by
          have h1:=congrArg List.length HMM.out
          rw[List.length_map]at h1
          have h2:=rows_len x (q:Int) (rowF x (q:Int)) (xs++[(xp,x1,x2)]) HOK.out
          rw[List.length_append]at h2
          simp only[List.length_cons,List.length_nil]at h2
          omega
        have HFI:=Lib.hid (fun W (hW:Below w8.heap.size w8 W) k=>find_any A8 mm.length c8 mm (q:Int) k W (HR8.out.next hW) (fun m hm=>(HJM.out m hm).next hW) hmml (fun m hm=>HPL.out (xs++[(xp,x1,x2)]) (by rw[List.length_append];simp;omega) m.p (by rw[←HMM.out];exact List.mem_map_of_mem hm)))
        rw[HMM.out]at HFI
        have HBW8:=Lib.hid (below_next HB6.out HB8.out)
        try rw[hmtl]
        have hll2:((ms.length:Int) != (ms.length:Int))=false:=by simp
        go_wp2_with fail
        go_loopw [19] (fun iv wr=>∃ (i:Nat),i≤ms.length∧iv=.int .i64 (i:Int)∧Hid (Below w8.heap.size w8 wr)) (fun iv _=>ms.length - (intOf iv).toNat)
        case atStart=>exact⟨0,Nat.zero_le _,rfl,Lib.hid (Below.refl _ _)⟩
        case round =>
          obtain⟨i,hi,rfl,HB⟩:=hrel
          generalize wr=W7 at *
          rcases Nat.lt_or_ge i ms.length with hlt|hge
          · have hi0 : (i : Int) < (ms.length : Int) := by omega
            have hi1:(0:Int)≤(i:Int):=by omega
            obtain⟨b5,o5,m,e5,hbl,hx,hcl⟩:=HR5.out.at_ hlt
            subst e5
            have HBm:=Lib.hid (below_next HN6.out (below_next HB8.out HB.out))
            have hpm:m.p∈rowsP x (q:Int) (rowF x (q:Int)) xs:=by rw[←HMP.out];exact List.mem_map_of_mem (List.mem_of_getElem? hx)
            have HPX:=Lib.hid (HPL.out xs (by omega) m.p hpm)
            have HJ5:=Lib.hid (HJR.out m (List.mem_of_getElem? hx))
            obtain⟨p2,hf2,hi2,hu2,hsub,hnin⟩:=grow_key (x:=x) (r:=(q:Int)) (own:=rowF x (q:Int)) (L:=xs) (M:=xs++[(xp,x1,x2)]) (fun y hy=>List.mem_append.2 (.inl hy)) hpm
            have HP2:=Lib.hid (HPL.out (xs++[(xp,x1,x2)]) (by rw[List.length_append];simp;omega) p2 (findR_mem hf2))
            obtain⟨b6,o6,m6,e6,hbl6,hx6,hcl6⟩:=HR6.out.at_ (show i<mt.length by omega)
            subst e6
            have HJ6:=Lib.hid (HJT.out m6 (List.mem_of_getElem? hx6))
            have hpp:m6.p=m.p:=by
              have h1:(mt.map PMr.p)[i]?=(ms.map PMr.p)[i]?:=by rw[HEQ.out]
              rw[List.getElem?_map,List.getElem?_map,hx,hx6]at h1
              simpa using h1
            obtain⟨⟨pr,ri,ru,⟨ks,kg⟩,px⟩,pA,pc⟩:=m
            obtain⟨p6,pA6,pc6⟩:=m6
            dsimp only at hpp
            subst hpp
            dsimp only at hf2 hi2 hu2 hsub hnin HPX HJ5 HJ6
            have HSUB:=Lib.hid hsub
            have HNIN:=Lib.hid hnin
            clear hsub hnin hpm
            obtain⟨r2,i2,u2,⟨ks2,kg2⟩,px2⟩:=p2
            dsimp only at hi2 hu2 HSUB HP2
            obtain rfl:=hi2.symm
            obtain rfl:=hu2.symm
            have HFF:=Lib.hid (fun W (hW:Below W7.heap.size W7 W)=>HFI.out W (below_next HB.out hW) (ks,kg))
            rw[hf2]at HFF
            clear hf2
            have CC:=Lib.hid (fun W (hW:Below W7.heap.size W7 W) j (v:Value) (hv:(CRw ⟨⟨pr,ri,ru,(ks,kg),px⟩,pA,pc⟩)[j]?=some v)=>((below_next HBm.out hW).cell (p:=⟨b5,o5+i*6+j,none⟩) hbl).trans (hcl j v hv))
            have CD:=Lib.hid (fun W (hW:Below W7.heap.size W7 W) j (v:Value) (hv:(CRw ⟨⟨pr,ri,ru,(ks,kg),px⟩,pA6,pc6⟩)[j]?=some v)=>((below_next (below_next HB8.out HB.out) hW).cell (p:=⟨b6,o6+i*6+j,none⟩) hbl6).trans (hcl6 j v hv))
            have HJA:=Lib.hid (fun W (hW:Below W7.heap.size W7 W)=>HJ5.out.next (below_next HBm.out hW))
            have HJB:=Lib.hid (fun W (hW:Below W7.heap.size W7 W)=>HJ6.out.next (below_next (below_next HB8.out HB.out) hW))
            have hi2':(i:Int)<(mt.length:Int):=by omega
            have t3:W7.cell? ⟨b5,o5+i*6+3,none⟩=some (.int .u32 ks):=CC.out W7 (Below.refl _ _) 3 _ rfl
            have t4:W7.cell? ⟨b5,o5+i*6+4,none⟩=some (.int .u32 kg):=CC.out W7 (Below.refl _ _) 4 _ rfl
            clear hcl hcl6 hbl hbl6 hx hx6
            have HF7:=Lib.hid (HFF.out W7 (Below.refl _ _))
            go_upto_region 20 with (go_at_call 39;refine HF7.out.mono ?_;rintro e w9 ⟨⟨A9,c9,rfl,hj9⟩,hb9⟩;have HJ9:=Lib.hid hj9;have HN9:=Lib.hid hb9;clear hj9 hb9)
            clear t3 t4 HF7 HFF
            try dsimp only at HJ9
            have HKv:=Lib.hid (Blk.new w9 83 #[.int .i64 r2,.int .i64 ri,.int .i64 ru,.int .u32 ks2,.int .u32 kg2,.slice A9 px2.length c9])
            have HNv:=Lib.hid (HN9.out.alloc HN9.out.size (.cells #[.int .i64 r2,.int .i64 ri,.int .i64 ru,.int .u32 ks2,.int .u32 kg2,.slice A9 px2.length c9] 83))
            have HJv:=Lib.hid (HJ9.out.next ((Below.refl w9.heap.size w9).alloc (Nat.le_refl _) (.cells #[.int .i64 r2,.int .i64 ri,.int .i64 ru,.int .u32 ks2,.int .u32 kg2,.slice A9 px2.length c9] 83)))
            generalize w9.alloc (.cells #[.int .i64 r2,.int .i64 ri,.int .i64 ru,.int .u32 ks2,.int .u32 kg2,.slice A9 px2.length c9] 83)=Wv at *
            generalize w9.heap.size=Nv at HKv ⊢
            have a0:∀s:Snc Wv,s.W.cell? ⟨b5,o5+i*6,none⟩=some (.int .i64 pr):=fun s=>CC.out s.W (below_next HNv.out s.b) 0 _ rfl
            have a1:∀s:Snc Wv,s.W.cell? ⟨b5,o5+i*6+1,none⟩=some (.int .i64 ri):=fun s=>CC.out s.W (below_next HNv.out s.b) 1 _ rfl
            have a2:∀s:Snc Wv,s.W.cell? ⟨b5,o5+i*6+2,none⟩=some (.int .i64 ru):=fun s=>CC.out s.W (below_next HNv.out s.b) 2 _ rfl
            have a3:∀s:Snc Wv,s.W.cell? ⟨b5,o5+i*6+3,none⟩=some (.int .u32 ks):=fun s=>CC.out s.W (below_next HNv.out s.b) 3 _ rfl
            have a4:∀s:Snc Wv,s.W.cell? ⟨b5,o5+i*6+4,none⟩=some (.int .u32 kg):=fun s=>CC.out s.W (below_next HNv.out s.b) 4 _ rfl
            have a5:∀s:Snc Wv,s.W.cell? ⟨b5,o5+i*6+5,none⟩=some (.slice pA px.length pc):=fun s=>CC.out s.W (below_next HNv.out s.b) 5 _ rfl
            have b0:∀s:Snc Wv,s.W.cell? ⟨b6,o6+i*6,none⟩=some (.int .i64 pr):=fun s=>CD.out s.W (below_next HNv.out s.b) 0 _ rfl
            have b1:∀s:Snc Wv,s.W.cell? ⟨b6,o6+i*6+1,none⟩=some (.int .i64 ri):=fun s=>CD.out s.W (below_next HNv.out s.b) 1 _ rfl
            have b2:∀s:Snc Wv,s.W.cell? ⟨b6,o6+i*6+2,none⟩=some (.int .i64 ru):=fun s=>CD.out s.W (below_next HNv.out s.b) 2 _ rfl
            have b3:∀s:Snc Wv,s.W.cell? ⟨b6,o6+i*6+3,none⟩=some (.int .u32 ks):=fun s=>CD.out s.W (below_next HNv.out s.b) 3 _ rfl
            have b4:∀s:Snc Wv,s.W.cell? ⟨b6,o6+i*6+4,none⟩=some (.int .u32 kg):=fun s=>CD.out s.W (below_next HNv.out s.b) 4 _ rfl
            have b5':∀s:Snc Wv,s.W.cell? ⟨b6,o6+i*6+5,none⟩=some (.slice pA6 px.length pc6):=fun s=>CD.out s.W (below_next HNv.out s.b) 5 _ rfl
            have v1:∀s:Snc Wv,s.W.cell? ⟨Nv,1,none⟩=some (.int .i64 ri):=fun s=>(HKv.out.next s.b).cell 1
            have v2:∀s:Snc Wv,s.W.cell? ⟨Nv,2,none⟩=some (.int .i64 ru):=fun s=>(HKv.out.next s.b).cell 2
            have R1:∀P:Snc Wv,Calls Tryz.prog 35 #[.agg #[.int .i64 pr,.int .i64 ri,.int .i64 ru,.int .u32 ks,.int .u32 kg,.slice pA px.length pc],.agg #[.int .i64 pr,.int .i64 ri,.int .i64 ru,.int .u32 ks,.int .u32 kg,.slice pA6 px.length pc6]] P.W fun e w'=>e=.returned (.bool true)∧∃Q:Snc Wv,w'=Q.W:=fun P=>Calls.since (by
              have:=wsame_any ⟨pr,ri,ru,(ks,kg),px⟩ ⟨pr,ri,ru,(ks,kg),px⟩ pA pA6 pc pc6 P.W (HJA.out P.W (below_next HNv.out P.b)) (HJB.out P.W (below_next HNv.out P.b)) HPX.out HPX.out
              rw[sameR_self]at this
              exact this)
            refine wp_region_since (by kernel_rfl) (by kernel_rfl) ?_
            try simp only[List.append_eq,List.cons_append,List.nil_append]
            repeat (go_big_quiet_step ((go_at_call 35;with_reducible exact R1 _)))
            refine wpQuiet_nil ?_
            rintro w9_ ⟨P9_,rfl⟩
            have HNx:=Lib.hid (below_next HNv.out P9_.b)
            have HKx:=Lib.hid (HKv.out.next P9_.b)
            have HJx:=Lib.hid (HJv.out.next P9_.b)
            generalize P9_.W=Wx at *
            clear a0 a1 a2 a3 a4 a5 b0 b1 b2 b3 b4 b5' v1 v2 R1 HKv HJv HJB CD
            have hpx:=HPX.out
            have hpx2:=HP2.out
            go_wp2_with fail
            go_loopw [22] (fun jv wr=>∃ (j:Nat),j≤px.length∧jv=.int .i64 (j:Int)∧Hid (Below Wx.heap.size Wx wr)) (fun jv _=>px.length - (intOf jv).toNat)
            case atStart=>exact⟨0,Nat.zero_le _,rfl,Lib.hid (Below.refl _ _)⟩
            case round =>
              obtain⟨j,hj,rfl,HBj⟩:=hrel
              have HBX:=Lib.hid (below_next HNx.out HBj.out)
              have t5:wr.cell? ⟨b5,o5+i*6+5,none⟩=some (.slice pA px.length pc):=CC.out wr HBX.out 5 _ rfl
              rcases Nat.lt_or_ge j px.length with hjl|hjg
              · have hj0 : (j : Int) < (px.length : Int) := by omega
                have hj1:(0:Int)≤(j:Int):=by omega
                go_upto_region 25 with fail
                clear t5
                obtain⟨bo,oo,hpA,hblo,hco⟩:=(HJA.out wr HBX.out).at_ hjl
                have hpk:px[j]?=some (px.getD j 0):=by rw[List.getD_eq_getElem?_getD,List.getElem?_eq_getElem hjl];rfl
                have hin2:px2.contains (px.getD j 0)=true:=by rw[List.contains_iff_mem];exact HSUB.out _ (List.mem_of_getElem? hpk)
                have hne2:(px.getD j 0==ri)=false:=by
                  rw[beq_eq_false_iff_ne]
                  intro e
                  exact HNIN.out (e ▸ List.mem_of_getElem? hpk)
                subst hpA
                have a1:∀s:Snc wr,s.W.cell? ⟨b5,o5+i*6+1,none⟩=some (.int .i64 ri):=fun s=>CC.out s.W (below_next HBX.out s.b) 1 _ rfl
                have a5:∀s:Snc wr,s.W.cell? ⟨b5,o5+i*6+5,none⟩=some (.slice (some ⟨bo,oo,none⟩) px.length pc):=fun s=>CC.out s.W (below_next HBX.out s.b) 5 _ rfl
                have v5:∀s:Snc wr,s.W.cell? ⟨Nv,5,none⟩=some (.slice A9 px2.length c9):=fun s=>((HKx.out.next HBj.out).next s.b).cell 5
                have g1:∀s:Snc wr,s.W.cell? ⟨bo,oo+j,none⟩=some (.int .i64 (px.getD j 0)):=fun s=>(s.b.cell (p:=⟨bo,oo+j,none⟩) hblo).trans hco
                have R1:∀P:Snc wr,Calls Tryz.prog 42 #[.slice A9 px2.length c9,.int .i64 (px.getD j 0)] P.W fun e w'=>e=.returned (.bool true)∧∃Q:Snc wr,w'=Q.W:=fun P=>Calls.since (by
                  have:=among_any A9 px2.length c9 px2 (px.getD j 0) P.W (HJx.out.next (below_next HBj.out P.b)) (by omega)
                  rw[hin2]at this
                  exact this)
                clear hco hpk hin2
                generalize px.getD j 0=pk at *
                refine wp_region_since (by kernel_rfl) (by kernel_rfl) ?_
                try simp only[List.append_eq,List.cons_append,List.nil_append]
                repeat (go_big_quiet_step ((go_at_call 42;with_reducible exact R1 _)))
                refine wpQuiet_nil ?_
                rintro w9_ ⟨P8_,rfl⟩
                have HBZ:=Lib.hid (below_next HBj.out P8_.b)
                clear a1 a5 v5 g1 R1
                go_wp2_with fail
                go_roundw
                case rel=>exact⟨j+1,by omega,by go_num,HBZ⟩
                case measure=>simp[intOf];omega
              · obtain rfl : j = px.length := by omega
                have hd2:decide ((px.length:Int)<(px.length:Int))=false:=by simp
                go_wp2_with fail
                go_roundw
                case rel=>exact⟨i+1,by omega,by go_num,Lib.hid (below_next HB.out HBX.out)⟩
                case measure=>simp[intOf];omega
          · obtain rfl : i = ms.length := by omega
            have d1:decide ((ms.length:Int)<(ms.length:Int))=false:=by simp
            go_wp2
            go_ret
            exact⟨rfl,HB4.out.trans ((below_next HBW8.out HB.out).mono HB4.out.size)⟩
end Go.Proofs.YtfidicbknjoafaaGreatDoor
