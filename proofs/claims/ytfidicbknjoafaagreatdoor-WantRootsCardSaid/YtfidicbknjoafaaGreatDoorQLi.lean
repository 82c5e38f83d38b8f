/- rivuletnet. -/
import Derived.Test.YtfidicbknjoafaaGreatDoorQCg
import Derived.RangeFuncBox
import Derived.Deep.Cut
namespace Go.Proofs.YtfidicbknjoafaaGreatDoor
open Go.RowKit Lx Sm Go.Maps Go.Sort Go.Shelf
set_option maxHeartbeats 16000000 in
set_option maxRecDepth 20000 in
theorem line_any (n r:Nat) (hn:n≤8) (hr:r<100) (w:World) :
  Calls Tryz.prog 43 #[.int .i64 (n:Int),.int .i64 (r:Int)] w fun e w'=>∃M':Cm,e=.returned (.agg #[.slice M'.r.A M'.r.n M'.r.c,.slice M'.l.A M'.l.n M'.l.c,.slice M'.p.A M'.p.n M'.p.c,.slice M'.o.A M'.o.n M'.o.c,.slice M'.g.A M'.g.n M'.g.c,.slice M'.s.A M'.s.n M'.s.c,.slice M'.m.A M'.m.n M'.m.c])∧CW w' M' (lineCfg n r)∧Below w.heap.size w w':=by
 go_enter Tryz.func43,Tryz.ntmps43
 go_wp2
 have hI0:LIl w (w.heap.size+1) w.heap.size (.slice none 0 0) (.slice none 0 0) (.slice none 0 0) (.slice none 0 0) (rsK 0) (lsK 0) (psK 0) (osK n 0) ((w.alloc (.cells #[.slice none 0 0,.slice none 0 0,.slice none 0 0,.slice none 0 0,.slice none 0 0,.slice none 0 0,.slice none 0 0] 30)).alloc (.cells #[.slice none 0 0,.slice none 0 0,.slice none 0 0,.slice none 0 0,.slice none 0 0,.slice none 0 0,.slice none 0 0] 30)):=by
  refine⟨((Below.refl _ _).alloc (Nat.le_refl _) _).alloc (by simp) _,by omega,Nat.le_refl _,by omega,?_,?_,World.ownsRow_nil _ _ _ _,World.ownsRow_nil _ _ _ _,World.ownsRow_nil _ _ _ _,World.ownsRow_nil _ _ _ _⟩
  ·have:=Blk.new (w.alloc (.cells #[.slice none 0 0,.slice none 0 0,.slice none 0 0,.slice none 0 0,.slice none 0 0,.slice none 0 0,.slice none 0 0] 30)) 30 #[.slice none 0 0,.slice none 0 0,.slice none 0 0,.slice none 0 0,.slice none 0 0,.slice none 0 0,.slice none 0 0]
   simpa using this
  ·exact ((Blk.new w 30 #[.slice none 0 0,.slice none 0 0,.slice none 0 0,.slice none 0 0,.slice none 0 0,.slice none 0 0,.slice none 0 0]).alloc _).slot
 generalize (w.alloc (.cells #[.slice none 0 0,.slice none 0 0,.slice none 0 0,.slice none 0 0,.slice none 0 0,.slice none 0 0,.slice none 0 0] 30)).alloc (.cells #[.slice none 0 0,.slice none 0 0,.slice none 0 0,.slice none 0 0,.slice none 0 0,.slice none 0 0,.slice none 0 0] 30)=W0 at *
 generalize hN:w.heap.size+1=N at *
 generalize hR:w.heap.size=R at hI0 ⊢
 clear hN
 have HI0:=Lib.hid hI0
 clear hI0
 go_loopw [6] (fun i wr=>∃ (k:Nat) (vl:Value),k≤n+1∧i=.int .i64 k∧Hid (LIl w N R (.slice none 0 0) vl (.slice none 0 0) (.slice none 0 0) (rsK 0) (lsK k) (psK 0) (osK n 0) wr)) (fun i _=>n+1 - (intOf i).toNat)
 case atStart=>exact⟨0,_,Nat.zero_le _,rfl,HI0⟩
 case round =>
  obtain⟨k,vl,hk,rfl,HI⟩:=hrel
  rcases Nat.lt_or_ge k (n+1) with hlt|hge
  ·have hi0:(k:Int)≤(n:Int):=by omega
   go_wp2
   have CN:Hid (wr.cell? ⟨N,1,none⟩=some vl):=Lib.hid (HI.out.blk.cell 1)
   have RN:Hid (vl.ownBlock ≠ some N):=Lib.hid (row_not HI.out.blk HI.out.l (by decide))
   have HVO:=Lib.hid HI.out.l
   have HVLT:Hid (∀g,vl.ownBlock=some g→g<wr.heap.size):=Lib.hid fun g hg=>(HVO.out.lt g hg).2
   have HLO5:Hid (w.heap.size≤wr.heap.size):=Lib.hid HI.out.lo.size
   have HLL:Hid ((lsK k).length≤1000):=Lib.hid (by rw[lsK_len];omega)
   refine wp_region_held_drew (S:=fun _=>True) (by kernel_rfl) trivial (fun _=>?_)
   refine wpAnyH_each (md:=.any) (m:=1) (rem:=[0,1,2,3,4,5,6]) (tail:=[7]) (deps:=fun i=>match i with | 1=>[0] | 3=>[2] | 4=>[3] | 5=>[1,4] | _=>[]) (Tg wr vl.ownBlock 5) (Kl vl.ownBlock 5)
    (fun ix ds v W=>match ix with | 0=>v=.pointer (some ⟨N,1,none⟩) | 1=>v=vl | 2=>v=.int .i64 ((k:Nat):Int) | 3=>v=.agg #[.string (str (nm 108 k)),.int .u32 (adr k 0),.int .i64 24] | 4=>∃h,v=.slice (some ⟨h,0,none⟩) 1 1∧wr.heap.size≤h∧Blk W h 127 #[.string (str (nm 108 k)),.int .u32 (adr k 0),.int .i64 24] | 5=>W.ownsRow w.heap.size 127 3 v ((lsK k)++[(nm 108 k,adr k 0,24)]).length (((lsK k)++[(nm 108 k,adr k 0,24)]).flatMap CLink) | 6=>v=.pointer (some ⟨N,1,none⟩) | _=>True) (eachB_spec (by kernel_rfl)) (fun _ _ _ _ _ _ _ h k=>h.stepl k) (fun _ _ _=>trivial) ?_ (fun _ _ _ _=>True) (fun _ _ _ _ _ _ _ _ _ _ _ _ _ _=>⟨trivial,trivial⟩) ?_ ?_ (Tg.nil (Below.refl _ _).drew)
   ·intro i hi j _ hij hjd ds v u l W W' _ _ hk h
    simp only[List.mem_cons,List.not_mem_nil,or_false]at hi
    rcases hi with rfl|rfl|rfl|rfl|rfl|rfl|rfl
    ·exact h
    ·exact h
    ·exact h
    ·exact h
    ·obtain⟨h',e,hs,hb⟩:=h
     exact⟨h',e,hs,(hk.grown.block h' hb.lt (fun e=>by have:=HVLT.out h' e.symm;omega)).trans hb⟩
    ·exact ownk_next h (hk.below (Ne.symm hij))
    ·exact h
   ·refine AllO.cons [] rfl rfl (fun vs l W hl hT hd=>?_) ?_
    ·dsimp only[lay,List.foldl,List.map,dstOf]
     go_wp2
     exact⟨rfl,_,rfl,Kl.mk (by decide) (Below.refl _ _),rfl⟩
    refine AllO.cons [0] rfl rfl (fun vs l W hl hT hd=>?_) ?_
    ·have e0:vs 0=.pointer (some ⟨N,1,none⟩):=hd 0 (by simp)
     have c3:W.cell? ⟨N,1,none⟩=some vl:=hT.cell CN.out RN.out
     dsimp only[lay,List.foldl,List.map,dstOf]
     rw[e0]
     go_wp2
     exact⟨rfl,_,rfl,Kl.mk (by decide) (Below.refl _ _),rfl⟩
    refine AllO.cons [] rfl rfl (fun vs l W hl hT hd=>?_) ?_
    ·dsimp only[lay,List.foldl,List.map,dstOf]
     go_wp2
     exact⟨rfl,_,rfl,Kl.mk (by decide) (Below.refl _ _),rfl⟩
    refine AllO.cons [2] rfl rfl (fun vs l W hl hT hd=>?_) ?_
    ·have e2:vs 2=.int .i64 ((k:Nat):Int):=hd 2 (by simp)
     have hC:=Lib.hid (nlink_any k (by omega) W)
     dsimp only[lay,List.foldl,List.map,dstOf]
     rw[e2]
     go_wp2_with (go_at_call 82;refine hC.out.mono ?_;rintro e w1 ⟨rfl,hb1⟩)
     exact⟨rfl,_,rfl,Kl.mk (by decide) hb1,rfl⟩
    refine AllO.cons [3] rfl rfl (fun vs l W hl hT hd=>?_) ?_
    ·have e3:vs 3=.agg #[.string (str (nm 108 k)),.int .u32 (adr k 0),.int .i64 24]:=hd 3 (by simp)
     dsimp only[lay,List.foldl,List.map,dstOf]
     rw[e3]
     go_wp2
     exact⟨rfl,_,rfl,Kl.mk (by decide) ((Below.refl _ _).alloc (Nat.le_refl _) _),_,rfl,hT.grown.size,Blk.new _ _ _⟩
    refine AllO.cons [1,4] rfl rfl (fun vs l W hl hT hd=>?_) ?_
    ·have e1:vs 1=vl:=hd 1 (by simp)
     obtain⟨h',e4,hs',hb'⟩:=hd 4 (by simp)
     dsimp only[lay,List.foldl,List.map,dstOf]
     rw[e1,e4]
     obtain⟨i0,z0,hi,hz,hzs,hsz,hby⟩:=info_link
     have hbp:=hT.pre hl
     refine wpList_append_own_at _ rfl _ _ 23 rfl w.heap.size 127 i0 z0 3 32 Tryz.underlying23 hi hz hsz hby hzs (by decide) vl (lsK k).length ((lsK k).flatMap CLink) (by rfl) (ownk_next HVO.out hbp) ⟨h',0,none⟩ 1 1 ([(nm 108 k,adr k 0,24)].flatMap CLink) (by rfl) (by rfl) (blk_news hb' (by rfl)) (fun u hu=>by
      obtain⟨y,_,hy⟩:=List.mem_flatMap.1 hu
      exact link_one y u hy) (by have:=HLL.out;unfold maxLen;omega) (by have:=HLL.out;omega) (Nat.le_trans HLO5.out hT.grown.size) ?_
     intro v' w' hown hg _ _
     refine wpList_nil ?_
     exact⟨rfl,_,rfl,Kl.app hg,by rw[List.length_append,List.flatMap_append];exact hown⟩
    refine AllO.cons [] rfl rfl (fun vs l W hl hT hd=>?_) AllO.nil
    ·dsimp only[lay,List.foldl,List.map,dstOf]
     go_wp2
     exact⟨rfl,_,rfl,Kl.mk (by decide) (Below.refl _ _),rfl⟩
   ·intro vs l W hall hT hF _ aE LE ha hL
    have e0:vs 0=.pointer (some ⟨N,1,none⟩):=hF 0 (by simp)
    have e1:vs 1=vl:=hF 1 (by simp)
    have e2:vs 2=.int .i64 ((k:Nat):Int):=hF 2 (by simp)
    have e3:vs 3=.agg #[.string (str (nm 108 k)),.int .u32 (adr k 0),.int .i64 24]:=hF 3 (by simp)
    have e6:vs 6=.pointer (some ⟨N,1,none⟩):=hF 6 (by simp)
    obtain⟨hbs,e4,-,-⟩:=hF 4 (by simp)
    have hown16:=hF 5 (by simp)
    have hL':LE=#[true,true,true,true,true,true,true,false]:=hL.trans (by kernel_rfl)
    dsimp only[lay,List.foldl,dstOf]at ha
    rw[e0,e1,e2,e3,e4,e6]at ha
    clear e0 e1 e2 e3 e4 e6 hL hF
    subst ha hL'
    generalize vs 5=v16 at *
    obtain⟨g16,cap16,rfl⟩:=own_some hown16 (by simp only[List.length_append,List.length_cons];omega)
    have c13:W.cell? ⟨N,1,none⟩=some vl:=hT.cell CN.out RN.out
    have f13:W.frozen? ⟨N,1,none⟩=false:=(hT.blk HI.out.blk RN.out).frozen _
    have HI6:=Lib.hid (HI.out.step_l hT.grown hown16)
    refine wpAnyH_ready (rs:=[7]) (by kernel_rfl) (by simp) ?_
    refine AllReadyH.cons rfl (fun K hK=>?_) AllReadyH.nil
    generalize ((lsK k)++[(nm 108 k,adr k 0,24)]).length=LN at *
    go_simp
    refine hK.out _ _ trivial (fun _=>?_)
    clear hK
    clear K
    refine wpAnyH_done (by kernel_rfl) ?_ _
    clear c13 f13 hown16 hall hT
    generalize W.setCell ⟨N,1,none⟩ (.slice (some ⟨g16,0,none⟩) LN cap16)=W6 at *
    clear CN RN HVO HVLT HLO5 HLL
    rw[←lsK_s]at HI6
    go_wp2
    go_roundw
    case rel=>exact⟨k+1,_,by omega,by go_num,HI6⟩
    case measure=>simp[intOf];omega
  ·have hk1:k=n+1:=by omega
   have hk2:(k:Int)=(n:Int)+1:=by omega
   rw[hk2]
   clear hk2
   subst hk1
   go_wp2
   go_loopw [7] (fun i wr=>∃ (k:Nat) (vr vp:Value),k≤n∧i=.int .i64 k∧Hid (LIl w N R vr vl vp (.slice none 0 0) (rsK k) (lsK (n+1)) (psK k) (osK n 0) wr)) (fun i _=>n - (intOf i).toNat)
   case atStart=>exact⟨0,_,_,Nat.zero_le _,rfl,HI⟩
   case round =>
    clear HI
    obtain⟨k,vr,vp,hk2,rfl,HI⟩:=hrel
    rcases Nat.lt_or_ge k n with hlt|hge
    ·have hi0:(k:Int)<(n:Int):=by omega
     go_wp2
     have CN:Hid (wr.cell? ⟨N,0,none⟩=some vr):=Lib.hid (HI.out.blk.cell 0)
     have RN:Hid (vr.ownBlock ≠ some N):=Lib.hid (row_not HI.out.blk HI.out.r (by decide))
     have HVO:=Lib.hid HI.out.r
     have HVLT:Hid (∀g,vr.ownBlock=some g→g<wr.heap.size):=Lib.hid fun g hg=>(HVO.out.lt g hg).2
     have HLO5:Hid (w.heap.size≤wr.heap.size):=Lib.hid HI.out.lo.size
     have HLL:Hid ((rsK k).length≤1000):=Lib.hid (by rw[rsK_len];omega)
     refine wp_region_held_drew (S:=fun _=>True) (by kernel_rfl) trivial (fun _=>?_)
     refine wpAnyH_each (md:=.any) (m:=1) (rem:=[0,1,2,3,4,5,6,7]) (tail:=[8]) (deps:=fun i=>match i with | 1=>[0] | 3=>[2] | 4=>[3] | 5=>[4] | 6=>[1,5] | _=>[]) (Tg wr vr.ownBlock 6) (Kl vr.ownBlock 6)
      (fun ix ds v W=>match ix with | 0=>v=.pointer (some ⟨N,0,none⟩) | 1=>v=vr | 2=>v=.int .i64 ((k:Nat):Int) | 3=>v=.string (str (nm 114 k)) | 4=>v=.agg #[.string (str (nm 114 k)),.int .i64 1] | 5=>∃h,v=.slice (some ⟨h,0,none⟩) 1 1∧wr.heap.size≤h∧Blk W h 165 #[.string (str (nm 114 k)),.int .i64 1] | 6=>W.ownsRow w.heap.size 165 2 v ((rsK k)++[(nm 114 k,1)]).length (((rsK k)++[(nm 114 k,1)]).flatMap CRouter) | 7=>v=.pointer (some ⟨N,0,none⟩) | _=>True) (eachB_spec (by kernel_rfl)) (fun _ _ _ _ _ _ _ h k=>h.stepl k) (fun _ _ _=>trivial) ?_ (fun _ _ _ _=>True) (fun _ _ _ _ _ _ _ _ _ _ _ _ _ _=>⟨trivial,trivial⟩) ?_ ?_ (Tg.nil (Below.refl _ _).drew)
     ·intro i hi j _ hij hjd ds v u l W W' _ _ hk h
      simp only[List.mem_cons,List.not_mem_nil,or_false]at hi
      rcases hi with rfl|rfl|rfl|rfl|rfl|rfl|rfl|rfl
      ·exact h
      ·exact h
      ·exact h
      ·exact h
      ·exact h
      ·obtain⟨h',e,hs,hb⟩:=h
       exact⟨h',e,hs,(hk.grown.block h' hb.lt (fun e=>by have:=HVLT.out h' e.symm;omega)).trans hb⟩
      ·exact ownk_next h (hk.below (Ne.symm hij))
      ·exact h
     ·refine AllO.cons [] rfl rfl (fun vs l W hl hT hd=>?_) ?_
      ·dsimp only[lay,List.foldl,List.map,dstOf]
       go_wp2
       exact⟨rfl,_,rfl,Kl.mk (by decide) (Below.refl _ _),rfl⟩
      refine AllO.cons [0] rfl rfl (fun vs l W hl hT hd=>?_) ?_
      ·have e0:vs 0=.pointer (some ⟨N,0,none⟩):=hd 0 (by simp)
       have c3:W.cell? ⟨N,0,none⟩=some vr:=hT.cell CN.out RN.out
       dsimp only[lay,List.foldl,List.map,dstOf]
       rw[e0]
       go_wp2
       exact⟨rfl,_,rfl,Kl.mk (by decide) (Below.refl _ _),rfl⟩
      refine AllO.cons [] rfl rfl (fun vs l W hl hT hd=>?_) ?_
      ·dsimp only[lay,List.foldl,List.map,dstOf]
       go_wp2
       exact⟨rfl,_,rfl,Kl.mk (by decide) (Below.refl _ _),rfl⟩
      refine AllO.cons [2] rfl rfl (fun vs l W hl hT hd=>?_) ?_
      ·have e2:vs 2=.int .i64 ((k:Nat):Int):=hd 2 (by simp)
       have hC:=Lib.hid (nname_any k (by omega) 114 (.inr rfl) W)
       dsimp only[lay,List.foldl,List.map,dstOf]
       rw[e2]
       go_wp2_with (go_at_call 83;refine hC.out.mono ?_;rintro e w1 ⟨rfl,rfl⟩)
       exact⟨rfl,_,(by first|rfl|(simp[Act.put];omega)),Kl.mk (by decide) (Below.refl _ _),rfl⟩
      refine AllO.cons [3] rfl rfl (fun vs l W hl hT hd=>?_) ?_
      ·have e3:vs 3=.string (str (nm 114 k)):=hd 3 (by simp)
       dsimp only[lay,List.foldl,List.map,dstOf]
       rw[e3]
       go_wp2
       exact⟨rfl,_,rfl,Kl.mk (by decide) (Below.refl _ _),rfl⟩
      refine AllO.cons [4] rfl rfl (fun vs l W hl hT hd=>?_) ?_
      ·have e4:vs 4=.agg #[.string (str (nm 114 k)),.int .i64 1]:=hd 4 (by simp)
       dsimp only[lay,List.foldl,List.map,dstOf]
       rw[e4]
       go_wp2
       exact⟨rfl,_,rfl,Kl.mk (by decide) ((Below.refl _ _).alloc (Nat.le_refl _) _),_,rfl,hT.grown.size,Blk.new _ _ _⟩
      refine AllO.cons [1,5] rfl rfl (fun vs l W hl hT hd=>?_) ?_
      ·have e1:vs 1=vr:=hd 1 (by simp)
       obtain⟨h',e5,hs',hb'⟩:=hd 5 (by simp)
       dsimp only[lay,List.foldl,List.map,dstOf]
       rw[e1,e5]
       obtain⟨i0,z0,hi,hz,hzs,hsz,hby⟩:=info_router
       have hbp:=hT.pre hl
       refine wpList_append_own_at _ rfl _ _ 22 rfl w.heap.size 165 i0 z0 2 24 Tryz.underlying22 hi hz hsz hby hzs (by decide) vr (rsK k).length ((rsK k).flatMap CRouter) (by rfl) (ownk_next HVO.out hbp) ⟨h',0,none⟩ 1 1 ([(nm 114 k,1)].flatMap CRouter) (by rfl) (by rfl) (blk_news hb' (by rfl)) (fun u hu=>by
        obtain⟨y,_,hy⟩:=List.mem_flatMap.1 hu
        exact router_one y u hy) (by have:=HLL.out;unfold maxLen;omega) (by have:=HLL.out;omega) (Nat.le_trans HLO5.out hT.grown.size) ?_
       intro v' w' hown hg _ _
       refine wpList_nil ?_
       exact⟨rfl,_,rfl,Kl.app hg,by rw[List.length_append,List.flatMap_append];exact hown⟩
      refine AllO.cons [] rfl rfl (fun vs l W hl hT hd=>?_) AllO.nil
      ·dsimp only[lay,List.foldl,List.map,dstOf]
       go_wp2
       exact⟨rfl,_,rfl,Kl.mk (by decide) (Below.refl _ _),rfl⟩
     ·intro vs l W hall hT hF _ aE LE ha hL
      have e0:vs 0=.pointer (some ⟨N,0,none⟩):=hF 0 (by simp)
      have e1:vs 1=vr:=hF 1 (by simp)
      have e2:vs 2=.int .i64 ((k:Nat):Int):=hF 2 (by simp)
      have e3:vs 3=.string (str (nm 114 k)):=hF 3 (by simp)
      have e4:vs 4=.agg #[.string (str (nm 114 k)),.int .i64 1]:=hF 4 (by simp)
      have e7:vs 7=.pointer (some ⟨N,0,none⟩):=hF 7 (by simp)
      obtain⟨hbs,e5,-,-⟩:=hF 5 (by simp)
      have hown16:=hF 6 (by simp)
      have hL':LE=#[true,true,true,true,true,true,true,true,false]:=hL.trans (by kernel_rfl)
      dsimp only[lay,List.foldl,dstOf]at ha
      rw[e0,e1,e2,e3,e4,e5,e7]at ha
      clear e0 e1 e2 e3 e4 e5 e7 hL hF
      subst ha hL'
      generalize vs 6=v16 at *
      obtain⟨g16,cap16,rfl⟩:=own_some hown16 (by simp only[List.length_append,List.length_cons];omega)
      have c13:W.cell? ⟨N,0,none⟩=some vr:=hT.cell CN.out RN.out
      have f13:W.frozen? ⟨N,0,none⟩=false:=(hT.blk HI.out.blk RN.out).frozen _
      have HI6:=Lib.hid (HI.out.step_r hT.grown hown16)
      refine wpAnyH_ready (rs:=[8]) (by kernel_rfl) (by simp) ?_
      refine AllReadyH.cons rfl (fun K hK=>?_) AllReadyH.nil
      generalize ((rsK k)++[(nm 114 k,1)]).length=LN at *
      go_simp
      refine hK.out _ _ trivial (fun _=>?_)
      clear hK
      clear K
      refine wpAnyH_done (by kernel_rfl) ?_ _
      clear c13 f13 hown16 hall hT
      generalize W.setCell ⟨N,0,none⟩ (.slice (some ⟨g16,0,none⟩) LN cap16)=W6 at *
      clear CN RN HVO HVLT HLO5 HLL
      rw[←rsK_s]at HI6
      clear HI
      go_wp2
      have CN:Hid (W6.cell? ⟨N,2,none⟩=some vp):=Lib.hid (HI6.out.blk.cell 2)
      have RN:Hid (vp.ownBlock ≠ some N):=Lib.hid (row_not HI6.out.blk HI6.out.p (by decide))
      have HVO:=Lib.hid HI6.out.p
      have HVLT:Hid (∀g,vp.ownBlock=some g→g<W6.heap.size):=Lib.hid fun g hg=>(HVO.out.lt g hg).2
      have HLO5:Hid (w.heap.size≤W6.heap.size):=Lib.hid HI6.out.lo.size
      have HLL:Hid ((psK k).length≤1000):=Lib.hid (by rw[psK_len];omega)
      refine wp_region_held_drew (S:=fun _=>True) (by kernel_rfl) trivial (fun _=>?_)
      refine wpAnyH_each (md:=.any) (m:=1) (rem:=[0,1,2,3,4,5,6,7,8,9,10,11]) (tail:=[12]) (deps:=fun i=>match i with | 1=>[0] | 4=>[2,3] | 7=>[6] | 8=>[5,7] | 9=>[4,8] | 10=>[1,9] | _=>[]) (Tg W6 vp.ownBlock 10) (Kl vp.ownBlock 10)
       (fun ix ds v W=>match ix with | 0=>v=.pointer (some ⟨N,2,none⟩) | 1=>v=vp | 2=>v=.int .i64 ((k:Nat):Int) | 3=>v=.int .i64 ((k:Nat):Int) | 4=>v=.agg #[.int .i64 ((k:Nat):Int),.int .i64 ((k:Nat):Int),.int .u32 (adr k (k+1))] | 5=>v=.int .i64 ((k:Nat):Int) | 6=>v=.int .i64 ((k:Nat):Int) | 7=>v=.int .i64 ((k:Int)+1) | 8=>v=.agg #[.int .i64 ((k:Nat):Int),.int .i64 ((k:Int)+1),.int .u32 (adr (k+1) (k+1))] | 9=>∃h,v=.slice (some ⟨h,0,none⟩) 2 2∧W6.heap.size≤h∧Blk W h 107 #[.int .i64 ((k:Nat):Int),.int .i64 ((k:Nat):Int),.int .u32 (adr k (k+1)),.int .i64 ((k:Nat):Int),.int .i64 ((k:Int)+1),.int .u32 (adr (k+1) (k+1))] | 10=>W.ownsRow w.heap.size 107 3 v ((psK k)++[((k:Int),(k:Int),adr k (k+1)),((k:Int),(k:Int)+1,adr (k+1) (k+1))]).length (((psK k)++[((k:Int),(k:Int),adr k (k+1)),((k:Int),(k:Int)+1,adr (k+1) (k+1))]).flatMap CPort) | 11=>v=.pointer (some ⟨N,2,none⟩) | _=>True) (eachB_spec (by kernel_rfl)) (fun _ _ _ _ _ _ _ h k=>h.stepl k) (fun _ _ _=>trivial) ?_ (fun _ _ _ _=>True) (fun _ _ _ _ _ _ _ _ _ _ _ _ _ _=>⟨trivial,trivial⟩) ?_ ?_ (Tg.nil (Below.refl _ _).drew)
      ·intro i hi j _ hij hjd ds v u l W W' _ _ hk h
       simp only[List.mem_cons,List.not_mem_nil,or_false]at hi
       rcases hi with rfl|rfl|rfl|rfl|rfl|rfl|rfl|rfl|rfl|rfl|rfl|rfl
       ·exact h
       ·exact h
       ·exact h
       ·exact h
       ·exact h
       ·exact h
       ·exact h
       ·exact h
       ·exact h
       ·obtain⟨h',e,hs,hb⟩:=h
        exact⟨h',e,hs,(hk.grown.block h' hb.lt (fun e=>by have:=HVLT.out h' e.symm;omega)).trans hb⟩
       ·exact ownk_next h (hk.below (Ne.symm hij))
       ·exact h
      ·refine AllO.cons [] rfl rfl (fun vs l W hl hT hd=>?_) ?_
       ·dsimp only[lay,List.foldl,List.map,dstOf]
        go_wp2
        exact⟨rfl,_,rfl,Kl.mk (by decide) (Below.refl _ _),rfl⟩
       refine AllO.cons [0] rfl rfl (fun vs l W hl hT hd=>?_) ?_
       ·have e0:vs 0=.pointer (some ⟨N,2,none⟩):=hd 0 (by simp)
        have c3:W.cell? ⟨N,2,none⟩=some vp:=hT.cell CN.out RN.out
        dsimp only[lay,List.foldl,List.map,dstOf]
        rw[e0]
        go_wp2
        exact⟨rfl,_,rfl,Kl.mk (by decide) (Below.refl _ _),rfl⟩
       refine AllO.cons [] rfl rfl (fun vs l W hl hT hd=>?_) ?_
       ·dsimp only[lay,List.foldl,List.map,dstOf]
        go_wp2
        exact⟨rfl,_,rfl,Kl.mk (by decide) (Below.refl _ _),rfl⟩
       refine AllO.cons [] rfl rfl (fun vs l W hl hT hd=>?_) ?_
       ·dsimp only[lay,List.foldl,List.map,dstOf]
        go_wp2
        exact⟨rfl,_,rfl,Kl.mk (by decide) (Below.refl _ _),rfl⟩
       refine AllO.cons [2,3] rfl rfl (fun vs l W hl hT hd=>?_) ?_
       ·have e2:vs 2=.int .i64 ((k:Nat):Int):=hd 2 (by simp)
        have e3:vs 3=.int .i64 ((k:Nat):Int):=hd 3 (by simp)
        have hC:=Lib.hid (nport_any k k (by omega) (by omega) W)
        dsimp only[lay,List.foldl,List.map,dstOf]
        rw[e2,e3]
        go_wp2_with (go_at_call 84;refine hC.out.mono ?_;rintro e w1 ⟨rfl,hb1⟩)
        exact⟨rfl,_,rfl,Kl.mk (by decide) hb1,rfl⟩
       refine AllO.cons [] rfl rfl (fun vs l W hl hT hd=>?_) ?_
       ·dsimp only[lay,List.foldl,List.map,dstOf]
        go_wp2
        exact⟨rfl,_,rfl,Kl.mk (by decide) (Below.refl _ _),rfl⟩
       refine AllO.cons [] rfl rfl (fun vs l W hl hT hd=>?_) ?_
       ·dsimp only[lay,List.foldl,List.map,dstOf]
        go_wp2
        exact⟨rfl,_,rfl,Kl.mk (by decide) (Below.refl _ _),rfl⟩
       refine AllO.cons [6] rfl rfl (fun vs l W hl hT hd=>?_) ?_
       ·have e6:vs 6=.int .i64 ((k:Nat):Int):=hd 6 (by simp)
        dsimp only[lay,List.foldl,List.map,dstOf]
        rw[e6]
        go_wp2
        exact⟨rfl,_,rfl,Kl.mk (by decide) (Below.refl _ _),rfl⟩
       refine AllO.cons [5,7] rfl rfl (fun vs l W hl hT hd=>?_) ?_
       ·have e5:vs 5=.int .i64 ((k:Nat):Int):=hd 5 (by simp)
        have e7:vs 7=.int .i64 ((k:Int)+1):=hd 7 (by simp)
        have hC:=Lib.hid ((by have h:=nport_any k (k+1) (by omega) (by omega) W;rw[show ((k+1:Nat):Int)=(k:Int)+1 by omega]at h;exact h:Calls Tryz.prog 84 #[.int .i64 ((k:Nat):Int),.int .i64 ((k:Int)+1)] W fun e w'=>e=.returned (.agg #[.int .i64 ((k:Nat):Int),.int .i64 ((k:Int)+1),.int .u32 (adr (k+1) (k+1))])∧Below W.heap.size W w'))
        dsimp only[lay,List.foldl,List.map,dstOf]
        rw[e5,e7]
        go_wp2_with (go_at_call 84;refine hC.out.mono ?_;rintro e w1 ⟨rfl,hb1⟩)
        exact⟨rfl,_,rfl,Kl.mk (by decide) hb1,rfl⟩
       refine AllO.cons [4,8] rfl rfl (fun vs l W hl hT hd=>?_) ?_
       ·have e4:vs 4=.agg #[.int .i64 ((k:Nat):Int),.int .i64 ((k:Nat):Int),.int .u32 (adr k (k+1))]:=hd 4 (by simp)
        have e8:vs 8=.agg #[.int .i64 ((k:Nat):Int),.int .i64 ((k:Int)+1),.int .u32 (adr (k+1) (k+1))]:=hd 8 (by simp)
        dsimp only[lay,List.foldl,List.map,dstOf]
        rw[e4,e8]
        go_wp2
        exact⟨rfl,_,rfl,Kl.mk (by decide) ((Below.refl _ _).alloc (Nat.le_refl _) _),_,rfl,hT.grown.size,Blk.new _ _ _⟩
       refine AllO.cons [1,9] rfl rfl (fun vs l W hl hT hd=>?_) ?_
       ·have e1:vs 1=vp:=hd 1 (by simp)
        obtain⟨h',e9,hs',hb'⟩:=hd 9 (by simp)
        dsimp only[lay,List.foldl,List.map,dstOf]
        rw[e1,e9]
        obtain⟨i0,z0,hi,hz,hzs,hsz,hby⟩:=info_port
        have hbp:=hT.pre hl
        refine wpList_append_own_at _ rfl _ _ 24 rfl w.heap.size 107 i0 z0 3 24 Tryz.underlying24 hi hz hsz hby hzs (by decide) vp (psK k).length ((psK k).flatMap CPort) (by rfl) (ownk_next HVO.out hbp) ⟨h',0,none⟩ 2 2 ([((k:Int),(k:Int),adr k (k+1)),((k:Int),(k:Int)+1,adr (k+1) (k+1))].flatMap CPort) (by rfl) (by rfl) (blk_news hb' (by rfl)) (fun u hu=>by
         obtain⟨y,_,hy⟩:=List.mem_flatMap.1 hu
         exact port_one y u hy) (by have:=HLL.out;unfold maxLen;omega) (by have:=HLL.out;omega) (Nat.le_trans HLO5.out hT.grown.size) ?_
        intro v' w' hown hg _ _
        refine wpList_nil ?_
        exact⟨rfl,_,rfl,Kl.app hg,by rw[List.length_append,List.flatMap_append];exact hown⟩
       refine AllO.cons [] rfl rfl (fun vs l W hl hT hd=>?_) AllO.nil
       ·dsimp only[lay,List.foldl,List.map,dstOf]
        go_wp2
        exact⟨rfl,_,rfl,Kl.mk (by decide) (Below.refl _ _),rfl⟩
      ·intro vs l W hall hT hF _ aE LE ha hL
       have e0:vs 0=.pointer (some ⟨N,2,none⟩):=hF 0 (by simp)
       have e1:vs 1=vp:=hF 1 (by simp)
       have e2:vs 2=.int .i64 ((k:Nat):Int):=hF 2 (by simp)
       have e3:vs 3=.int .i64 ((k:Nat):Int):=hF 3 (by simp)
       have e4:vs 4=.agg #[.int .i64 ((k:Nat):Int),.int .i64 ((k:Nat):Int),.int .u32 (adr k (k+1))]:=hF 4 (by simp)
       have e5:vs 5=.int .i64 ((k:Nat):Int):=hF 5 (by simp)
       have e6:vs 6=.int .i64 ((k:Nat):Int):=hF 6 (by simp)
       have e7:vs 7=.int .i64 ((k:Int)+1):=hF 7 (by simp)
       have e8:vs 8=.agg #[.int .i64 ((k:Nat):Int),.int .i64 ((k:Int)+1),.int .u32 (adr (k+1) (k+1))]:=hF 8 (by simp)
       have e11:vs 11=.pointer (some ⟨N,2,none⟩):=hF 11 (by simp)
       obtain⟨hbs,e9,-,-⟩:=hF 9 (by simp)
       have hown16:=hF 10 (by simp)
       have hL':LE=#[true,true,true,true,true,true,true,true,true,true,true,true,false]:=hL.trans (by kernel_rfl)
       dsimp only[lay,List.foldl,dstOf]at ha
       rw[e0,e1,e2,e3,e4,e5,e6,e7,e8,e9,e11]at ha
       clear e0 e1 e2 e3 e4 e5 e6 e7 e8 e9 e11 hL hF
       subst ha hL'
       generalize vs 10=v16 at *
       obtain⟨g16,cap16,rfl⟩:=own_some hown16 (by simp only[List.length_append,List.length_cons];omega)
       have c13:W.cell? ⟨N,2,none⟩=some vp:=hT.cell CN.out RN.out
       have f13:W.frozen? ⟨N,2,none⟩=false:=(hT.blk HI6.out.blk RN.out).frozen _
       have HI7:=Lib.hid (HI6.out.step_p hT.grown hown16)
       refine wpAnyH_ready (rs:=[12]) (by kernel_rfl) (by simp) ?_
       refine AllReadyH.cons rfl (fun K hK=>?_) AllReadyH.nil
       generalize ((psK k)++[((k:Int),(k:Int),adr k (k+1)),((k:Int),(k:Int)+1,adr (k+1) (k+1))]).length=LN at *
       go_simp
       refine hK.out _ _ trivial (fun _=>?_)
       clear hK
       clear K
       refine wpAnyH_done (by kernel_rfl) ?_ _
       clear c13 f13 hown16 hall hT
       generalize W.setCell ⟨N,2,none⟩ (.slice (some ⟨g16,0,none⟩) LN cap16)=W7 at *
       clear CN RN HVO HVLT HLO5 HLL
       rw[←psK_s]at HI7
       clear HI6
       go_wp2
       go_roundw
       case rel=>exact⟨k+1,_,_,by omega,by go_num,HI7⟩
       case measure=>simp[intOf];omega
    ·obtain rfl:n=k:=by omega
     have hvl:=own_some HI.out.l (by rw[lsK_len];omega)
     rw[lsK_len]at hvl
     obtain⟨gl,cl,rfl⟩:=hvl
     go_wp2
     go_loopw [8] (fun i wr=>∃ (i':Nat) (vo:Value),i'≤n∧i=.int .i64 i'∧Hid (LIl w N R vr (.slice (some ⟨gl,0,none⟩) (n+1) cl) vp vo (rsK n) (lsK (n+1)) (psK n) (osK n i') wr)) (fun i _=>n - (intOf i).toNat)
     case atStart=>exact⟨0,_,Nat.zero_le _,rfl,HI⟩
     case round =>
      clear HI
      obtain⟨i,vo,hi2,rfl,HI⟩:=hrel
      rcases Nat.lt_or_ge i n with hlt|hge
      ·have hi0:(i:Int)<(n:Int):=by omega
       have HI0:Hid (LIl w N R vr (.slice (some ⟨gl,0,none⟩) (n+1) cl) vp vo (rsK n) (lsK (n+1)) (psK n) (osK n i++colK i 0) wr):=Lib.hid (by simpa [colK] using HI.out)
       clear HI
       go_wp2
       go_loopw [9] (fun j wr=>∃ (q:Nat) (vo:Value),q≤n+1∧j=.int .i64 q∧Hid (LIl w N R vr (.slice (some ⟨gl,0,none⟩) (n+1) cl) vp vo (rsK n) (lsK (n+1)) (psK n) (osK n i++colK i q) wr)) (fun j _=>n+1 - (intOf j).toNat)
       case atStart=>exact⟨0,_,Nat.zero_le _,rfl,HI0⟩
       case round =>
        clear HI0
        obtain⟨q,vo,hq2,rfl,HI⟩:=hrel
        rcases Nat.lt_or_ge q (n+1) with hqt|hqe
        ·have hq0:(q:Int)≤(n:Int):=by omega
         rcases Nat.lt_or_ge q i with hb|hb
         ·have hb0:(q:Int)<(i:Int):=by omega
          have hb1:decide ((i:Int)+1<(q:Int))=false:=by simp;omega
          have CL:Hid (wr.cell? ⟨N,1,none⟩=some (.slice (some ⟨gl,0,none⟩) (n+1) cl)):=Lib.hid (HI.out.blk.cell 1)
          have hlr:=HI.out.l
          rw[lsK_len]at hlr
          obtain⟨g,o,xx,hA,ho0,_,hgl,⟨csl,hblk⟩,hx,hc⟩:=own_item link_len hlr (lsK_len _) (show q<n+1 by omega)
          cases hA
          clear ho0
          rw[lsK_at (by omega)]at hx
          cases hx
          have CG1:Hid (wr.cell? ⟨gl,q*3+1,none⟩=some (.int .u32 (adr q 0))):=Lib.hid (by have:=hc 1 _ rfl;rwa [Nat.zero_add]at this)
          have CG2:Hid (wr.cell? ⟨gl,q*3+2,none⟩=some (.int .i64 24)):=Lib.hid (by have:=hc 2 _ rfl;rwa [Nat.zero_add]at this)
          have RG:Hid (vo.ownBlock ≠ some gl):=Lib.hid (row_not hblk HI.out.o (by decide))
          clear hc hlr hblk hgl
          go_wp2
          have CN:Hid (wr.cell? ⟨N,3,none⟩=some vo):=Lib.hid (HI.out.blk.cell 3)
          have RN:Hid (vo.ownBlock ≠ some N):=Lib.hid (row_not HI.out.blk HI.out.o (by decide))
          have HVO:=Lib.hid HI.out.o
          have HVLT:Hid (∀g,vo.ownBlock=some g→g<wr.heap.size):=Lib.hid fun g hg=>(HVO.out.lt g hg).2
          have HLO5:Hid (w.heap.size≤wr.heap.size):=Lib.hid HI.out.lo.size
          have HLL:Hid ((osK n i++colK i q).length≤1000):=Lib.hid (by rw[List.length_append];have:=osK_len n i;have:=colK_len i q;have:i*(n+1)≤8*9:=Nat.mul_le_mul (by omega) (by omega);omega)
          refine wp_region_held_drew (S:=fun _=>True) (by kernel_rfl) trivial (fun _=>?_)
          refine wpAnyH_each (md:=.any) (m:=1) (rem:=[0,1,2,3,4,5,6,7,8,9,10,11,12,13,14,15,16,17,18]) (tail:=[19]) (deps:=fun i=>match i with | 1=>[0] | 4=>[3] | 6=>[4,5] | 7=>[6] | 8=>[7] | 11=>[9,10] | 14=>[12,13] | 15=>[2,8,11,14] | 16=>[15] | 17=>[1,16] | _=>[]) (Tg wr vo.ownBlock 17) (Kl vo.ownBlock 17)
           (fun ix ds v W=>match ix with | 0=>v=.pointer (some ⟨N,3,none⟩) | 1=>v=vo | 2=>v=.int .i64 ((i:Nat):Int) | 3=>v=.pointer (some ⟨N,1,none⟩) | 4=>v=.slice (some ⟨gl,0,none⟩) (n+1) cl | 5=>v=.int .i64 ((q:Nat):Int) | 6=>v=.pointer (some ⟨gl,q*3,none⟩) | 7=>v=.pointer (some ⟨gl,q*3+1,none⟩) | 8=>v=.agg #[.int .u32 (adr q 0),.int .i64 24] | 9=>v=.int .i64 ((i:Nat):Int) | 10=>v=.int .i64 ((i:Nat):Int) | 11=>v=.int .u32 (adr i i) | 12=>v=.int .i64 ((i:Nat):Int) | 13=>v=.int .i64 ((q:Nat):Int) | 14=>v=.int .i64 ((i:Int) - (q:Int)) | 15=>v=.agg #[.int .i64 ((i:Nat):Int),.int .u32 (adr q 0),.int .i64 24,.int .u32 (adr i i),.int .i64 ((i:Int) - (q:Int))] | 16=>∃h,v=.slice (some ⟨h,0,none⟩) 1 1∧wr.heap.size≤h∧Blk W h 130 #[.int .i64 ((i:Nat):Int),.int .u32 (adr q 0),.int .i64 24,.int .u32 (adr i i),.int .i64 ((i:Int) - (q:Int))] | 17=>W.ownsRow w.heap.size 130 5 v ((osK n i++colK i q)++[((i:Int),adr q 0,24,adr i i,(i:Int) - (q:Int))]).length (((osK n i++colK i q)++[((i:Int),adr q 0,24,adr i i,(i:Int) - (q:Int))]).flatMap CRoute) | 18=>v=.pointer (some ⟨N,3,none⟩) | _=>True) (eachB_spec (by kernel_rfl)) (fun _ _ _ _ _ _ _ h k=>h.stepl k) (fun _ _ _=>trivial) ?_ (fun _ _ _ _=>True) (fun _ _ _ _ _ _ _ _ _ _ _ _ _ _=>⟨trivial,trivial⟩) ?_ ?_ (Tg.nil (Below.refl _ _).drew)
          ·intro i hi j _ hij hjd ds v u l W W' _ _ hk h
           simp only[List.mem_cons,List.not_mem_nil,or_false]at hi
           rcases hi with rfl|rfl|rfl|rfl|rfl|rfl|rfl|rfl|rfl|rfl|rfl|rfl|rfl|rfl|rfl|rfl|rfl|rfl|rfl
           ·exact h
           ·exact h
           ·exact h
           ·exact h
           ·exact h
           ·exact h
           ·exact h
           ·exact h
           ·exact h
           ·exact h
           ·exact h
           ·exact h
           ·exact h
           ·exact h
           ·exact h
           ·exact h
           ·obtain⟨h',e,hs,hb⟩:=h
            exact⟨h',e,hs,(hk.grown.block h' hb.lt (fun e=>by have:=HVLT.out h' e.symm;omega)).trans hb⟩
           ·exact ownk_next h (hk.below (Ne.symm hij))
           ·exact h
          ·refine AllO.cons [] rfl rfl (fun vs l W hl hT hd=>?_) ?_
           ·dsimp only[lay,List.foldl,List.map,dstOf]
            go_wp2
            exact⟨rfl,_,rfl,Kl.mk (by decide) (Below.refl _ _),rfl⟩
           refine AllO.cons [0] rfl rfl (fun vs l W hl hT hd=>?_) ?_
           ·have e0:vs 0=.pointer (some ⟨N,3,none⟩):=hd 0 (by simp)
            have c3:W.cell? ⟨N,3,none⟩=some vo:=hT.cell CN.out RN.out
            dsimp only[lay,List.foldl,List.map,dstOf]
            rw[e0]
            go_wp2
            exact⟨rfl,_,rfl,Kl.mk (by decide) (Below.refl _ _),rfl⟩
           refine AllO.cons [] rfl rfl (fun vs l W hl hT hd=>?_) ?_
           ·dsimp only[lay,List.foldl,List.map,dstOf]
            go_wp2
            exact⟨rfl,_,rfl,Kl.mk (by decide) (Below.refl _ _),rfl⟩
           refine AllO.cons [] rfl rfl (fun vs l W hl hT hd=>?_) ?_
           ·dsimp only[lay,List.foldl,List.map,dstOf]
            go_wp2
            exact⟨rfl,_,rfl,Kl.mk (by decide) (Below.refl _ _),rfl⟩
           refine AllO.cons [3] rfl rfl (fun vs l W hl hT hd=>?_) ?_
           ·have e3:vs 3=.pointer (some ⟨N,1,none⟩):=hd 3 (by simp)
            have c4:W.cell? ⟨N,1,none⟩=some (.slice (some ⟨gl,0,none⟩) (n+1) cl):=hT.cell CL.out RN.out
            dsimp only[lay,List.foldl,List.map,dstOf]
            rw[e3]
            go_wp2
            exact⟨rfl,_,rfl,Kl.mk (by decide) (Below.refl _ _),rfl⟩
           refine AllO.cons [] rfl rfl (fun vs l W hl hT hd=>?_) ?_
           ·dsimp only[lay,List.foldl,List.map,dstOf]
            go_wp2
            exact⟨rfl,_,rfl,Kl.mk (by decide) (Below.refl _ _),rfl⟩
           refine AllO.cons [4,5] rfl rfl (fun vs l W hl hT hd=>?_) ?_
           ·have e4:vs 4=.slice (some ⟨gl,0,none⟩) (n+1) cl:=hd 4 (by simp)
            have e5:vs 5=.int .i64 ((q:Nat):Int):=hd 5 (by simp)
            have hib:(q:Int)<(n:Int)+1:=by omega
            dsimp only[lay,List.foldl,List.map,dstOf]
            rw[e4,e5]
            go_wp2
            exact⟨rfl,_,rfl,Kl.mk (by decide) (Below.refl _ _),rfl⟩
           refine AllO.cons [6] rfl rfl (fun vs l W hl hT hd=>?_) ?_
           ·have e6:vs 6=.pointer (some ⟨gl,q*3,none⟩):=hd 6 (by simp)
            dsimp only[lay,List.foldl,List.map,dstOf]
            rw[e6]
            go_wp2
            exact⟨rfl,_,rfl,Kl.mk (by decide) (Below.refl _ _),rfl⟩
           refine AllO.cons [7] rfl rfl (fun vs l W hl hT hd=>?_) ?_
           ·have e7:vs 7=.pointer (some ⟨gl,q*3+1,none⟩):=hd 7 (by simp)
            have c8:W.cell? ⟨gl,q*3+1,none⟩=some (.int .u32 (adr q 0)):=hT.cell CG1.out RG.out
            have c9:W.cell? ⟨gl,q*3+2,none⟩=some (.int .i64 24):=hT.cell CG2.out RG.out
            dsimp only[lay,List.foldl,List.map,dstOf]
            rw[e7]
            go_wp2
            exact⟨rfl,_,rfl,Kl.mk (by decide) (Below.refl _ _),rfl⟩
           refine AllO.cons [] rfl rfl (fun vs l W hl hT hd=>?_) ?_
           ·dsimp only[lay,List.foldl,List.map,dstOf]
            go_wp2
            exact⟨rfl,_,rfl,Kl.mk (by decide) (Below.refl _ _),rfl⟩
           refine AllO.cons [] rfl rfl (fun vs l W hl hT hd=>?_) ?_
           ·dsimp only[lay,List.foldl,List.map,dstOf]
            go_wp2
            exact⟨rfl,_,rfl,Kl.mk (by decide) (Below.refl _ _),rfl⟩
           refine AllO.cons [9,10] rfl rfl (fun vs l W hl hT hd=>?_) ?_
           ·have e9:vs 9=.int .i64 ((i:Nat):Int):=hd 9 (by simp)
            have e10:vs 10=.int .i64 ((i:Nat):Int):=hd 10 (by simp)
            have hC:=Lib.hid (naddr_any i i (by omega) (by omega) W)
            dsimp only[lay,List.foldl,List.map,dstOf]
            rw[e9,e10]
            go_wp2_with (go_at_call 46;refine hC.out.mono ?_;rintro e w1 ⟨rfl,rfl⟩)
            exact⟨rfl,_,(by first|rfl|(simp[Act.put];omega)),Kl.mk (by decide) (Below.refl _ _),rfl⟩
           refine AllO.cons [] rfl rfl (fun vs l W hl hT hd=>?_) ?_
           ·dsimp only[lay,List.foldl,List.map,dstOf]
            go_wp2
            exact⟨rfl,_,rfl,Kl.mk (by decide) (Below.refl _ _),rfl⟩
           refine AllO.cons [] rfl rfl (fun vs l W hl hT hd=>?_) ?_
           ·dsimp only[lay,List.foldl,List.map,dstOf]
            go_wp2
            exact⟨rfl,_,rfl,Kl.mk (by decide) (Below.refl _ _),rfl⟩
           refine AllO.cons [12,13] rfl rfl (fun vs l W hl hT hd=>?_) ?_
           ·have e12:vs 12=.int .i64 ((i:Nat):Int):=hd 12 (by simp)
            have e13:vs 13=.int .i64 ((q:Nat):Int):=hd 13 (by simp)
            dsimp only[lay,List.foldl,List.map,dstOf]
            rw[e12,e13]
            go_wp2
            exact⟨rfl,_,rfl,Kl.mk (by decide) (Below.refl _ _),rfl⟩
           refine AllO.cons [2,8,11,14] rfl rfl (fun vs l W hl hT hd=>?_) ?_
           ·have e2:vs 2=.int .i64 ((i:Nat):Int):=hd 2 (by simp)
            have e8:vs 8=.agg #[.int .u32 (adr q 0),.int .i64 24]:=hd 8 (by simp)
            have e11:vs 11=.int .u32 (adr i i):=hd 11 (by simp)
            have e14:vs 14=.int .i64 ((i:Int) - (q:Int)):=hd 14 (by simp)
            dsimp only[lay,List.foldl,List.map,dstOf]
            rw[e2,e8,e11,e14]
            go_wp2
            exact⟨rfl,_,rfl,Kl.mk (by decide) (Below.refl _ _),rfl⟩
           refine AllO.cons [15] rfl rfl (fun vs l W hl hT hd=>?_) ?_
           ·have e15:vs 15=.agg #[.int .i64 ((i:Nat):Int),.int .u32 (adr q 0),.int .i64 24,.int .u32 (adr i i),.int .i64 ((i:Int) - (q:Int))]:=hd 15 (by simp)
            dsimp only[lay,List.foldl,List.map,dstOf]
            rw[e15]
            go_wp2
            exact⟨rfl,_,rfl,Kl.mk (by decide) ((Below.refl _ _).alloc (Nat.le_refl _) _),_,rfl,hT.grown.size,Blk.new _ _ _⟩
           refine AllO.cons [1,16] rfl rfl (fun vs l W hl hT hd=>?_) ?_
           ·have e1:vs 1=vo:=hd 1 (by simp)
            obtain⟨h',e16,hs',hb'⟩:=hd 16 (by simp)
            dsimp only[lay,List.foldl,List.map,dstOf]
            rw[e1,e16]
            obtain⟨i0,z0,hi,hz,hzs,hsz,hby⟩:=info_route
            have hbp:=hT.pre hl
            refine wpList_append_own_at _ rfl _ _ 25 rfl w.heap.size 130 i0 z0 5 40 Tryz.underlying25 hi hz hsz hby hzs (by decide) vo (osK n i++colK i q).length ((osK n i++colK i q).flatMap CRoute) (by rfl) (ownk_next HVO.out hbp) ⟨h',0,none⟩ 1 1 ([((i:Int),adr q 0,24,adr i i,(i:Int) - (q:Int))].flatMap CRoute) (by rfl) (by rfl) (blk_news hb' (by rfl)) (fun u hu=>by
             obtain⟨y,_,hy⟩:=List.mem_flatMap.1 hu
             exact route_one y u hy) (by have:=HLL.out;unfold maxLen;omega) (by have:=HLL.out;omega) (Nat.le_trans HLO5.out hT.grown.size) ?_
            intro v' w' hown hg _ _
            refine wpList_nil ?_
            exact⟨rfl,_,rfl,Kl.app hg,by rw[List.length_append,List.flatMap_append];exact hown⟩
           refine AllO.cons [] rfl rfl (fun vs l W hl hT hd=>?_) AllO.nil
           ·dsimp only[lay,List.foldl,List.map,dstOf]
            go_wp2
            exact⟨rfl,_,rfl,Kl.mk (by decide) (Below.refl _ _),rfl⟩
          ·intro vs l W hall hT hF _ aE LE ha hL
           have e0:vs 0=.pointer (some ⟨N,3,none⟩):=hF 0 (by simp)
           have e1:vs 1=vo:=hF 1 (by simp)
           have e2:vs 2=.int .i64 ((i:Nat):Int):=hF 2 (by simp)
           have e3:vs 3=.pointer (some ⟨N,1,none⟩):=hF 3 (by simp)
           have e4:vs 4=.slice (some ⟨gl,0,none⟩) (n+1) cl:=hF 4 (by simp)
           have e5:vs 5=.int .i64 ((q:Nat):Int):=hF 5 (by simp)
           have e6:vs 6=.pointer (some ⟨gl,q*3,none⟩):=hF 6 (by simp)
           have e7:vs 7=.pointer (some ⟨gl,q*3+1,none⟩):=hF 7 (by simp)
           have e8:vs 8=.agg #[.int .u32 (adr q 0),.int .i64 24]:=hF 8 (by simp)
           have e9:vs 9=.int .i64 ((i:Nat):Int):=hF 9 (by simp)
           have e10:vs 10=.int .i64 ((i:Nat):Int):=hF 10 (by simp)
           have e11:vs 11=.int .u32 (adr i i):=hF 11 (by simp)
           have e12:vs 12=.int .i64 ((i:Nat):Int):=hF 12 (by simp)
           have e13:vs 13=.int .i64 ((q:Nat):Int):=hF 13 (by simp)
           have e14:vs 14=.int .i64 ((i:Int) - (q:Int)):=hF 14 (by simp)
           have e15:vs 15=.agg #[.int .i64 ((i:Nat):Int),.int .u32 (adr q 0),.int .i64 24,.int .u32 (adr i i),.int .i64 ((i:Int) - (q:Int))]:=hF 15 (by simp)
           have e18:vs 18=.pointer (some ⟨N,3,none⟩):=hF 18 (by simp)
           obtain⟨hbs,e16,-,-⟩:=hF 16 (by simp)
           have hown16:=hF 17 (by simp)
           have hL':LE=#[true,true,true,true,true,true,true,true,true,true,true,true,true,true,true,true,true,true,true,false]:=hL.trans (by kernel_rfl)
           dsimp only[lay,List.foldl,dstOf]at ha
           rw[e0,e1,e2,e3,e4,e5,e6,e7,e8,e9,e10,e11,e12,e13,e14,e15,e16,e18]at ha
           clear e0 e1 e2 e3 e4 e5 e6 e7 e8 e9 e10 e11 e12 e13 e14 e15 e16 e18 hL hF
           subst ha hL'
           generalize vs 17=v16 at *
           obtain⟨g16,cap16,rfl⟩:=own_some hown16 (by simp only[List.length_append,List.length_cons];omega)
           have c13:W.cell? ⟨N,3,none⟩=some vo:=hT.cell CN.out RN.out
           have f13:W.frozen? ⟨N,3,none⟩=false:=(hT.blk HI.out.blk RN.out).frozen _
           have HI6:=Lib.hid (HI.out.step_o hT.grown hown16)
           refine wpAnyH_ready (rs:=[19]) (by kernel_rfl) (by simp) ?_
           refine AllReadyH.cons rfl (fun K hK=>?_) AllReadyH.nil
           generalize ((osK n i++colK i q)++[((i:Int),adr q 0,24,adr i i,(i:Int) - (q:Int))]).length=LN at *
           go_simp
           refine hK.out _ _ trivial (fun _=>?_)
           clear hK
           clear K
           refine wpAnyH_done (by kernel_rfl) ?_ _
           clear c13 f13 hown16 hall hT
           generalize W.setCell ⟨N,3,none⟩ (.slice (some ⟨g16,0,none⟩) LN cap16)=W6 at *
           clear CN RN HVO HVLT HLO5 HLL
           rw[List.append_assoc,show [((i:Int),adr q 0,24,adr i i,(i:Int) - (q:Int))]=rtK i q by unfold rtK;rw[if_pos hb],←colK_s]at HI6
           clear HI
           go_wp2
           go_roundw
           case rel=>exact⟨q+1,_,by omega,by go_num,HI6⟩
           case measure=>simp[intOf];omega
         ·have hb0:decide ((q:Int)<(i:Int))=false:=by simp;omega
          rcases Nat.lt_or_ge (i+1) q with hc|hc
          ·have hb1:(i:Int)+1<(q:Int):=by omega
           have CL:Hid (wr.cell? ⟨N,1,none⟩=some (.slice (some ⟨gl,0,none⟩) (n+1) cl)):=Lib.hid (HI.out.blk.cell 1)
           have hlr:=HI.out.l
           rw[lsK_len]at hlr
           obtain⟨g,o,xx,hA,ho0,_,hgl,⟨csl,hblk⟩,hx,hc⟩:=own_item link_len hlr (lsK_len _) (show q<n+1 by omega)
           cases hA
           clear ho0
           rw[lsK_at (by omega)]at hx
           cases hx
           have CG1:Hid (wr.cell? ⟨gl,q*3+1,none⟩=some (.int .u32 (adr q 0))):=Lib.hid (by have:=hc 1 _ rfl;rwa [Nat.zero_add]at this)
           have CG2:Hid (wr.cell? ⟨gl,q*3+2,none⟩=some (.int .i64 24)):=Lib.hid (by have:=hc 2 _ rfl;rwa [Nat.zero_add]at this)
           have RG:Hid (vo.ownBlock ≠ some gl):=Lib.hid (row_not hblk HI.out.o (by decide))
           clear hc hlr hblk hgl
           go_wp2
           have CN:Hid (wr.cell? ⟨N,3,none⟩=some vo):=Lib.hid (HI.out.blk.cell 3)
           have RN:Hid (vo.ownBlock ≠ some N):=Lib.hid (row_not HI.out.blk HI.out.o (by decide))
           have HVO:=Lib.hid HI.out.o
           have HVLT:Hid (∀g,vo.ownBlock=some g→g<wr.heap.size):=Lib.hid fun g hg=>(HVO.out.lt g hg).2
           have HLO5:Hid (w.heap.size≤wr.heap.size):=Lib.hid HI.out.lo.size
           have HLL:Hid ((osK n i++colK i q).length≤1000):=Lib.hid (by rw[List.length_append];have:=osK_len n i;have:=colK_len i q;have:i*(n+1)≤8*9:=Nat.mul_le_mul (by omega) (by omega);omega)
           refine wp_region_held_drew (S:=fun _=>True) (by kernel_rfl) trivial (fun _=>?_)
           refine wpAnyH_each (md:=.any) (m:=1) (rem:=[0,1,2,3,4,5,6,7,8,9,10,11,12,13,14,15,16,17,18,19,20]) (tail:=[21]) (deps:=fun i=>match i with | 1=>[0] | 4=>[3] | 6=>[4,5] | 7=>[6] | 8=>[7] | 10=>[9] | 12=>[11] | 13=>[10,12] | 16=>[14,15] | 17=>[2,8,13,16] | 18=>[17] | 19=>[1,18] | _=>[]) (Tg wr vo.ownBlock 19) (Kl vo.ownBlock 19)
            (fun ix ds v W=>match ix with | 0=>v=.pointer (some ⟨N,3,none⟩) | 1=>v=vo | 2=>v=.int .i64 ((i:Nat):Int) | 3=>v=.pointer (some ⟨N,1,none⟩) | 4=>v=.slice (some ⟨gl,0,none⟩) (n+1) cl | 5=>v=.int .i64 ((q:Nat):Int) | 6=>v=.pointer (some ⟨gl,q*3,none⟩) | 7=>v=.pointer (some ⟨gl,q*3+1,none⟩) | 8=>v=.agg #[.int .u32 (adr q 0),.int .i64 24] | 9=>v=.int .i64 ((i:Nat):Int) | 10=>v=.int .i64 ((i:Int)+1) | 11=>v=.int .i64 ((i:Nat):Int) | 12=>v=.int .i64 ((i:Int)+2) | 13=>v=.int .u32 (adr (i+1) (i+2)) | 14=>v=.int .i64 ((q:Nat):Int) | 15=>v=.int .i64 ((i:Nat):Int) | 16=>v=.int .i64 ((q:Int) - (i:Int)) | 17=>v=.agg #[.int .i64 ((i:Nat):Int),.int .u32 (adr q 0),.int .i64 24,.int .u32 (adr (i+1) (i+2)),.int .i64 ((q:Int) - (i:Int))] | 18=>∃h,v=.slice (some ⟨h,0,none⟩) 1 1∧wr.heap.size≤h∧Blk W h 130 #[.int .i64 ((i:Nat):Int),.int .u32 (adr q 0),.int .i64 24,.int .u32 (adr (i+1) (i+2)),.int .i64 ((q:Int) - (i:Int))] | 19=>W.ownsRow w.heap.size 130 5 v ((osK n i++colK i q)++[((i:Int),adr q 0,24,adr (i+1) (i+2),(q:Int) - (i:Int))]).length (((osK n i++colK i q)++[((i:Int),adr q 0,24,adr (i+1) (i+2),(q:Int) - (i:Int))]).flatMap CRoute) | 20=>v=.pointer (some ⟨N,3,none⟩) | _=>True) (eachB_spec (by kernel_rfl)) (fun _ _ _ _ _ _ _ h k=>h.stepl k) (fun _ _ _=>trivial) ?_ (fun _ _ _ _=>True) (fun _ _ _ _ _ _ _ _ _ _ _ _ _ _=>⟨trivial,trivial⟩) ?_ ?_ (Tg.nil (Below.refl _ _).drew)
           ·intro i hi j _ hij hjd ds v u l W W' _ _ hk h
            simp only[List.mem_cons,List.not_mem_nil,or_false]at hi
            rcases hi with rfl|rfl|rfl|rfl|rfl|rfl|rfl|rfl|rfl|rfl|rfl|rfl|rfl|rfl|rfl|rfl|rfl|rfl|rfl|rfl|rfl
            ·exact h
            ·exact h
            ·exact h
            ·exact h
            ·exact h
            ·exact h
            ·exact h
            ·exact h
            ·exact h
            ·exact h
            ·exact h
            ·exact h
            ·exact h
            ·exact h
            ·exact h
            ·exact h
            ·exact h
            ·exact h
            ·obtain⟨h',e,hs,hb⟩:=h
             exact⟨h',e,hs,(hk.grown.block h' hb.lt (fun e=>by have:=HVLT.out h' e.symm;omega)).trans hb⟩
            ·exact ownk_next h (hk.below (Ne.symm hij))
            ·exact h
           ·refine AllO.cons [] rfl rfl (fun vs l W hl hT hd=>?_) ?_
            ·dsimp only[lay,List.foldl,List.map,dstOf]
             go_wp2
             exact⟨rfl,_,rfl,Kl.mk (by decide) (Below.refl _ _),rfl⟩
            refine AllO.cons [0] rfl rfl (fun vs l W hl hT hd=>?_) ?_
            ·have e0:vs 0=.pointer (some ⟨N,3,none⟩):=hd 0 (by simp)
             have c3:W.cell? ⟨N,3,none⟩=some vo:=hT.cell CN.out RN.out
             dsimp only[lay,List.foldl,List.map,dstOf]
             rw[e0]
             go_wp2
             exact⟨rfl,_,rfl,Kl.mk (by decide) (Below.refl _ _),rfl⟩
            refine AllO.cons [] rfl rfl (fun vs l W hl hT hd=>?_) ?_
            ·dsimp only[lay,List.foldl,List.map,dstOf]
             go_wp2
             exact⟨rfl,_,rfl,Kl.mk (by decide) (Below.refl _ _),rfl⟩
            refine AllO.cons [] rfl rfl (fun vs l W hl hT hd=>?_) ?_
            ·dsimp only[lay,List.foldl,List.map,dstOf]
             go_wp2
             exact⟨rfl,_,rfl,Kl.mk (by decide) (Below.refl _ _),rfl⟩
            refine AllO.cons [3] rfl rfl (fun vs l W hl hT hd=>?_) ?_
            ·have e3:vs 3=.pointer (some ⟨N,1,none⟩):=hd 3 (by simp)
             have c4:W.cell? ⟨N,1,none⟩=some (.slice (some ⟨gl,0,none⟩) (n+1) cl):=hT.cell CL.out RN.out
             dsimp only[lay,List.foldl,List.map,dstOf]
             rw[e3]
             go_wp2
             exact⟨rfl,_,rfl,Kl.mk (by decide) (Below.refl _ _),rfl⟩
            refine AllO.cons [] rfl rfl (fun vs l W hl hT hd=>?_) ?_
            ·dsimp only[lay,List.foldl,List.map,dstOf]
             go_wp2
             exact⟨rfl,_,rfl,Kl.mk (by decide) (Below.refl _ _),rfl⟩
            refine AllO.cons [4,5] rfl rfl (fun vs l W hl hT hd=>?_) ?_
            ·have e4:vs 4=.slice (some ⟨gl,0,none⟩) (n+1) cl:=hd 4 (by simp)
             have e5:vs 5=.int .i64 ((q:Nat):Int):=hd 5 (by simp)
             have hib:(q:Int)<(n:Int)+1:=by omega
             dsimp only[lay,List.foldl,List.map,dstOf]
             rw[e4,e5]
             go_wp2
             exact⟨rfl,_,rfl,Kl.mk (by decide) (Below.refl _ _),rfl⟩
            refine AllO.cons [6] rfl rfl (fun vs l W hl hT hd=>?_) ?_
            ·have e6:vs 6=.pointer (some ⟨gl,q*3,none⟩):=hd 6 (by simp)
             dsimp only[lay,List.foldl,List.map,dstOf]
             rw[e6]
             go_wp2
             exact⟨rfl,_,rfl,Kl.mk (by decide) (Below.refl _ _),rfl⟩
            refine AllO.cons [7] rfl rfl (fun vs l W hl hT hd=>?_) ?_
            ·have e7:vs 7=.pointer (some ⟨gl,q*3+1,none⟩):=hd 7 (by simp)
             have c8:W.cell? ⟨gl,q*3+1,none⟩=some (.int .u32 (adr q 0)):=hT.cell CG1.out RG.out
             have c9:W.cell? ⟨gl,q*3+2,none⟩=some (.int .i64 24):=hT.cell CG2.out RG.out
             dsimp only[lay,List.foldl,List.map,dstOf]
             rw[e7]
             go_wp2
             exact⟨rfl,_,rfl,Kl.mk (by decide) (Below.refl _ _),rfl⟩
            refine AllO.cons [] rfl rfl (fun vs l W hl hT hd=>?_) ?_
            ·dsimp only[lay,List.foldl,List.map,dstOf]
             go_wp2
             exact⟨rfl,_,rfl,Kl.mk (by decide) (Below.refl _ _),rfl⟩
            refine AllO.cons [9] rfl rfl (fun vs l W hl hT hd=>?_) ?_
            ·have e9:vs 9=.int .i64 ((i:Nat):Int):=hd 9 (by simp)
             dsimp only[lay,List.foldl,List.map,dstOf]
             rw[e9]
             go_wp2
             exact⟨rfl,_,rfl,Kl.mk (by decide) (Below.refl _ _),rfl⟩
            refine AllO.cons [] rfl rfl (fun vs l W hl hT hd=>?_) ?_
            ·dsimp only[lay,List.foldl,List.map,dstOf]
             go_wp2
             exact⟨rfl,_,rfl,Kl.mk (by decide) (Below.refl _ _),rfl⟩
            refine AllO.cons [11] rfl rfl (fun vs l W hl hT hd=>?_) ?_
            ·have e11:vs 11=.int .i64 ((i:Nat):Int):=hd 11 (by simp)
             dsimp only[lay,List.foldl,List.map,dstOf]
             rw[e11]
             go_wp2
             exact⟨rfl,_,rfl,Kl.mk (by decide) (Below.refl _ _),rfl⟩
            refine AllO.cons [10,12] rfl rfl (fun vs l W hl hT hd=>?_) ?_
            ·have e10:vs 10=.int .i64 ((i:Int)+1):=hd 10 (by simp)
             have e12:vs 12=.int .i64 ((i:Int)+2):=hd 12 (by simp)
             have hC:=Lib.hid ((by have h:=naddr_any (i+1) (i+2) (by omega) (by omega) W;rw[show ((i+1:Nat):Int)=(i:Int)+1 by omega,show ((i+2:Nat):Int)=(i:Int)+2 by omega]at h;exact h:Calls Tryz.prog 46 #[.int .i64 ((i:Int)+1),.int .i64 ((i:Int)+2)] W fun e w'=>e=.returned (.int .u32 (adr (i+1) (i+2)))∧w'=W))
             dsimp only[lay,List.foldl,List.map,dstOf]
             rw[e10,e12]
             go_wp2_with (go_at_call 46;refine hC.out.mono ?_;rintro e w1 ⟨rfl,rfl⟩)
             exact⟨rfl,_,(by first|rfl|(simp[Act.put];omega)),Kl.mk (by decide) (Below.refl _ _),rfl⟩
            refine AllO.cons [] rfl rfl (fun vs l W hl hT hd=>?_) ?_
            ·dsimp only[lay,List.foldl,List.map,dstOf]
             go_wp2
             exact⟨rfl,_,rfl,Kl.mk (by decide) (Below.refl _ _),rfl⟩
            refine AllO.cons [] rfl rfl (fun vs l W hl hT hd=>?_) ?_
            ·dsimp only[lay,List.foldl,List.map,dstOf]
             go_wp2
             exact⟨rfl,_,rfl,Kl.mk (by decide) (Below.refl _ _),rfl⟩
            refine AllO.cons [14,15] rfl rfl (fun vs l W hl hT hd=>?_) ?_
            ·have e14:vs 14=.int .i64 ((q:Nat):Int):=hd 14 (by simp)
             have e15:vs 15=.int .i64 ((i:Nat):Int):=hd 15 (by simp)
             dsimp only[lay,List.foldl,List.map,dstOf]
             rw[e14,e15]
             go_wp2
             exact⟨rfl,_,rfl,Kl.mk (by decide) (Below.refl _ _),rfl⟩
            refine AllO.cons [2,8,13,16] rfl rfl (fun vs l W hl hT hd=>?_) ?_
            ·have e2:vs 2=.int .i64 ((i:Nat):Int):=hd 2 (by simp)
             have e8:vs 8=.agg #[.int .u32 (adr q 0),.int .i64 24]:=hd 8 (by simp)
             have e13:vs 13=.int .u32 (adr (i+1) (i+2)):=hd 13 (by simp)
             have e16:vs 16=.int .i64 ((q:Int) - (i:Int)):=hd 16 (by simp)
             dsimp only[lay,List.foldl,List.map,dstOf]
             rw[e2,e8,e13,e16]
             go_wp2
             exact⟨rfl,_,rfl,Kl.mk (by decide) (Below.refl _ _),rfl⟩
            refine AllO.cons [17] rfl rfl (fun vs l W hl hT hd=>?_) ?_
            ·have e17:vs 17=.agg #[.int .i64 ((i:Nat):Int),.int .u32 (adr q 0),.int .i64 24,.int .u32 (adr (i+1) (i+2)),.int .i64 ((q:Int) - (i:Int))]:=hd 17 (by simp)
             dsimp only[lay,List.foldl,List.map,dstOf]
             rw[e17]
             go_wp2
             exact⟨rfl,_,rfl,Kl.mk (by decide) ((Below.refl _ _).alloc (Nat.le_refl _) _),_,rfl,hT.grown.size,Blk.new _ _ _⟩
            refine AllO.cons [1,18] rfl rfl (fun vs l W hl hT hd=>?_) ?_
            ·have e1:vs 1=vo:=hd 1 (by simp)
             obtain⟨h',e18,hs',hb'⟩:=hd 18 (by simp)
             dsimp only[lay,List.foldl,List.map,dstOf]
             rw[e1,e18]
             obtain⟨i0,z0,hi,hz,hzs,hsz,hby⟩:=info_route
             have hbp:=hT.pre hl
             refine wpList_append_own_at _ rfl _ _ 25 rfl w.heap.size 130 i0 z0 5 40 Tryz.underlying25 hi hz hsz hby hzs (by decide) vo (osK n i++colK i q).length ((osK n i++colK i q).flatMap CRoute) (by rfl) (ownk_next HVO.out hbp) ⟨h',0,none⟩ 1 1 ([((i:Int),adr q 0,24,adr (i+1) (i+2),(q:Int) - (i:Int))].flatMap CRoute) (by rfl) (by rfl) (blk_news hb' (by rfl)) (fun u hu=>by
              obtain⟨y,_,hy⟩:=List.mem_flatMap.1 hu
              exact route_one y u hy) (by have:=HLL.out;unfold maxLen;omega) (by have:=HLL.out;omega) (Nat.le_trans HLO5.out hT.grown.size) ?_
             intro v' w' hown hg _ _
             refine wpList_nil ?_
             exact⟨rfl,_,rfl,Kl.app hg,by rw[List.length_append,List.flatMap_append];exact hown⟩
            refine AllO.cons [] rfl rfl (fun vs l W hl hT hd=>?_) AllO.nil
            ·dsimp only[lay,List.foldl,List.map,dstOf]
             go_wp2
             exact⟨rfl,_,rfl,Kl.mk (by decide) (Below.refl _ _),rfl⟩
           ·intro vs l W hall hT hF _ aE LE ha hL
            have e0:vs 0=.pointer (some ⟨N,3,none⟩):=hF 0 (by simp)
            have e1:vs 1=vo:=hF 1 (by simp)
            have e2:vs 2=.int .i64 ((i:Nat):Int):=hF 2 (by simp)
            have e3:vs 3=.pointer (some ⟨N,1,none⟩):=hF 3 (by simp)
            have e4:vs 4=.slice (some ⟨gl,0,none⟩) (n+1) cl:=hF 4 (by simp)
            have e5:vs 5=.int .i64 ((q:Nat):Int):=hF 5 (by simp)
            have e6:vs 6=.pointer (some ⟨gl,q*3,none⟩):=hF 6 (by simp)
            have e7:vs 7=.pointer (some ⟨gl,q*3+1,none⟩):=hF 7 (by simp)
            have e8:vs 8=.agg #[.int .u32 (adr q 0),.int .i64 24]:=hF 8 (by simp)
            have e9:vs 9=.int .i64 ((i:Nat):Int):=hF 9 (by simp)
            have e10:vs 10=.int .i64 ((i:Int)+1):=hF 10 (by simp)
            have e11:vs 11=.int .i64 ((i:Nat):Int):=hF 11 (by simp)
            have e12:vs 12=.int .i64 ((i:Int)+2):=hF 12 (by simp)
            have e13:vs 13=.int .u32 (adr (i+1) (i+2)):=hF 13 (by simp)
            have e14:vs 14=.int .i64 ((q:Nat):Int):=hF 14 (by simp)
            have e15:vs 15=.int .i64 ((i:Nat):Int):=hF 15 (by simp)
            have e16:vs 16=.int .i64 ((q:Int) - (i:Int)):=hF 16 (by simp)
            have e17:vs 17=.agg #[.int .i64 ((i:Nat):Int),.int .u32 (adr q 0),.int .i64 24,.int .u32 (adr (i+1) (i+2)),.int .i64 ((q:Int) - (i:Int))]:=hF 17 (by simp)
            have e20:vs 20=.pointer (some ⟨N,3,none⟩):=hF 20 (by simp)
            obtain⟨hbs,e18,-,-⟩:=hF 18 (by simp)
            have hown16:=hF 19 (by simp)
            have hL':LE=#[true,true,true,true,true,true,true,true,true,true,true,true,true,true,true,true,true,true,true,true,true,false]:=hL.trans (by kernel_rfl)
            dsimp only[lay,List.foldl,dstOf]at ha
            rw[e0,e1,e2,e3,e4,e5,e6,e7,e8,e9,e10,e11,e12,e13,e14,e15,e16,e17,e18,e20]at ha
            clear e0 e1 e2 e3 e4 e5 e6 e7 e8 e9 e10 e11 e12 e13 e14 e15 e16 e17 e18 e20 hL hF
            subst ha hL'
            generalize vs 19=v16 at *
            obtain⟨g16,cap16,rfl⟩:=own_some hown16 (by simp only[List.length_append,List.length_cons];omega)
            have c13:W.cell? ⟨N,3,none⟩=some vo:=hT.cell CN.out RN.out
            have f13:W.frozen? ⟨N,3,none⟩=false:=(hT.blk HI.out.blk RN.out).frozen _
            have HI6:=Lib.hid (HI.out.step_o hT.grown hown16)
            refine wpAnyH_ready (rs:=[21]) (by kernel_rfl) (by simp) ?_
            refine AllReadyH.cons rfl (fun K hK=>?_) AllReadyH.nil
            generalize ((osK n i++colK i q)++[((i:Int),adr q 0,24,adr (i+1) (i+2),(q:Int) - (i:Int))]).length=LN at *
            go_simp
            refine hK.out _ _ trivial (fun _=>?_)
            clear hK
            clear K
            refine wpAnyH_done (by kernel_rfl) ?_ _
            clear c13 f13 hown16 hall hT
            generalize W.setCell ⟨N,3,none⟩ (.slice (some ⟨g16,0,none⟩) LN cap16)=W6 at *
            clear CN RN HVO HVLT HLO5 HLL
            rw[List.append_assoc,show [((i:Int),adr q 0,24,adr (i+1) (i+2),(q:Int) - (i:Int))]=rtK i q by unfold rtK;rw[if_neg (by omega),if_pos hc],←colK_s]at HI6
            clear HI
            go_wp2
            go_roundw
            case rel=>exact⟨q+1,_,by omega,by go_num,HI6⟩
            case measure=>simp[intOf];omega
          ·have hb1:decide ((i:Int)+1<(q:Int))=false:=by simp;omega
           have HI6:Hid (LIl w N R vr (.slice (some ⟨gl,0,none⟩) (n+1) cl) vp vo (rsK n) (lsK (n+1)) (psK n) (osK n i++colK i (q+1)) wr):=Lib.hid (by rw[colK_s,show rtK i q=[] by unfold rtK;rw[if_neg (by omega),if_neg (by omega)],List.append_nil];exact HI.out)
           clear HI
           go_wp2
           go_roundw
           case rel=>exact⟨q+1,_,by omega,by go_num,HI6⟩
           case measure=>simp[intOf];omega
        ·have hk1:q=n+1:=by omega
         have hk2:(q:Int)=(n:Int)+1:=by omega
         rw[hk2]
         clear hk2
         subst hk1
         rw[←osK_s]at HI
         go_wp2
         go_roundw
         case rel=>exact⟨i+1,_,by omega,by go_num,HI⟩
         case measure=>simp[intOf];omega
      ·obtain rfl:n=i:=by omega
       have HGR:=Lib.hid fun W=>ngroups_any W
       have HAD:Hid (∀W,Calls Tryz.prog 46 #[.int .i64 (r:Int),.int .i64 ((r:Int)+1)] W fun e w'=>e=.returned (.int .u32 (adr r (r+1)))∧w'=W):=Lib.hid fun W=>by
        have h:=naddr_any r (r+1) (by omega) (by omega) W
        rw[show ((r+1:Nat):Int)=(r:Int)+1 by omega]at h
        exact h
       have hcx:wr.cell? ⟨N,4,none⟩=some (.slice none 0 0):=HI.out.blk.cell 4
       have hfx:=HI.out.blk.frozen 4
       go_upto_region 22 with (first
        | (go_at_call 85;refine (HGR.out _).mono ?_;rintro e w1 ⟨rfl,hb1⟩;have HI1:=Lib.hid (HI.out.next hb1);have hcx1:w1.cell? ⟨N,4,none⟩=some (.slice none 0 0):=HI1.out.blk.cell 4;have hfx1:=HI1.out.blk.frozen 4;clear hcx hfx)
        | (go_at_call 46;refine (HAD.out _).mono ?_;rintro e w2 ⟨rfl,rfl⟩;have HBA:=HI1.out.blk.alloc (.cells #[.int .u32 3758096384,.int .i64 4,.int .u32 (adr r (r+1))] 149);have hcx2:=HBA.cell 4;have hfx2:=HBA.frozen 4;simp only[List.getElem?_toArray,List.getElem?_cons_succ,List.getElem?_cons_zero]at hcx2))
       obtain⟨W9,hW9,f1,f2,f3,f4,f5,f6,f7,f8⟩:=HI1.out.fin (adr r (r+1))
       rw[←hW9]
       obtain⟨Ar,cr,rfl,hcr,ir⟩:=IR.of_own router_len f4
       obtain⟨Al,cl',hvl,hcl,il⟩:=IR.of_own link_len f5
       obtain⟨Ap,cp,rfl,hcp,ip⟩:=IR.of_own port_len f6
       obtain⟨Ao,co,rfl,hco,io⟩:=IR.of_own route_len f7
       obtain⟨Ag,cg,hvg,hcg,ig⟩:=IR.of_own range_len f8
       rw[hvl,hvg]at f2
       obtain⟨⟨t0,t1,t2,t3,t4,t5,t6⟩,q0,q1,q2,q3,q4,q5,q6⟩:=slot7 f3
       obtain⟨W5,hW5,hk5,hb5,ho5⟩:=store7 (b:=w.heap.size) f3 HI1.out.hR (.slice Ar (rsK n).length cr) (.slice Al (lsK (n+1)).length cl') (.slice Ap (psK n).length cp) (.slice Ao (osK n n).length co) (.slice Ag 1 cg) (.slice none 0 0) (.slice none 0 0)
       have n0:W9.cell? ⟨N,0,none⟩=some (.slice Ar (rsK n).length cr):=f2.cell 0
       have n1:W9.cell? ⟨N,1,none⟩=some (.slice Al (lsK (n+1)).length cl'):=f2.cell 1
       have n2:W9.cell? ⟨N,2,none⟩=some (.slice Ap (psK n).length cp):=f2.cell 2
       have n3:W9.cell? ⟨N,3,none⟩=some (.slice Ao (osK n n).length co):=f2.cell 3
       have n4:W9.cell? ⟨N,4,none⟩=some (.slice Ag 1 cg):=f2.cell 4
       have n5:W9.cell? ⟨N,5,none⟩=some (.slice none 0 0):=f2.cell 5
       have n6:W9.cell? ⟨N,6,none⟩=some (.slice none 0 0):=f2.cell 6
       have b5:=hb5 w f1
       have i1:=own_ir router_len rfl (ho5 (t':=165) (by decide) f4)
       rw[hvl]at f5
       have i2:=own_ir link_len rfl (ho5 (t':=127) (by decide) f5)
       have i3:=own_ir port_len rfl (ho5 (t':=107) (by decide) f6)
       have i4:=own_ir route_len rfl (ho5 (t':=130) (by decide) f7)
       rw[hvg]at f8
       have i5:=own_ir range_len rfl (ho5 (t':=149) (by decide) f8)
       have HW5:=Lib.hid hW5
       have HB5:=Lib.hid b5
       have HII:=Lib.hid (And.intro i1 (And.intro i2 (And.intro i3 (And.intro i4 i5))))
       have hl1:=rsK_len n
       have hl2:=lsK_len (n+1)
       have hl3:=psK_len n
       have hl4:=osK_len n n
       have hl5:n*(n+1)≤8*9:=Nat.mul_le_mul (by omega) (by omega)
       have HCC:=Lib.hid (And.intro hcr (And.intro hcl (And.intro hcp (And.intro hco (And.intro hcg (And.intro hl1 (And.intro hl2 (And.intro hl3 (Nat.le_trans hl4 hl5)))))))))
       clear hW9 f1 f2 f3 f4 f5 f6 f7 f8 ir il ip io ig hvl hvg hcr hcl hcp hco hcg hW5 hb5 ho5 b5 i1 i2 i3 i4 i5 hl1 hl2 hl3 hl4 hl5 HGR HAD HI hcx1 hfx1 hcx2 hfx2 HBA
       clear HI1
       go_wp2
       rw[←HW5.out]
       refine bodyPost_ret (ret_line _ R _ _ _ _ _ _ _ _ rfl (hk5.cell 0) (hk5.cell 1) (hk5.cell 2) (hk5.cell 3) (hk5.cell 4) (hk5.cell 5) (hk5.cell 6)) rfl ?_
       obtain⟨i1,i2,i3,i4,i5⟩:=HII.out
       obtain⟨hcr,hcl,hcp,hco,hcg,hl1,hl2,hl3,hl4⟩:=HCC.out
       refine⟨⟨⟨Ar,_,cr⟩,⟨Al,_,cl'⟩,⟨Ap,_,cp⟩,⟨Ao,_,co⟩,⟨Ag,_,cg⟩,⟨none,0,0⟩,⟨none,0,0⟩⟩,rfl,⟨i1,i2,i3,i4,i5,IR.none_ _ _ _ _,IR.none_ _ _ _ _,⟨hcr,by simp only;omega⟩,⟨hcl,by simp only;omega⟩,⟨hcp,by simp only;omega⟩,⟨hco,by simp only;omega⟩,⟨hcg,by simp⟩,⟨Nat.le_refl _,by simp⟩,⟨Nat.le_refl _,by simp⟩,fun y hy=>(by cases hy),line_ok n r (by omega) hr⟩,HB5.out⟩
end Go.Proofs.YtfidicbknjoafaaGreatDoor
