/- Of routes of as many bits the least cost is taken, of these the first; a longer prefix is taken whatever it costs. -/
import Derived.Test.YtahnnaagpeinkaaGreatDoorLe
import Derived.Test.YtahnnaagpeinkaaGreatDoorOj
import Derived.RangeFuncBox
namespace Go.Proofs.YtahnnaagpeinkaaGreatDoor
open Go.RowKit Lx Sm Go.Maps Go.Sort Go.Shelf
theorem same_one {W : World} {A : Option Addr} {cr g : Nat} {t : TypeId} {q : Int} (h : JR W A 1 [q]) (hb : Blk W g t #[.int .i64 q]) : Calls Tryz.prog 16 #[.slice A 1 cr, .slice (some ⟨g, 0, none⟩) 1 1] W fun e w' => e = .returned (.bool true) ∧ Below W.heap.size W w' := by
  have hj : JR W (some ⟨g, 0, none⟩) 1 [q] := ⟨rfl, fun _ => ⟨g, 0, rfl, hb.lt, fun i hi => by
    obtain rfl : i = 0 := by omega
    rw [Nat.add_zero, hb.cell]
    rfl⟩⟩
  have := jsame_any A (some ⟨g, 0, none⟩) 1 1 cr 1 [q] [q] W h hj (by decide) (by decide)
  simpa using this
theorem below_of_go {w0 w3 W : World} {M : Cm} {v : Value} {os : List (Int × Int × Int × Int × Int)} (h : GO w3 M v os W) (_ : Below w0.heap.size w0 w3) : Below w3.heap.size w3 W := h.lo
set_option maxHeartbeats 16000000 in
set_option maxRecDepth 100000 in
theorem law_rleast (ads : List Addr) (A0 : Option Addr) (n0 c0 : Nat) (xs0 : List Int) (a1 : Int) (w : World) (hE : EnvC ads w) (hj : JR w A0 n0 xs0) :
    Calls Tryz.prog 6 #[.slice A0 n0 c0, .int .i64 a1] w fun e w' => e = .returned (.bool true) ∧ Below w.heap.size w w' := by
  have HF := Lib.hid (first9_any ads w hE)
  have HE := Lib.hid hE
  clear hE
  by_cases hz : n0 = 0
  · subst hz
    go_enter Tryz.func6, Tryz.ntmps6
    go_wp2_with (go_at_call 9; refine HF.out.mono ?_; rintro e w1 ⟨rfl, hb1⟩; have HB1 := Lib.hid hb1; clear hb1)
    go_ret
    exact ⟨rfl, HB1.out⟩
  · have hz2 : ((n0 : Int) == 0) = false := by simp; omega
    have hz3 : ¬ ((n0 : Int) = 0) := by omega
    by_cases h6 : 6 < n0
    · have h6b : (6 : Int) < (n0 : Int) := by omega
      go_enter Tryz.func6, Tryz.ntmps6
      go_wp2_with (go_at_call 9; refine HF.out.mono ?_; rintro e w1 ⟨rfl, hb1⟩; have HB1 := Lib.hid hb1; clear hb1)
      go_ret
      exact ⟨rfl, HB1.out⟩
    · have h6b : ¬ ((6 : Int) < (n0 : Int)) := by omega
      obtain ⟨ks, hks⟩ : ∃ ks, ks = xs0.map (· % 5) := ⟨_, rfl⟩
      have HKL : Hid (ks.length = n0) := Lib.hid (by rw [hks, List.length_map]; exact hj.1)
      have HK0 : Hid (0 < ks.length) := Lib.hid (by rw [HKL.out]; omega)
      have HK6 : Hid (ks.length ≤ 6) := Lib.hid (by rw [HKL.out]; omega)
      have HKE : Hid (∀ i, i < n0 → ks.getD i 0 = xs0.getD i 0 % 5) := Lib.hid fun i hi => by
        have : i < xs0.length := by have := hj.1; omega
        rw [hks]
        simp [List.getD, this]
      have HK4 : Hid (∀ i, 0 ≤ ks.getD i 0 ∧ ks.getD i 0 ≤ 4) := Lib.hid fun i => by
        rw [hks]
        simp only [List.getD, List.getElem?_map]
        cases xs0[i]? with
        | none => simp
        | some y => simp only [Option.map_some, Option.getD_some]; omega
      clear hks
      have HL := Lib.hid fun W => line_any 1 0 (by decide) (by decide) W
      rw [show ((0 : Nat) : Int) = 0 from rfl, show ((1 : Nat) : Int) = 1 from rfl] at HL
      have HA0 := Lib.hid fun W => naddr_any 0 70 (by decide) (by decide) W
      rw [show ((70 : Nat) : Int) = 70 from rfl, show ((0 : Nat) : Int) = 0 from rfl] at HA0
      obtain ⟨ab, ao, rfl, _, _⟩ := hj.at_ (show 0 < n0 by omega)
      have HJ := Lib.hid hj
      clear hj
      go_enter Tryz.func6, Tryz.ntmps6
      go_upto_region 7 with (first
        | (go_at_call 9; refine HF.out.mono ?_; rintro e w1 ⟨rfl, hb1⟩; have HB1 := Lib.hid hb1; clear hb1)
        | (go_at_call 20; refine (HL.out _).mono ?_; rintro e w3 ⟨M, rfl, hcw, hb3⟩; have HB3 := Lib.hid (below_next HB1.out hb3); have HCW := Lib.hid hcw; clear hcw hb3))
      have HBq := HB3
      have HN6 := Lib.hid (Blk.new w3 30 #[.slice M.r.A M.r.n M.r.c, .slice M.l.A M.l.n M.l.c, .slice M.p.A M.p.n M.p.c, .slice M.o.A M.o.n M.o.c, .slice M.g.A M.g.n M.g.c, .slice M.s.A M.s.n M.s.c, .slice M.m.A M.m.n M.m.c])
      have HB4 := Lib.hid ((Below.refl w3.heap.size w3).alloc (Nat.le_refl _) (.cells #[.slice M.r.A M.r.n M.r.c, .slice M.l.A M.l.n M.l.c, .slice M.p.A M.p.n M.p.c, .slice M.o.A M.o.n M.o.c, .slice M.g.A M.g.n M.g.c, .slice M.s.A M.s.n M.s.c, .slice M.m.A M.m.n M.m.c] 30))
      generalize w3.alloc (.cells #[.slice M.r.A M.r.n M.r.c, .slice M.l.A M.l.n M.l.c, .slice M.p.A M.p.n M.p.c, .slice M.o.A M.o.n M.o.c, .slice M.g.A M.g.n M.g.c, .slice M.s.A M.s.n M.s.c, .slice M.m.A M.m.n M.m.c] 30) = W4 at *
      have s3 : W4.cell? ⟨w3.heap.size, 3, none⟩ = some (.slice M.o.A M.o.n M.o.c) := HN6.out.cell 3
      have z3 : W4.frozen? ⟨w3.heap.size, 3, none⟩ = false := HN6.out.frozen 3
      go_upto_region 8 with fail
      have HI0 : Hid (GO w3 M (.slice none 0 0) [] (W4.setCell ⟨w3.heap.size, 3, none⟩ (.slice none 0 0))) := Lib.hid ⟨Blk.set_to HN6.out 3 (.slice none 0 0) rfl, by simpa using World.ownsRow_nil _ _ _ _, HB4.out.setCell (p := ⟨w3.heap.size, 3, none⟩) (Nat.le_refl _) (.slice none 0 0)⟩
      clear s3 z3 HN6 HB4
      generalize W4.setCell ⟨w3.heap.size, 3, none⟩ (.slice none 0 0) = W5 at *
      go_wp2
      go_loopw [7, 8] (fun bv i wr => ∃ (q : Nat) (vo : Value), q ≤ n0 ∧ i = .int .i64 q ∧ bv = .int .i64 ((bestI ks q : Nat) : Int) ∧ Hid (GO w3 M vo ((leOs ks).take q) wr)) (fun _ i _ => n0 - (intOf i).toNat)
      case atStart => exact ⟨0, _, Nat.zero_le _, rfl, rfl, HI0⟩
      case round =>
        clear HI0
        obtain ⟨q, vo, hq, rfl, rfl, HI⟩ := hrel
        rcases Nat.lt_or_ge q n0 with hlt | hge
        · obtain ⟨b9, o9, e9, _, c9⟩ := (HJ.out.next (HB3.out.trans (HI.out.lo.mono HB3.out.size))).at_ hlt
          cases e9
          have hi0 : (q : Int) < (n0 : Int) := by omega
          have hN := number_any (xs0.getD q 0) 5
          rw [← HKE.out q hlt] at hN
          have HTK := Lib.hid (take_snoc (leOs_at (ks := ks) (q := q) (by have := HKL.out; omega)))
          have HBn : Hid (bestI ks (q + 1) = if ks.getD q 0 < ks.getD (bestI ks q) 0 then q else bestI ks q) := Lib.hid rfl
          have HBl : Hid (bestI ks q ≤ q) := Lib.hid (bestI_lt ks q).1
          have HLl : ((leOs ks).take q).length ≤ 6 := by rw [List.length_take]; omega
          have hk4 := HK4.out q
          unfold leRow at HTK
          obtain ⟨cb, hcb⟩ : ∃ cb, ks.getD (bestI ks q) 0 = cb := ⟨_, rfl⟩
          rw [hcb] at HBn
          have HCB := Lib.hid hcb
          clear hcb
          generalize hbi : bestI ks q = bb at *
          have HNU := Lib.hid hN
          clear hN hbi
          generalize ks.getD q 0 = kc at *
          generalize xs0.getD q 0 = xq at *
          obtain ⟨L, hL⟩ : ∃ L, (leOs ks).take q = L := ⟨_, rfl⟩
          rw [hL] at HI HTK HLl
          have HA1 := Lib.hid fun W => naddr_any 1 (50 + q) (by decide) (by omega) W
          rw [show ((50 + q : Nat) : Int) = 50 + (q : Int) by omega, show ((1 : Nat) : Int) = 1 from rfl] at HA1
          clear hL
          go_upto_region 13 with (go_at_call 19; refine (HNU.out _ (by decide) (by decide)).mono ?_; rintro e w2 ⟨rfl, rfl⟩)
          have CN : Hid (wr.cell? ⟨w3.heap.size, 3, none⟩ = some vo) := Lib.hid (HI.out.blk.cell 3)
          have RN : Hid (vo.ownBlock ≠ some w3.heap.size) := Lib.hid (row_not HI.out.blk HI.out.o (by decide))
          have HVO := Lib.hid HI.out.o
          have HVLT : Hid (∀ g, vo.ownBlock = some g → g < wr.heap.size) := Lib.hid fun g hg => (HVO.out.lt g hg).2
          have HLO5 : Hid (w3.heap.size ≤ wr.heap.size) := Lib.hid HI.out.lo.size
          have HLL : Hid (L.length ≤ 1000) := Lib.hid (by omega)
          refine wp_region_held_drew (S := fun _ => True) (by kernel_rfl) trivial (fun _ => ?_)
          refine wpAnyH_each (md := .any) (m := 1) (rem := [0, 1, 2, 3, 4, 5, 6, 7, 8, 9, 10]) (tail := [11]) (deps := fun i => match i with | 1 => [0] | 4 => [3] | 5 => [4] | 7 => [2, 5, 6] | 8 => [7] | 9 => [1, 8] | _ => []) (Tg wr vo.ownBlock 9) (Kl vo.ownBlock 9)
            (fun ix ds v W => match ix with | 0 => v = .pointer (some ⟨w3.heap.size, 3, none⟩) | 1 => v = vo | 2 => v = .agg #[.int .u32 335544320, .int .i64 8] | 3 => v = .int .i64 (q : Int) | 4 => v = .int .i64 (50 + (q : Int)) | 5 => v = .int .u32 (adr 1 (50 + q)) | 6 => v = .int .i64 kc | 7 => v = .agg #[.int .i64 0, .int .u32 335544320, .int .i64 8, .int .u32 (adr 1 (50 + q)), .int .i64 (kc)] | 8 => ∃ h, v = .slice (some ⟨h, 0, none⟩) 1 1 ∧ wr.heap.size ≤ h ∧ Blk W h 64 #[.int .i64 0, .int .u32 335544320, .int .i64 8, .int .u32 (adr 1 (50 + q)), .int .i64 (kc)] | 9 => W.ownsRow w3.heap.size 64 5 v (L ++ [(0, 335544320, 8, adr 1 (50 + q), kc)]).length ((L ++ [(0, 335544320, 8, adr 1 (50 + q), kc)]).flatMap CRoute) | 10 => v = .pointer (some ⟨w3.heap.size, 3, none⟩) | _ => True) (eachB_spec (by kernel_rfl)) (fun _ _ _ _ _ _ _ h k => h.stepl k) (fun _ _ _ => trivial) ?_ (fun _ _ _ _ => True) (fun _ _ _ _ _ _ _ _ _ _ _ _ _ _ => ⟨trivial, trivial⟩) ?_ ?_ (Tg.nil (Below.refl _ _).drew)
          · intro i hi j _ hij hjd ds v u l W W' _ _ hk h
            simp only [List.mem_cons, List.not_mem_nil, or_false] at hi
            rcases hi with rfl | rfl | rfl | rfl | rfl | rfl | rfl | rfl | rfl | rfl | rfl
            · exact h
            · exact h
            · exact h
            · exact h
            · exact h
            · exact h
            · exact h
            · exact h
            · obtain ⟨h', e, hs, hb⟩ := h
              exact ⟨h', e, hs, (hk.grown.block h' hb.lt (fun e => by have := HVLT.out h' e.symm; omega)).trans hb⟩
            · exact ownk_next h (hk.below (Ne.symm hij))
            · exact h
          · refine AllO.cons [] rfl rfl (fun vs l W hl hT hd => ?_) ?_
            · dsimp only [lay, List.foldl, List.map, dstOf]
              go_wp2
              exact ⟨rfl, _, rfl, Kl.mk (by decide) (Below.refl _ _), rfl⟩
            refine AllO.cons [0] rfl rfl (fun vs l W hl hT hd => ?_) ?_
            · have e0 : vs 0 = .pointer (some ⟨w3.heap.size, 3, none⟩) := hd 0 (by simp)
              have c3 : W.cell? ⟨w3.heap.size, 3, none⟩ = some vo := hT.cell CN.out RN.out
              dsimp only [lay, List.foldl, List.map, dstOf]
              rw [e0]
              go_wp2
              exact ⟨rfl, _, rfl, Kl.mk (by decide) (Below.refl _ _), rfl⟩
            refine AllO.cons [] rfl rfl (fun vs l W hl hT hd => ?_) ?_
            · dsimp only [lay, List.foldl, List.map, dstOf]
              go_wp2
              exact ⟨rfl, _, rfl, Kl.mk (by decide) (Below.refl _ _), rfl⟩
            refine AllO.cons [] rfl rfl (fun vs l W hl hT hd => ?_) ?_
            · dsimp only [lay, List.foldl, List.map, dstOf]
              go_wp2
              exact ⟨rfl, _, rfl, Kl.mk (by decide) (Below.refl _ _), rfl⟩
            refine AllO.cons [3] rfl rfl (fun vs l W hl hT hd => ?_) ?_
            · have e3 : vs 3 = .int .i64 (q : Int) := hd 3 (by simp)
              dsimp only [lay, List.foldl, List.map, dstOf]
              rw [e3]
              go_wp2
              exact ⟨rfl, _, rfl, Kl.mk (by decide) (Below.refl _ _), rfl⟩
            refine AllO.cons [4] rfl rfl (fun vs l W hl hT hd => ?_) ?_
            · have e4 : vs 4 = .int .i64 (50 + (q : Int)) := hd 4 (by simp)
              have hC := Lib.hid (HA1.out W)
              dsimp only [lay, List.foldl, List.map, dstOf]
              rw [e4]
              go_wp2_with (go_at_call 21; refine hC.out.mono ?_; rintro e w1 ⟨rfl, rfl⟩)
              exact ⟨rfl, _, (by first | rfl | (simp [Act.put]; omega)), Kl.mk (by decide) (Below.refl _ _), rfl⟩
            refine AllO.cons [] rfl rfl (fun vs l W hl hT hd => ?_) ?_
            · dsimp only [lay, List.foldl, List.map, dstOf]
              go_wp2
              exact ⟨rfl, _, rfl, Kl.mk (by decide) (Below.refl _ _), rfl⟩
            refine AllO.cons [2, 5, 6] rfl rfl (fun vs l W hl hT hd => ?_) ?_
            · have e2 : vs 2 = .agg #[.int .u32 335544320, .int .i64 8] := hd 2 (by simp)
              have e5 : vs 5 = .int .u32 (adr 1 (50 + q)) := hd 5 (by simp)
              have e6 : vs 6 = .int .i64 kc := hd 6 (by simp)
              dsimp only [lay, List.foldl, List.map, dstOf]
              rw [e2, e5, e6]
              go_wp2
              exact ⟨rfl, _, rfl, Kl.mk (by decide) (Below.refl _ _), rfl⟩
            refine AllO.cons [7] rfl rfl (fun vs l W hl hT hd => ?_) ?_
            · have e7 : vs 7 = .agg #[.int .i64 0, .int .u32 335544320, .int .i64 8, .int .u32 (adr 1 (50 + q)), .int .i64 (kc)] := hd 7 (by simp)
              dsimp only [lay, List.foldl, List.map, dstOf]
              rw [e7]
              go_wp2
              exact ⟨rfl, _, rfl, Kl.mk (by decide) ((Below.refl _ _).alloc (Nat.le_refl _) _), _, rfl, hT.grown.size, Blk.new _ _ _⟩
            refine AllO.cons [1, 8] rfl rfl (fun vs l W hl hT hd => ?_) ?_
            · have e1 : vs 1 = vo := hd 1 (by simp)
              obtain ⟨h', e8, hs', hb'⟩ := hd 8 (by simp)
              dsimp only [lay, List.foldl, List.map, dstOf]
              rw [e1, e8]
              obtain ⟨i0, z0, hi, hz, hzs, hsz, hby⟩ := info_route
              have hbp := hT.pre hl
              refine wpList_append_own_at _ rfl _ _ 25 rfl w3.heap.size 64 i0 z0 5 40 Tryz.underlying25 hi hz hsz hby hzs (by decide) vo L.length (L.flatMap CRoute) (by rfl) (ownk_next HVO.out hbp) ⟨h', 0, none⟩ 1 1 ([(0, 335544320, 8, adr 1 (50 + q), kc)].flatMap CRoute) (by rfl) (by rfl) (blk_news hb' (by rfl)) (fun u hu => by
                obtain ⟨y, _, hy⟩ := List.mem_flatMap.1 hu
                exact route_one y u hy) (by have := HLL.out; unfold maxLen; omega) (by have := HLL.out; omega) (Nat.le_trans HLO5.out hT.grown.size) ?_
              intro v' w' hown hg _ _
              refine wpList_nil ?_
              exact ⟨rfl, _, rfl, Kl.app hg, by rw [List.length_append, List.flatMap_append]; exact hown⟩
            refine AllO.cons [] rfl rfl (fun vs l W hl hT hd => ?_) AllO.nil
            · dsimp only [lay, List.foldl, List.map, dstOf]
              go_wp2
              exact ⟨rfl, _, rfl, Kl.mk (by decide) (Below.refl _ _), rfl⟩
          · intro vs l W hall hT hF _ aE LE ha hL
            have e0 : vs 0 = .pointer (some ⟨w3.heap.size, 3, none⟩) := hF 0 (by simp)
            have e1 : vs 1 = vo := hF 1 (by simp)
            have e2 : vs 2 = .agg #[.int .u32 335544320, .int .i64 8] := hF 2 (by simp)
            have e3 : vs 3 = .int .i64 (q : Int) := hF 3 (by simp)
            have e4 : vs 4 = .int .i64 (50 + (q : Int)) := hF 4 (by simp)
            have e5 : vs 5 = .int .u32 (adr 1 (50 + q)) := hF 5 (by simp)
            have e6 : vs 6 = .int .i64 kc := hF 6 (by simp)
            have e7 : vs 7 = .agg #[.int .i64 0, .int .u32 335544320, .int .i64 8, .int .u32 (adr 1 (50 + q)), .int .i64 (kc)] := hF 7 (by simp)
            have e10 : vs 10 = .pointer (some ⟨w3.heap.size, 3, none⟩) := hF 10 (by simp)
            obtain ⟨hbs, e8, -, -⟩ := hF 8 (by simp)
            have hown16 := hF 9 (by simp)
            have hL' : LE = #[true, true, true, true, true, true, true, true, true, true, true, false] := hL.trans (by kernel_rfl)
            dsimp only [lay, List.foldl, dstOf] at ha
            rw [e0, e1, e2, e3, e4, e5, e6, e7, e8, e10] at ha
            clear e0 e1 e2 e3 e4 e5 e6 e7 e8 e10 hL hF
            subst ha hL'
            generalize vs 9 = v16 at *
            obtain ⟨g16, cap16, rfl⟩ := own_some hown16 (by simp only [List.length_append, List.length_cons]; omega)
            have c13 : W.cell? ⟨w3.heap.size, 3, none⟩ = some vo := hT.cell CN.out RN.out
            have f13 : W.frozen? ⟨w3.heap.size, 3, none⟩ = false := (hT.blk HI.out.blk RN.out).frozen _
            have HI6 := Lib.hid (HI.out.step_o hT.grown hown16)
            refine wpAnyH_ready (rs := [11]) (by kernel_rfl) (by simp) ?_
            refine AllReadyH.cons rfl (fun K hK => ?_) AllReadyH.nil
            generalize (L ++ [(0, 335544320, 8, adr 1 (50 + q), kc)]).length = LN at *
            go_simp
            refine hK.out _ _ trivial (fun _ => ?_)
            clear hK
            clear K
            refine wpAnyH_done (by kernel_rfl) ?_ _
            clear c13 f13 hown16 hall hT
            generalize W.setCell ⟨w3.heap.size, 3, none⟩ (.slice (some ⟨g16, 0, none⟩) LN cap16) = W6 at *
            clear CN RN HVO HVLT HLO5 HLL
            obtain ⟨Ao, co, eo, hco, hir⟩ := IR.of_own route_len HI6.out.o
            cases eo
            rw [← HTK.out] at hir HI6
            have hbq : bb < (leOs ks).length ∧ bb < q + 1 := by rw [leOs_len]; have := HBl.out; have := HKL.out; omega
            have hll : ((leOs ks).take (q + 1)).length = q + 1 := by rw [List.length_take, leOs_len]; have := HKL.out; omega
            rw [hll] at hir HI6
            obtain ⟨b8, o8, yy, hA8, _, hx8, y0, y1, y2, y3, y4⟩ := IRoute.cells hir (i := bb) (by omega)
            rw [List.getElem?_take_of_lt hbq.2, leOs_at (by rw [leOs_len] at hbq; exact hbq.1)] at hx8
            cases hx8
            cases hA8
            change W6.cell? _ = some (Value.int IntKind.i64 (ks.getD bb 0)) at y4
            rw [HCB.out, Nat.zero_add] at y4
            have n3 : W6.cell? ⟨w3.heap.size, 3, none⟩ = some (.slice (some ⟨g16, 0, none⟩) (q + 1) cap16) := HI6.out.blk.cell 3
            have hb1 : (bb : Int) < (q : Int) + 1 := by have := HBl.out; omega
            clear hir hbq hll
            by_cases hkc : kc < cb
            · rw [if_pos hkc] at HBn
              go_wp2
              clear y0 y1 y2 y3 y4 n3 c9
              go_roundw
              case rel => exact ⟨q + 1, _, by omega, by go_num, by rw [HBn.out], HI6⟩
              case measure => simp [intOf]; omega
            · rw [if_neg hkc] at HBn
              go_wp2
              clear y0 y1 y2 y3 y4 n3 c9
              go_roundw
              case rel => exact ⟨q + 1, _, by omega, by go_num, by rw [HBn.out], HI6⟩
              case measure => simp [intOf]; omega
        · obtain rfl : q = n0 := by omega
          have hi0 : ¬ ((q : Int) < (q : Int)) := by omega
          have hall : (leOs ks).take q = leOs ks := List.take_of_length_le (by rw [leOs_len, HKL.out]; omega)
          rw [hall] at HI
          clear hall
          obtain ⟨bb, hbb⟩ : ∃ bb, bestI ks q = bb := ⟨_, rfl⟩
          have HBB : Hid (bestI ks q = bb) := Lib.hid hbb
          have HBB3 : Hid (bb < q) := Lib.hid (by rw [← hbb]; exact (bestI_lt ks q).2 (by omega))
          rw [hbb]
          clear hbb
          obtain ⟨cb, hcb⟩ : ∃ cb, ks.getD bb 0 = cb := ⟨_, rfl⟩
          have HCB : Hid (ks.getD bb 0 = cb) := Lib.hid hcb
          clear hcb
          have HAb := Lib.hid fun W => naddr_any 1 (50 + bb) (by decide) (by have := HBB3.out; omega) W
          rw [show ((50 + bb : Nat) : Int) = 50 + (bb : Int) by omega, show ((1 : Nat) : Int) = 1 from rfl] at HAb
          have hN := number_any a1 2
          have h2 : a1 % 2 = 1 ∨ a1 % 2 = 0 := by omega
          rcases h2 with h2 | h2
          · rw [h2] at hN
            have HNU := Lib.hid hN
            clear hN h2
            go_upto_region 18 with (go_at_call 19; refine (HNU.out _ (by decide) (by decide)).mono ?_; rintro e w2 ⟨rfl, rfl⟩)
            have hLl : (leOs ks).length ≤ 6 := by rw [leOs_len]; exact HK6.out
            have CN : Hid (wr.cell? ⟨w3.heap.size, 3, none⟩ = some vo) := Lib.hid (HI.out.blk.cell 3)
            have RN : Hid (vo.ownBlock ≠ some w3.heap.size) := Lib.hid (row_not HI.out.blk HI.out.o (by decide))
            have HVO := Lib.hid HI.out.o
            have HVLT : Hid (∀ g, vo.ownBlock = some g → g < wr.heap.size) := Lib.hid fun g hg => (HVO.out.lt g hg).2
            have HLO5 : Hid (w3.heap.size ≤ wr.heap.size) := Lib.hid HI.out.lo.size
            have HLL : Hid ((leOs ks).length ≤ 1000) := Lib.hid (by omega)
            refine wp_region_held_drew (S := fun _ => True) (by kernel_rfl) trivial (fun _ => ?_)
            refine wpAnyH_each (md := .any) (m := 1) (rem := [0, 1, 2, 3, 4, 5, 6, 7]) (tail := [8]) (deps := fun i => match i with | 1 => [0] | 4 => [2, 3] | 5 => [4] | 6 => [1, 5] | _ => []) (Tg wr vo.ownBlock 6) (Kl vo.ownBlock 6)
              (fun ix ds v W => match ix with | 0 => v = .pointer (some ⟨w3.heap.size, 3, none⟩) | 1 => v = vo | 2 => v = .agg #[.int .u32 335544320, .int .i64 9] | 3 => v = .int .u32 (adr 0 70) | 4 => v = .agg #[.int .i64 0, .int .u32 335544320, .int .i64 9, .int .u32 (adr 0 70), .int .i64 (900)] | 5 => ∃ h, v = .slice (some ⟨h, 0, none⟩) 1 1 ∧ wr.heap.size ≤ h ∧ Blk W h 64 #[.int .i64 0, .int .u32 335544320, .int .i64 9, .int .u32 (adr 0 70), .int .i64 (900)] | 6 => W.ownsRow w3.heap.size 64 5 v ((leOs ks) ++ [(0, 335544320, 9, adr 0 70, 900)]).length (((leOs ks) ++ [(0, 335544320, 9, adr 0 70, 900)]).flatMap CRoute) | 7 => v = .pointer (some ⟨w3.heap.size, 3, none⟩) | _ => True) (eachB_spec (by kernel_rfl)) (fun _ _ _ _ _ _ _ h k => h.stepl k) (fun _ _ _ => trivial) ?_ (fun _ _ _ _ => True) (fun _ _ _ _ _ _ _ _ _ _ _ _ _ _ => ⟨trivial, trivial⟩) ?_ ?_ (Tg.nil (Below.refl _ _).drew)
            · intro i hi j _ hij hjd ds v u l W W' _ _ hk h
              simp only [List.mem_cons, List.not_mem_nil, or_false] at hi
              rcases hi with rfl | rfl | rfl | rfl | rfl | rfl | rfl | rfl
              · exact h
              · exact h
              · exact h
              · exact h
              · exact h
              · obtain ⟨h', e, hs, hb⟩ := h
                exact ⟨h', e, hs, (hk.grown.block h' hb.lt (fun e => by have := HVLT.out h' e.symm; omega)).trans hb⟩
              · exact ownk_next h (hk.below (Ne.symm hij))
              · exact h
            · refine AllO.cons [] rfl rfl (fun vs l W hl hT hd => ?_) ?_
              · dsimp only [lay, List.foldl, List.map, dstOf]
                go_wp2
                exact ⟨rfl, _, rfl, Kl.mk (by decide) (Below.refl _ _), rfl⟩
              refine AllO.cons [0] rfl rfl (fun vs l W hl hT hd => ?_) ?_
              · have e0 : vs 0 = .pointer (some ⟨w3.heap.size, 3, none⟩) := hd 0 (by simp)
                have c3 : W.cell? ⟨w3.heap.size, 3, none⟩ = some vo := hT.cell CN.out RN.out
                dsimp only [lay, List.foldl, List.map, dstOf]
                rw [e0]
                go_wp2
                exact ⟨rfl, _, rfl, Kl.mk (by decide) (Below.refl _ _), rfl⟩
              refine AllO.cons [] rfl rfl (fun vs l W hl hT hd => ?_) ?_
              · dsimp only [lay, List.foldl, List.map, dstOf]
                go_wp2
                exact ⟨rfl, _, rfl, Kl.mk (by decide) (Below.refl _ _), rfl⟩
              refine AllO.cons [] rfl rfl (fun vs l W hl hT hd => ?_) ?_
              · have hC := Lib.hid (HA0.out W)
                dsimp only [lay, List.foldl, List.map, dstOf]
                go_wp2_with (go_at_call 21; refine hC.out.mono ?_; rintro e w1 ⟨rfl, rfl⟩)
                exact ⟨rfl, _, (by first | rfl | (simp [Act.put]; omega)), Kl.mk (by decide) (Below.refl _ _), rfl⟩
              refine AllO.cons [2, 3] rfl rfl (fun vs l W hl hT hd => ?_) ?_
              · have e2 : vs 2 = .agg #[.int .u32 335544320, .int .i64 9] := hd 2 (by simp)
                have e3 : vs 3 = .int .u32 (adr 0 70) := hd 3 (by simp)
                dsimp only [lay, List.foldl, List.map, dstOf]
                rw [e2, e3]
                go_wp2
                exact ⟨rfl, _, rfl, Kl.mk (by decide) (Below.refl _ _), rfl⟩
              refine AllO.cons [4] rfl rfl (fun vs l W hl hT hd => ?_) ?_
              · have e4 : vs 4 = .agg #[.int .i64 0, .int .u32 335544320, .int .i64 9, .int .u32 (adr 0 70), .int .i64 (900)] := hd 4 (by simp)
                dsimp only [lay, List.foldl, List.map, dstOf]
                rw [e4]
                go_wp2
                exact ⟨rfl, _, rfl, Kl.mk (by decide) ((Below.refl _ _).alloc (Nat.le_refl _) _), _, rfl, hT.grown.size, Blk.new _ _ _⟩
              refine AllO.cons [1, 5] rfl rfl (fun vs l W hl hT hd => ?_) ?_
              · have e1 : vs 1 = vo := hd 1 (by simp)
                obtain ⟨h', e5, hs', hb'⟩ := hd 5 (by simp)
                dsimp only [lay, List.foldl, List.map, dstOf]
                rw [e1, e5]
                obtain ⟨i0, z0, hi, hz, hzs, hsz, hby⟩ := info_route
                have hbp := hT.pre hl
                refine wpList_append_own_at _ rfl _ _ 25 rfl w3.heap.size 64 i0 z0 5 40 Tryz.underlying25 hi hz hsz hby hzs (by decide) vo (leOs ks).length ((leOs ks).flatMap CRoute) (by rfl) (ownk_next HVO.out hbp) ⟨h', 0, none⟩ 1 1 ([(0, 335544320, 9, adr 0 70, 900)].flatMap CRoute) (by rfl) (by rfl) (blk_news hb' (by rfl)) (fun u hu => by
                  obtain ⟨y, _, hy⟩ := List.mem_flatMap.1 hu
                  exact route_one y u hy) (by have := HLL.out; unfold maxLen; omega) (by have := HLL.out; omega) (Nat.le_trans HLO5.out hT.grown.size) ?_
                intro v' w' hown hg _ _
                refine wpList_nil ?_
                exact ⟨rfl, _, rfl, Kl.app hg, by rw [List.length_append, List.flatMap_append]; exact hown⟩
              refine AllO.cons [] rfl rfl (fun vs l W hl hT hd => ?_) AllO.nil
              · dsimp only [lay, List.foldl, List.map, dstOf]
                go_wp2
                exact ⟨rfl, _, rfl, Kl.mk (by decide) (Below.refl _ _), rfl⟩
            · intro vs l W hall hT hF _ aE LE ha hL
              have e0 : vs 0 = .pointer (some ⟨w3.heap.size, 3, none⟩) := hF 0 (by simp)
              have e1 : vs 1 = vo := hF 1 (by simp)
              have e2 : vs 2 = .agg #[.int .u32 335544320, .int .i64 9] := hF 2 (by simp)
              have e3 : vs 3 = .int .u32 (adr 0 70) := hF 3 (by simp)
              have e4 : vs 4 = .agg #[.int .i64 0, .int .u32 335544320, .int .i64 9, .int .u32 (adr 0 70), .int .i64 (900)] := hF 4 (by simp)
              have e7 : vs 7 = .pointer (some ⟨w3.heap.size, 3, none⟩) := hF 7 (by simp)
              obtain ⟨hbs, e5, -, -⟩ := hF 5 (by simp)
              have hown16 := hF 6 (by simp)
              have hL' : LE = #[true, true, true, true, true, true, true, true, false] := hL.trans (by kernel_rfl)
              dsimp only [lay, List.foldl, dstOf] at ha
              rw [e0, e1, e2, e3, e4, e5, e7] at ha
              clear e0 e1 e2 e3 e4 e5 e7 hL hF
              subst ha hL'
              generalize vs 6 = v16 at *
              obtain ⟨g16, cap16, rfl⟩ := own_some hown16 (by simp only [List.length_append, List.length_cons]; omega)
              have c13 : W.cell? ⟨w3.heap.size, 3, none⟩ = some vo := hT.cell CN.out RN.out
              have f13 : W.frozen? ⟨w3.heap.size, 3, none⟩ = false := (hT.blk HI.out.blk RN.out).frozen _
              have HI6 := Lib.hid (HI.out.step_o hT.grown hown16)
              refine wpAnyH_ready (rs := [8]) (by kernel_rfl) (by simp) ?_
              refine AllReadyH.cons rfl (fun K hK => ?_) AllReadyH.nil
              generalize ((leOs ks) ++ [(0, 335544320, 9, adr 0 70, 900)]).length = LN at *
              go_simp
              refine hK.out _ _ trivial (fun _ => ?_)
              clear hK
              clear K
              refine wpAnyH_done (by kernel_rfl) ?_ _
              clear c13 f13 hown16 hall hT
              generalize W.setCell ⟨w3.heap.size, 3, none⟩ (.slice (some ⟨g16, 0, none⟩) LN cap16) = W6 at *
              clear CN RN HVO HVLT HLO5 HLL
              obtain ⟨Ao, co, eo, hco, hir⟩ := IR.of_own route_len HI6.out.o
              cases eo
              have hlt : (leCfg1 ks).os.length = q + 1 := by show (leOs ks ++ [leLong]).length = q + 1; rw [List.length_append, leOs_len, HKL.out]; rfl
              have hn16 : (leCfg1 ks).os.length ≤ 1000000 := by rw [hlt]; omega
              have HNW := Lib.hid (new_ok ads { M with o := ⟨some ⟨g16, 0, none⟩, (leCfg1 ks).os.length, cap16⟩ } (leCfg1 ks) [] W6 (HE.out.below (HB3.out.trans (HI6.out.lo.mono HB3.out.size))) (CW.routes (HCW.out.next HI6.out.lo) hir hco hn16 (le_u321 ks HK6.out)) (le_valid1 ks HK6.out HK4.out) (line_rn 1 0) (line_ln 1 0) (fun W _ => groups0_any _ W HCW.out.s.len.symm HCW.out.m.len.symm) (line_ports 1 0) (fun y hy => (by cases hy)))
              have HBr := Lib.hid (HB3.out.trans (HI6.out.lo.mono HB3.out.size))
              have HRO := Lib.hid (le_ribok1 ks HK4.out)
              have HN := Lib.hid HI6.out.blk
              have HIR := Lib.hid hir
              dsimp only at HNW
              have hlt2 : (leOs ks ++ ([(0, 335544320, 9, adr 0 70, 900)] : List (Int × Int × Int × Int × Int))).length = q + 1 := hlt
              rw [hlt2] at HN HIR
              clear hlt2
              rw [hlt] at HNW
              have n0_ : W6.cell? ⟨w3.heap.size, 0, none⟩ = some (.slice M.r.A M.r.n M.r.c) := HN.out.cell 0
              have n1 : W6.cell? ⟨w3.heap.size, 1, none⟩ = some (.slice M.l.A M.l.n M.l.c) := HN.out.cell 1
              have n2 : W6.cell? ⟨w3.heap.size, 2, none⟩ = some (.slice M.p.A M.p.n M.p.c) := HN.out.cell 2
              have n3 : W6.cell? ⟨w3.heap.size, 3, none⟩ = some (.slice (some ⟨g16, 0, none⟩) (q + 1) cap16) := HN.out.cell 3
              have n4 : W6.cell? ⟨w3.heap.size, 4, none⟩ = some (.slice M.g.A M.g.n M.g.c) := HN.out.cell 4
              have n5 : W6.cell? ⟨w3.heap.size, 5, none⟩ = some (.slice M.s.A M.s.n M.s.c) := HN.out.cell 5
              have n6 : W6.cell? ⟨w3.heap.size, 6, none⟩ = some (.slice M.m.A M.m.n M.m.c) := HN.out.cell 6
              clear hlt hn16 hir hco
              go_upto_region 22 with (go_at_call 11; refine HNW.out.mono ?_; rintro e w6 ⟨T, x', rfl, hT, hal, hb6⟩; have HT := Lib.hid hT; have HAL := Lib.hid hal; have HB6 := Lib.hid (below_next HBr.out hb6); have HN6b := Lib.hid (HN.out.next hb6); have HIR6 := Lib.hid (IR.next HIR.out hb6); have HC6 := Lib.hid ((HBq.out.trans ((below_of_go HI6.out HBq.out).mono HBq.out.size)).trans (hb6.mono (Nat.le_trans HBq.out.size (below_of_go HI6.out HBq.out).size))); clear hT hal hb6)
              clear n0_ n1 n2 n3 n4 n5 n6
              have HLK := Lib.hid fun W (hW : Below w6.heap.size w6 W) => look_at HAL.out HRO.out (line_rn 1 0) (line_ln 1 0) 0 335544325 W (HT.out.next hW)
              have HRT := Lib.hid fun W (hW : Below w6.heap.size w6 W) => routes_at HAL.out HRO.out (line_rn 1 0) (line_ln 1 0) 0 335544325 W (HT.out.next hW)
              rw [(le_look1 ks HK0.out HK6.out).1] at HLK
              rw [(le_look1 ks HK0.out HK6.out).2, HKL.out] at HRT
              try dsimp only at HLK
              go_upto_region 23 with (go_at_call 14; refine (HLK.out _ (Below.refl _ _)).mono ?_; rintro e w7 ⟨rfl, hb7⟩; have HB7 := Lib.hid hb7; clear hb7)
              have HB7a := Lib.hid (HB7.out.alloc HB7.out.size (.cells #[.int .i64 0, .int .u32 (adr 0 70), .int .i64 900] 45))
              have HWy := Lib.hid (Blk.new w7 45 #[.int .i64 0, .int .u32 (adr 0 70), .int .i64 900])
              generalize w7.alloc (.cells #[.int .i64 0, .int .u32 (adr 0 70), .int .i64 900] 45) = W7 at *
              go_upto_region 25 with (go_at_call 17; refine (HRT.out _ HB7a.out).mono ?_; rintro e w8 ⟨Ar, cr, rfl, hjr, hb8⟩; have HB8 := Lib.hid (HB7a.out.trans (hb8.mono HB7a.out.size)); have HW8 := Lib.hid (HWy.out.next hb8); have HJR := Lib.hid hjr; clear hjr hb8)
              have s0 : ∀ W, Below w8.heap.size w8 W → W.cell? ⟨w7.heap.size, 0, none⟩ = some (.int .i64 0) := fun W hW => (HW8.out.next hW).cell 0
              have s1 : ∀ W, Below w8.heap.size w8 W → W.cell? ⟨w7.heap.size, 1, none⟩ = some (.int .u32 (adr 0 70)) := fun W hW => (HW8.out.next hW).cell 1
              have s2 : ∀ W, Below w8.heap.size w8 W → W.cell? ⟨w7.heap.size, 2, none⟩ = some (.int .i64 900) := fun W hW => (HW8.out.next hW).cell 2
              have hS0 : Below w8.heap.size w8 w8 := Below.refl _ _
              have HSM := Lib.hid fun W g (hW : Below w8.heap.size w8 W) (hb : Blk W g 3 #[.int .i64 (q : Int)]) => same_one (cr := cr) (HJR.out.next hW) hb
              go_region_held3 (fun W => Below w8.heap.size w8 W) (first | with_reducible assumption | with_reducible exact (Below.refl _ _).drew | with_reducible exact ((Below.refl _ _).alloc (Nat.le_refl _) _).drew)
                (first
                | (go_at_call 21; refine (HA0.out _).mono ?_; rintro e w9 ⟨rfl, he⟩; obtain rfl := he.symm)
                | (go_at_call 16; refine (HSM.out _ _ (by with_reducible assumption) (by first | with_reducible exact Blk.new _ _ _ | with_reducible exact (Blk.new _ _ _).drew)).mono ?_; rintro e w10 ⟨rfl, hb10⟩; have hb11 : Below w8.heap.size w8 w10 := below_next (by with_reducible assumption) hb10))
              all_goals (go_wp2; go_ret; exact ⟨rfl, below_next (HB6.out.trans (HB8.out.mono HB6.out.size)) hb11⟩)
          · rw [h2] at hN
            have HNU := Lib.hid hN
            clear hN h2
            go_upto_region 19 with (go_at_call 19; refine (HNU.out _ (by decide) (by decide)).mono ?_; rintro e w2 ⟨rfl, rfl⟩)
            obtain ⟨Ao, co, eo, hco, hir⟩ := IR.of_own route_len HI.out.o
            cases eo
            have hlt : (leCfg ks).os.length = q := by show (leOs ks).length = q; rw [leOs_len, HKL.out]
            have hn16 : (leCfg ks).os.length ≤ 1000000 := by rw [hlt]; omega
            have HNW := Lib.hid (new_ok ads { M with o := ⟨Ao, (leCfg ks).os.length, co⟩ } (leCfg ks) [] wr (HE.out.below (HB3.out.trans (HI.out.lo.mono HB3.out.size))) (CW.routes (HCW.out.next HI.out.lo) hir hco hn16 (le_u32 ks HK6.out)) (le_valid ks HK6.out HK4.out) (line_rn 1 0) (line_ln 1 0) (fun W _ => groups0_any _ W HCW.out.s.len.symm HCW.out.m.len.symm) (line_ports 1 0) (fun y hy => (by cases hy)))
            have HBr := Lib.hid (HB3.out.trans (HI.out.lo.mono HB3.out.size))
            have HRO := Lib.hid (le_ribok ks HK4.out)
            have HN := Lib.hid HI.out.blk
            have HIR := Lib.hid hir
            dsimp only at HNW
            rw [show (leOs ks).length = q from hlt] at HN HIR
            rw [hlt] at HNW
            have n0_ : wr.cell? ⟨w3.heap.size, 0, none⟩ = some (.slice M.r.A M.r.n M.r.c) := HN.out.cell 0
            have n1 : wr.cell? ⟨w3.heap.size, 1, none⟩ = some (.slice M.l.A M.l.n M.l.c) := HN.out.cell 1
            have n2 : wr.cell? ⟨w3.heap.size, 2, none⟩ = some (.slice M.p.A M.p.n M.p.c) := HN.out.cell 2
            have n3 : wr.cell? ⟨w3.heap.size, 3, none⟩ = some (.slice Ao q co) := HN.out.cell 3
            have n4 : wr.cell? ⟨w3.heap.size, 4, none⟩ = some (.slice M.g.A M.g.n M.g.c) := HN.out.cell 4
            have n5 : wr.cell? ⟨w3.heap.size, 5, none⟩ = some (.slice M.s.A M.s.n M.s.c) := HN.out.cell 5
            have n6 : wr.cell? ⟨w3.heap.size, 6, none⟩ = some (.slice M.m.A M.m.n M.m.c) := HN.out.cell 6
            clear hlt hn16 hir hco
            go_upto_region 22 with (go_at_call 11; refine HNW.out.mono ?_; rintro e w6 ⟨T, x', rfl, hT, hal, hb6⟩; have HT := Lib.hid hT; have HAL := Lib.hid hal; have HB6 := Lib.hid (below_next HBr.out hb6); have HN6b := Lib.hid (HN.out.next hb6); have HIR6 := Lib.hid (IR.next HIR.out hb6); have HC6 := Lib.hid ((HBq.out.trans ((below_of_go HI.out HBq.out).mono HBq.out.size)).trans (hb6.mono (Nat.le_trans HBq.out.size (below_of_go HI.out HBq.out).size))); clear hT hal hb6)
            clear n0_ n1 n2 n3 n4 n5 n6
            have HLK := Lib.hid fun W (hW : Below w6.heap.size w6 W) => look_at HAL.out HRO.out (line_rn 1 0) (line_ln 1 0) 0 335544325 W (HT.out.next hW)
            have HRT := Lib.hid fun W (hW : Below w6.heap.size w6 W) => routes_at HAL.out HRO.out (line_rn 1 0) (line_ln 1 0) 0 335544325 W (HT.out.next hW)
            rw [le_look ks HK0.out HK6.out HK4.out, HKL.out] at HLK
            have hfr : (farP (leCfg ks) 0 335544325).1.length = q := by rw [le_strip, (le_far0 ⟨ks.length, by have := HK6.out; omega⟩ HK0.out).1]; simp [HKL.out]
            rw [hfr] at HRT
            clear hfr
            dsimp only at HLK
            rw [HBB.out, HCB.out] at HLK
            try dsimp only at HLK
            go_upto_region 23 with (go_at_call 14; refine (HLK.out _ (Below.refl _ _)).mono ?_; rintro e w7 ⟨rfl, hb7⟩; have HB7 := Lib.hid hb7; clear hb7)
            have HB7a := Lib.hid (HB7.out.alloc HB7.out.size (.cells #[.int .i64 1, .int .u32 (adr 1 (50 + bb)), .int .i64 cb] 45))
            have HWy := Lib.hid (Blk.new w7 45 #[.int .i64 1, .int .u32 (adr 1 (50 + bb)), .int .i64 cb])
            generalize w7.alloc (.cells #[.int .i64 1, .int .u32 (adr 1 (50 + bb)), .int .i64 cb] 45) = W7 at *
            go_upto_region 26 with (go_at_call 17; refine (HRT.out _ HB7a.out).mono ?_; rintro e w8 ⟨Ar, cr, rfl, hjr, hb8⟩; have HB8 := Lib.hid (HB7a.out.trans (hb8.mono HB7a.out.size)); have HW8 := Lib.hid (HWy.out.next hb8); have HJR := Lib.hid hjr; clear hjr hb8)
            have s0 : w8.cell? ⟨w7.heap.size, 0, none⟩ = some (.int .i64 1) := HW8.out.cell 0
            have s1 : w8.cell? ⟨w7.heap.size, 1, none⟩ = some (.int .u32 (adr 1 (50 + bb))) := HW8.out.cell 1
            have s2 : w8.cell? ⟨w7.heap.size, 2, none⟩ = some (.int .i64 cb) := HW8.out.cell 2
            obtain ⟨b9, o9, yy, hA9, _, hx9, y0, y1, y2, y3, y4⟩ := IRoute.cells (IR.next HIR6.out HB8.out) (i := bb) (by have := HBB3.out; omega)
            rw [leOs_at (by have := HBB3.out; have := HKL.out; omega)] at hx9
            cases hx9
            subst hA9
            have n3 : w8.cell? ⟨w3.heap.size, 3, none⟩ = some (.slice (some ⟨b9, o9, none⟩) q co) := (HN6b.out.next HB8.out).cell 3
            change w8.cell? _ = some (Value.int IntKind.i64 (ks.getD bb 0)) at y4
            rw [HCB.out] at y4
            have hbn : (bb : Int) < (q : Int) := by have := HBB3.out; omega
            go_quiet ((go_at_call 21; exact (Calls.quiet_of_same ((HAb.out _).mono fun _ _ hh => ⟨hh.1, hh.2⟩))))
            go_wp2
            go_ret
            exact ⟨rfl, below_drewN (HB6.out.trans (HB8.out.mono HB6.out.size)) _⟩
end Go.Proofs.YtahnnaagpeinkaaGreatDoor

