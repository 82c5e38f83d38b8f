/- The narrowest range in which a group is has its root; a group in none has none. -/
import Derived.Test.YtboehoflaceohaaGreatDoorRoo
namespace Go.Proofs.YtboehoflaceohaaGreatDoor
open Go.RowKit Lx Sm Go.Maps Go.Sort Go.Shelf
theorem grp_or : ∀ g : Fin 256, bits BinOp.or IntKind.u32 3774873600 ((g.val : Int) * 4096) = grp g.val := by decide +kernel
theorem grp_u32 (g : Nat) (h : g < 256) : U32 (grp g) := by unfold grp U32; omega
theorem sh0 : ∀ g : Fin 256, (grp g.val / 16777216 == 225) = inR g.val 0 := by decide +kernel
theorem sh1 : ∀ g : Fin 256, (grp g.val / 1048576 == 3600) = inR g.val 1 := by decide +kernel
theorem sh2 : ∀ g : Fin 256, (grp g.val / 65536 == 57600) = inR g.val 2 := by decide +kernel
theorem sh3 : ∀ g : Fin 256, (grp g.val / 4096 == 921600) = inR g.val 3 := by decide +kernel
theorem sh4 : ∀ g : Fin 256, (grp g.val / 256 == 14745600) = inR g.val 4 := by decide +kernel
theorem sh5 : ∀ g : Fin 256, (grp g.val / 16 == 235929600) = inR g.val 5 := by decide +kernel
theorem rg_rtr {n g : Nat} (hn : n < 6) (hg : g < 256) : rtrP (rgCfg (n + 1)) (grp g) = some (wantR g (n + 1)) := by
  obtain ⟨h1, h2, h3⟩ := rg_root ⟨n, hn⟩ ⟨g, hg⟩
  dsimp only at h1 h2 h3
  obtain ⟨h4, h5⟩ := rg_at ⟨n + 1, by omega⟩ ⟨(wantR g (n + 1)).toNat, by omega⟩ (by show (wantR g (n + 1)).toNat < n + 1; omega)
  dsimp only at h4 h5
  unfold rtrP
  rw [h1]
  show Option.map _ (lastAt (adr (wantR g (n + 1)).toNat ((wantR g (n + 1)).toNat + 1)) (rgCfg (n + 1)).ps (rgCfg (n + 1)).ps.length) = _
  rw [h4]
  show some ((rgCfg (n + 1)).ps.getD (2 * (wantR g (n + 1)).toNat) (0, 0, 0)).1 = _
  rw [List.getD_eq_getElem?_getD, h5]
  show some (((wantR g (n + 1)).toNat : Nat) : Int) = some (wantR g (n + 1))
  rw [Int.toNat_of_nonneg h2]
set_option maxHeartbeats 16000000 in
set_option maxRecDepth 100000 in
theorem law_rranges (ads : List Addr) (a0 a1 : Int) (w : World) (hE : EnvC ads w) :
    Calls Tryz.prog 3 #[.int .i64 a0, .int .i64 a1] w fun e w' => e = .returned (.bool true) ∧ Below w.heap.size w w' := by
  have HF := Lib.hid (first10_any ads w hE)
  have HE := Lib.hid hE
  obtain ⟨m0, hm0, h0⟩ : ∃ m0 : Nat, m0 < 6 ∧ a0 % 6 = (m0 : Int) := ⟨(a0 % 6).toNat, by omega, by omega⟩
  obtain ⟨m, hm⟩ : ∃ m : Nat, (m0 : Int) + 1 = (m : Int) := ⟨m0 + 1, by omega⟩
  obtain ⟨q, hq, h1⟩ : ∃ q : Nat, q < 256 ∧ a1 % 256 = (q : Int) := ⟨(a1 % 256).toNat, by omega, by omega⟩
  have hm9 : m ≤ 6 := by omega
  have hm1 : 0 < m := by omega
  have N0 := Lib.hid fun W => numb a0 6 m0 (by decide) (by decide) h0 W
  have N1 := Lib.hid fun W => numb a1 256 q (by decide) (by decide) h1 W
  have HL := Lib.hid fun W => line_any m 0 (by omega) (by decide) W
  rw [show ((0 : Nat) : Int) = 0 from rfl] at HL
  clear hE h0 h1
  go_enter Tryz.func3, Tryz.ntmps3
  go_upto_region 7 with (first
    | (go_at_call 4; refine HF.out.mono ?_; rintro e w1 ⟨rfl, hb1⟩; have HB1 := Lib.hid hb1; clear hb1)
    | (go_at_call_of 5 (Value.int IntKind.i64 a0); refine (N0.out _).mono ?_; rintro e w2 ⟨rfl, rfl⟩)
    | (go_at_call_of 5 (Value.int IntKind.i64 a1); refine (N1.out _).mono ?_; rintro e w2 ⟨rfl, rfl⟩)
    | (go_at_call 6; refine (HL.out _).mono ?_; rintro e w3 ⟨M, rfl, hcw, hb3⟩; have HB3 := Lib.hid (below_next HB1.out hb3); have HCW := Lib.hid hcw; clear hcw hb3))
  have HM := Lib.hid hm
  clear hm
  have HN6 := Lib.hid (Blk.new w3 32 #[.slice M.r.A M.r.n M.r.c, .slice M.l.A M.l.n M.l.c, .slice M.p.A M.p.n M.p.c, .slice M.o.A M.o.n M.o.c, .slice M.g.A M.g.n M.g.c, .slice M.s.A M.s.n M.s.c, .slice M.m.A M.m.n M.m.c])
  have HB4 := Lib.hid ((Below.refl w3.heap.size w3).alloc (Nat.le_refl _) (.cells #[.slice M.r.A M.r.n M.r.c, .slice M.l.A M.l.n M.l.c, .slice M.p.A M.p.n M.p.c, .slice M.o.A M.o.n M.o.c, .slice M.g.A M.g.n M.g.c, .slice M.s.A M.s.n M.s.c, .slice M.m.A M.m.n M.m.c] 32))
  generalize w3.alloc (.cells #[.slice M.r.A M.r.n M.r.c, .slice M.l.A M.l.n M.l.c, .slice M.p.A M.p.n M.p.c, .slice M.o.A M.o.n M.o.c, .slice M.g.A M.g.n M.g.c, .slice M.s.A M.s.n M.s.c, .slice M.m.A M.m.n M.m.c] 32) = W4 at *
  have s3 : W4.cell? ⟨w3.heap.size, 4, none⟩ = some (.slice M.g.A M.g.n M.g.c) := HN6.out.cell 4
  have z3 : W4.frozen? ⟨w3.heap.size, 4, none⟩ = false := HN6.out.frozen 4
  go_upto_region 8 with fail
  have HI0 : Hid (GQ w3 M (.slice none 0 0) [] (W4.setCell ⟨w3.heap.size, 4, none⟩ (.slice none 0 0))) := Lib.hid ⟨Blk.set_to HN6.out 4 (.slice none 0 0) rfl, by simpa using World.ownsRow_nil _ _ _ _, HB4.out.setCell (p := ⟨w3.heap.size, 4, none⟩) (Nat.le_refl _) (.slice none 0 0)⟩
  clear s3 z3 HN6 HB4
  generalize W4.setCell ⟨w3.heap.size, 4, none⟩ (.slice none 0 0) = W5 at *
  go_wp2
  go_loopw [7] (fun i wr => ∃ (k : Nat) (vg : Value), k ≤ m ∧ i = .int .i64 k ∧ Hid (GQ w3 M vg ((rgGs m).take k) wr)) (fun i _ => m - (intOf i).toNat)
  case atStart => exact ⟨0, _, Nat.zero_le _, rfl, HI0⟩
  case round =>
    clear HI0
    obtain ⟨k, vg, hk, rfl, HI⟩ := hrel
    rcases Nat.lt_or_ge k m with hlt | hge
    · have hi0 : (k : Int) < (m : Int) := by omega
      have HTK := Lib.hid (take_one (rg_elem hlt))
      have HAD : Hid (∀ W, Calls Tryz.prog 7 #[.int .i64 (k : Int), .int .i64 ((k : Int) + 1)] W fun e w' => e = .returned (.int .u32 (adr k (k + 1))) ∧ w' = W) := Lib.hid fun W => naddr_any k (k + 1) (by omega) (by omega) W
      have hLl : ((rgGs m).take k).length ≤ 6 := by rw [List.length_take]; omega
      generalize (rgGs m).take k = L at *
      go_wp2
      have CN : Hid (wr.cell? ⟨w3.heap.size, 4, none⟩ = some vg) := Lib.hid (HI.out.blk.cell 4)
      have RN : Hid (vg.ownBlock ≠ some w3.heap.size) := Lib.hid (row_not HI.out.blk HI.out.g (by decide))
      have HVO := Lib.hid HI.out.g
      have HVLT : Hid (∀ g, vg.ownBlock = some g → g < wr.heap.size) := Lib.hid fun g hg => (HVO.out.lt g hg).2
      have HLO5 : Hid (w3.heap.size ≤ wr.heap.size) := Lib.hid HI.out.lo.size
      have HLL : Hid (L.length ≤ 1000) := Lib.hid (by omega)
      refine wp_region_held_drew (S := fun _ => True) (by kernel_rfl) trivial (fun _ => ?_)
      refine wpAnyH_each (md := .any) (m := 1) (rem := [0, 1, 2, 3, 4, 5, 6, 7, 8, 9, 10, 11, 12, 13]) (tail := [14]) (deps := fun i => match i with | 1 => [0] | 3 => [2] | 4 => [3] | 5 => [4] | 8 => [7] | 9 => [6, 8] | 10 => [5, 9] | 11 => [10] | 12 => [1, 11] | _ => []) (Tg wr vg.ownBlock 12) (Kl vg.ownBlock 12)
        (fun ix ds v W => match ix with | 0 => v = .pointer (some ⟨w3.heap.size, 4, none⟩) | 1 => v = vg | 2 => v = .int .i64 (k : Int) | 3 => v = .int .i64 (4 * (k : Int)) | 4 => v = .int .i64 (8 + 4 * (k : Int)) | 5 => v = .agg #[.int .u32 3774873600, .int .i64 (8 + 4 * (k : Int))] | 6 => v = .int .i64 (k : Int) | 7 => v = .int .i64 (k : Int) | 8 => v = .int .i64 ((k : Int) + 1) | 9 => v = .int .u32 (adr k (k + 1)) | 10 => v = .agg #[.int .u32 3774873600, .int .i64 (8 + 4 * (k : Int)), .int .u32 (adr k (k + 1))] | 11 => ∃ h, v = .slice (some ⟨h, 0, none⟩) 1 1 ∧ wr.heap.size ≤ h ∧ Blk W h 40 #[.int .u32 3774873600, .int .i64 (8 + 4 * (k : Int)), .int .u32 (adr k (k + 1))] | 12 => W.ownsRow w3.heap.size 40 3 v (L ++ [(3774873600, 8 + 4 * (k : Int), adr k (k + 1))]).length ((L ++ [(3774873600, 8 + 4 * (k : Int), adr k (k + 1))]).flatMap CRange) | 13 => v = .pointer (some ⟨w3.heap.size, 4, none⟩) | _ => True) (eachB_spec (by kernel_rfl)) (fun _ _ _ _ _ _ _ h k => h.stepl k) (fun _ _ _ => trivial) ?_ (fun _ _ _ _ => True) (fun _ _ _ _ _ _ _ _ _ _ _ _ _ _ => ⟨trivial, trivial⟩) ?_ ?_ (Tg.nil (Below.refl _ _).drew)
      · intro i hi j _ hij hjd ds v u l W W' _ _ hk h
        simp only [List.mem_cons, List.not_mem_nil, or_false] at hi
        rcases hi with rfl | rfl | rfl | rfl | rfl | rfl | rfl | rfl | rfl | rfl | rfl | rfl | rfl | rfl
        · exact h
        · exact h
        · exact h
        · exact h
        · exact h
        · exact h
        · exact h
        · exact h
        · exact h
        · exact h
        · exact h
        · obtain ⟨h', e, hs, hb⟩ := h
          exact ⟨h', e, hs, (hk.grown.block h' hb.lt (fun e => by have := HVLT.out h' e.symm; omega)).trans hb⟩
        · exact ownk_next h (hk.below (Ne.symm hij))
        · exact h
      · refine AllO.cons [] rfl rfl (fun vs l W hl hT hd => ?_) ?_
        · dsimp only [lay, List.foldl, List.map, dstOf]
          go_wp2
          exact ⟨rfl, _, rfl, Kl.mk (by decide) (Below.refl _ _), rfl⟩
        refine AllO.cons [0] rfl rfl (fun vs l W hl hT hd => ?_) ?_
        · have e0 : vs 0 = .pointer (some ⟨w3.heap.size, 4, none⟩) := hd 0 (by simp)
          have c3 : W.cell? ⟨w3.heap.size, 4, none⟩ = some vg := hT.cell CN.out RN.out
          dsimp only [lay, List.foldl, List.map, dstOf]
          rw [e0]
          go_wp2
          exact ⟨rfl, _, rfl, Kl.mk (by decide) (Below.refl _ _), rfl⟩
        refine AllO.cons [] rfl rfl (fun vs l W hl hT hd => ?_) ?_
        · dsimp only [lay, List.foldl, List.map, dstOf]
          go_wp2
          exact ⟨rfl, _, rfl, Kl.mk (by decide) (Below.refl _ _), rfl⟩
        refine AllO.cons [2] rfl rfl (fun vs l W hl hT hd => ?_) ?_
        · have e2 : vs 2 = .int .i64 (k : Int) := hd 2 (by simp)
          dsimp only [lay, List.foldl, List.map, dstOf]
          rw [e2]
          go_wp2
          exact ⟨rfl, _, rfl, Kl.mk (by decide) (Below.refl _ _), rfl⟩
        refine AllO.cons [3] rfl rfl (fun vs l W hl hT hd => ?_) ?_
        · have e3 : vs 3 = .int .i64 (4 * (k : Int)) := hd 3 (by simp)
          dsimp only [lay, List.foldl, List.map, dstOf]
          rw [e3]
          go_wp2
          exact ⟨rfl, _, rfl, Kl.mk (by decide) (Below.refl _ _), rfl⟩
        refine AllO.cons [4] rfl rfl (fun vs l W hl hT hd => ?_) ?_
        · have e4 : vs 4 = .int .i64 (8 + 4 * (k : Int)) := hd 4 (by simp)
          dsimp only [lay, List.foldl, List.map, dstOf]
          rw [e4]
          go_wp2
          exact ⟨rfl, _, rfl, Kl.mk (by decide) (Below.refl _ _), rfl⟩
        refine AllO.cons [] rfl rfl (fun vs l W hl hT hd => ?_) ?_
        · dsimp only [lay, List.foldl, List.map, dstOf]
          go_wp2
          exact ⟨rfl, _, rfl, Kl.mk (by decide) (Below.refl _ _), rfl⟩
        refine AllO.cons [] rfl rfl (fun vs l W hl hT hd => ?_) ?_
        · dsimp only [lay, List.foldl, List.map, dstOf]
          go_wp2
          exact ⟨rfl, _, rfl, Kl.mk (by decide) (Below.refl _ _), rfl⟩
        refine AllO.cons [7] rfl rfl (fun vs l W hl hT hd => ?_) ?_
        · have e7 : vs 7 = .int .i64 (k : Int) := hd 7 (by simp)
          dsimp only [lay, List.foldl, List.map, dstOf]
          rw [e7]
          go_wp2
          exact ⟨rfl, _, rfl, Kl.mk (by decide) (Below.refl _ _), rfl⟩
        refine AllO.cons [6, 8] rfl rfl (fun vs l W hl hT hd => ?_) ?_
        · have e6 : vs 6 = .int .i64 (k : Int) := hd 6 (by simp)
          have e8 : vs 8 = .int .i64 ((k : Int) + 1) := hd 8 (by simp)
          have hC := Lib.hid (HAD.out W)
          dsimp only [lay, List.foldl, List.map, dstOf]
          rw [e6, e8]
          go_wp2_with (go_at_call 7; refine hC.out.mono ?_; rintro e w1 ⟨rfl, rfl⟩)
          exact ⟨rfl, _, (by first | rfl | (simp [Act.put]; omega)), Kl.mk (by decide) (Below.refl _ _), rfl⟩
        refine AllO.cons [5, 9] rfl rfl (fun vs l W hl hT hd => ?_) ?_
        · have e5 : vs 5 = .agg #[.int .u32 3774873600, .int .i64 (8 + 4 * (k : Int))] := hd 5 (by simp)
          have e9 : vs 9 = .int .u32 (adr k (k + 1)) := hd 9 (by simp)
          dsimp only [lay, List.foldl, List.map, dstOf]
          rw [e5, e9]
          go_wp2
          exact ⟨rfl, _, rfl, Kl.mk (by decide) (Below.refl _ _), rfl⟩
        refine AllO.cons [10] rfl rfl (fun vs l W hl hT hd => ?_) ?_
        · have e10 : vs 10 = .agg #[.int .u32 3774873600, .int .i64 (8 + 4 * (k : Int)), .int .u32 (adr k (k + 1))] := hd 10 (by simp)
          dsimp only [lay, List.foldl, List.map, dstOf]
          rw [e10]
          go_wp2
          exact ⟨rfl, _, rfl, Kl.mk (by decide) ((Below.refl _ _).alloc (Nat.le_refl _) _), _, rfl, hT.grown.size, Blk.new _ _ _⟩
        refine AllO.cons [1, 11] rfl rfl (fun vs l W hl hT hd => ?_) ?_
        · have e1 : vs 1 = vg := hd 1 (by simp)
          obtain ⟨h', e11, hs', hb'⟩ := hd 11 (by simp)
          dsimp only [lay, List.foldl, List.map, dstOf]
          rw [e1, e11]
          obtain ⟨i0, z0, hi, hz, hzs, hsz, hby⟩ := info_range
          have hbp := hT.pre hl
          refine wpList_append_own_at _ rfl _ _ 28 rfl w3.heap.size 40 i0 z0 3 24 Tryz.underlying28 hi hz hsz hby hzs (by decide) vg L.length (L.flatMap CRange) (by rfl) (ownk_next HVO.out hbp) ⟨h', 0, none⟩ 1 1 ([(3774873600, 8 + 4 * (k : Int), adr k (k + 1))].flatMap CRange) (by rfl) (by rfl) (blk_news hb' (by rfl)) (fun u hu => by
            obtain ⟨y, _, hy⟩ := List.mem_flatMap.1 hu
            exact range_one y u hy) (by have := HLL.out; unfold maxLen; omega) (by have := HLL.out; omega) (Nat.le_trans HLO5.out hT.grown.size) ?_
          intro v' w' hown hg _ _
          refine wpList_nil ?_
          exact ⟨rfl, _, rfl, Kl.app hg, by rw [List.length_append, List.flatMap_append]; exact hown⟩
        refine AllO.cons [] rfl rfl (fun vs l W hl hT hd => ?_) AllO.nil
        · dsimp only [lay, List.foldl, List.map, dstOf]
          go_wp2
          exact ⟨rfl, _, rfl, Kl.mk (by decide) (Below.refl _ _), rfl⟩
      · intro vs l W hall hT hF _ aE LE ha hL
        have e0 : vs 0 = .pointer (some ⟨w3.heap.size, 4, none⟩) := hF 0 (by simp)
        have e1 : vs 1 = vg := hF 1 (by simp)
        have e2 : vs 2 = .int .i64 (k : Int) := hF 2 (by simp)
        have e3 : vs 3 = .int .i64 (4 * (k : Int)) := hF 3 (by simp)
        have e4 : vs 4 = .int .i64 (8 + 4 * (k : Int)) := hF 4 (by simp)
        have e5 : vs 5 = .agg #[.int .u32 3774873600, .int .i64 (8 + 4 * (k : Int))] := hF 5 (by simp)
        have e6 : vs 6 = .int .i64 (k : Int) := hF 6 (by simp)
        have e7 : vs 7 = .int .i64 (k : Int) := hF 7 (by simp)
        have e8 : vs 8 = .int .i64 ((k : Int) + 1) := hF 8 (by simp)
        have e9 : vs 9 = .int .u32 (adr k (k + 1)) := hF 9 (by simp)
        have e10 : vs 10 = .agg #[.int .u32 3774873600, .int .i64 (8 + 4 * (k : Int)), .int .u32 (adr k (k + 1))] := hF 10 (by simp)
        have e13 : vs 13 = .pointer (some ⟨w3.heap.size, 4, none⟩) := hF 13 (by simp)
        obtain ⟨hbs, e11, -, -⟩ := hF 11 (by simp)
        have hown16 := hF 12 (by simp)
        have hL' : LE = #[true, true, true, true, true, true, true, true, true, true, true, true, true, true, false] := hL.trans (by kernel_rfl)
        dsimp only [lay, List.foldl, dstOf] at ha
        rw [e0, e1, e2, e3, e4, e5, e6, e7, e8, e9, e10, e11, e13] at ha
        clear e0 e1 e2 e3 e4 e5 e6 e7 e8 e9 e10 e11 e13 hL hF
        subst ha hL'
        generalize vs 12 = v16 at *
        obtain ⟨g16, cap16, rfl⟩ := own_some hown16 (by simp only [List.length_append, List.length_cons]; omega)
        have c13 : W.cell? ⟨w3.heap.size, 4, none⟩ = some vg := hT.cell CN.out RN.out
        have f13 : W.frozen? ⟨w3.heap.size, 4, none⟩ = false := (hT.blk HI.out.blk RN.out).frozen _
        have HI6 := Lib.hid (HI.out.step_g hT.grown hown16)
        refine wpAnyH_ready (rs := [14]) (by kernel_rfl) (by simp) ?_
        refine AllReadyH.cons rfl (fun K hK => ?_) AllReadyH.nil
        generalize (L ++ [(3774873600, 8 + 4 * (k : Int), adr k (k + 1))]).length = LN at *
        go_simp
        refine hK.out _ _ trivial (fun _ => ?_)
        clear hK
        clear K
        refine wpAnyH_done (by kernel_rfl) ?_ _
        clear c13 f13 hown16 hall hT
        generalize W.setCell ⟨w3.heap.size, 4, none⟩ (.slice (some ⟨g16, 0, none⟩) LN cap16) = W6 at *
        clear CN RN HVO HVLT HLO5 HLL
        rw [← HTK.out] at HI6
        go_wp2
        go_roundw
        case rel => exact ⟨k + 1, _, by omega, by go_num, HI6⟩
        case measure => simp [intOf]; omega
    · obtain rfl : k = m := by omega
      have hi0 : ¬ ((k : Int) < (k : Int)) := by omega
      have hlt : (rgGs k).length = k := rgGs_len k
      have hall : (rgGs k).take k = rgGs k := List.take_of_length_le (by omega)
      rw [hall] at HI
      obtain ⟨Ag, cg, rfl, hcg, hir⟩ := IR.of_own range_len HI.out.g
      have hcw2 : CW wr { M with g := ⟨Ag, (rgGs k).length, cg⟩ } (rgCfg k) := CW.ranges (HCW.out.next HI.out.lo) hir hcg (by omega) (fun y hy => ⟨(rg_good ⟨k, by omega⟩ y hy).1, (rg_good ⟨k, by omega⟩ y hy).2.1⟩)
      have HBr := Lib.hid (HB3.out.trans (HI.out.lo.mono HB3.out.size))
      have HNW := Lib.hid (new_ok ads { M with g := ⟨Ag, (rgGs k).length, cg⟩ } (rgCfg k) [] wr (HE.out.below HBr.out) hcw2 (rg_valid ⟨k, by omega⟩) (line_rn k 0) (line_ln k 0) (fun W _ => groups0_any _ W HCW.out.s.len.symm HCW.out.m.len.symm) (line_ports k 0) (fun y hy => (by cases hy)))
      have HDV := Lib.hid fun W (hW : Below wr.heap.size wr W) => dvalid_any { M with g := ⟨Ag, (rgGs k).length, cg⟩ } (rgCfg k) W (hcw2.next hW) (line_rn k 0) (line_ln k 0)
      rw [rg_valid ⟨k, by omega⟩] at HDV
      have HN := Lib.hid HI.out.blk
      dsimp only at HNW HDV
      rw [hlt] at HNW HN HDV
      have n0 : ∀ W, Below wr.heap.size wr W → W.cell? ⟨w3.heap.size, 0, none⟩ = some (.slice M.r.A M.r.n M.r.c) := fun W hW => (HN.out.next hW).cell 0
      have n1 : ∀ W, Below wr.heap.size wr W → W.cell? ⟨w3.heap.size, 1, none⟩ = some (.slice M.l.A M.l.n M.l.c) := fun W hW => (HN.out.next hW).cell 1
      have n2 : ∀ W, Below wr.heap.size wr W → W.cell? ⟨w3.heap.size, 2, none⟩ = some (.slice M.p.A M.p.n M.p.c) := fun W hW => (HN.out.next hW).cell 2
      have n3 : ∀ W, Below wr.heap.size wr W → W.cell? ⟨w3.heap.size, 3, none⟩ = some (.slice M.o.A M.o.n M.o.c) := fun W hW => (HN.out.next hW).cell 3
      have n4 : ∀ W, Below wr.heap.size wr W → W.cell? ⟨w3.heap.size, 4, none⟩ = some (.slice Ag k cg) := fun W hW => (HN.out.next hW).cell 4
      have n5 : ∀ W, Below wr.heap.size wr W → W.cell? ⟨w3.heap.size, 5, none⟩ = some (.slice M.s.A M.s.n M.s.c) := fun W hW => (HN.out.next hW).cell 5
      have n6 : ∀ W, Below wr.heap.size wr W → W.cell? ⟨w3.heap.size, 6, none⟩ = some (.slice M.m.A M.m.n M.m.c) := fun W hW => (HN.out.next hW).cell 6
      have hr := Below.refl wr.heap.size wr
      clear hall hlt hir hcg hcw2
      go_upto_region 13 with (go_at_call 8; refine HNW.out.mono ?_; rintro e w6 ⟨T, x', rfl, hT, hal, hb6⟩; obtain rfl := alike_same hal rfl; have HT := Lib.hid hT; have HB6 := Lib.hid hb6; clear hT hal)
      go_upto_region 15 with (go_at_call 9; (with_reducible refine (HDV.out w6 HB6.out).mono ?_); rintro e w7 ⟨rfl, hb7⟩; have HB7 := Lib.hid hb7; clear hb7)
      clear n0 n1 n2 n3 n4 n5 n6 hr hb6
      have hor := grp_or ⟨q, hq⟩
      dsimp only at hor
      have HT7 := Lib.hid (HT.out.next HB7.out)
      have HBw := Lib.hid (below_next (below_next HBr.out HB6.out) HB7.out)
      go_wp2_with fail
      go_loopw [11, 12] (fun wv iv wr => ∃ j : Nat, j ≤ k ∧ iv = .int .i64 j ∧ wv = .int .i64 (wantR q j) ∧ Hid (Below w7.heap.size w7 wr)) (fun _ iv _ => k - (intOf iv).toNat)
      case atStart => exact ⟨0, by omega, rfl, rfl, Lib.hid (Below.refl _ _)⟩
      case round =>
        obtain ⟨j, hj, rfl, rfl, HBj⟩ := hrel
        rcases Nat.lt_or_ge j k with hjk | hjk
        · have hji : (j : Int) < (k : Int) := by omega
          rcases (show j = 0 ∨ j = 1 ∨ j = 2 ∨ j = 3 ∨ j = 4 ∨ j = 5 by omega) with rfl | rfl | rfl | rfl | rfl | rfl
          · have hs := sh0 ⟨q, hq⟩
            dsimp only at hs
            cases hV : inR q 0 with
            | true =>
              rw [hV] at hs
              have HW : Hid (wantR q (0 + 1) = ((0 : Nat) : Int)) := Lib.hid (by
                show (if inR q 0 then ((0 : Nat) : Int) else wantR q 0) = _
                rw [hV]; rfl)
              clear hV
              go_wp2
              go_roundw
              case rel => exact ⟨0 + 1, by omega, rfl, by rw [HW.out], HBj⟩
              case measure => simp [intOf]; omega
            | false =>
              rw [hV] at hs
              have HW : Hid (wantR q (0 + 1) = wantR q 0) := Lib.hid (by
                show (if inR q 0 then ((0 : Nat) : Int) else wantR q 0) = _
                rw [hV]; rfl)
              clear hV
              go_wp2
              go_roundw
              case rel => exact ⟨0 + 1, by omega, rfl, by rw [HW.out], HBj⟩
              case measure => simp [intOf]; omega
          · have hs := sh1 ⟨q, hq⟩
            dsimp only at hs
            cases hV : inR q 1 with
            | true =>
              rw [hV] at hs
              have HW : Hid (wantR q (1 + 1) = ((1 : Nat) : Int)) := Lib.hid (by
                show (if inR q 1 then ((1 : Nat) : Int) else wantR q 1) = _
                rw [hV]; rfl)
              clear hV
              go_wp2
              go_roundw
              case rel => exact ⟨1 + 1, by omega, rfl, by rw [HW.out], HBj⟩
              case measure => simp [intOf]; omega
            | false =>
              rw [hV] at hs
              have HW : Hid (wantR q (1 + 1) = wantR q 1) := Lib.hid (by
                show (if inR q 1 then ((1 : Nat) : Int) else wantR q 1) = _
                rw [hV]; rfl)
              clear hV
              go_wp2
              go_roundw
              case rel => exact ⟨1 + 1, by omega, rfl, by rw [HW.out], HBj⟩
              case measure => simp [intOf]; omega
          · have hs := sh2 ⟨q, hq⟩
            dsimp only at hs
            cases hV : inR q 2 with
            | true =>
              rw [hV] at hs
              have HW : Hid (wantR q (2 + 1) = ((2 : Nat) : Int)) := Lib.hid (by
                show (if inR q 2 then ((2 : Nat) : Int) else wantR q 2) = _
                rw [hV]; rfl)
              clear hV
              go_wp2
              go_roundw
              case rel => exact ⟨2 + 1, by omega, rfl, by rw [HW.out], HBj⟩
              case measure => simp [intOf]; omega
            | false =>
              rw [hV] at hs
              have HW : Hid (wantR q (2 + 1) = wantR q 2) := Lib.hid (by
                show (if inR q 2 then ((2 : Nat) : Int) else wantR q 2) = _
                rw [hV]; rfl)
              clear hV
              go_wp2
              go_roundw
              case rel => exact ⟨2 + 1, by omega, rfl, by rw [HW.out], HBj⟩
              case measure => simp [intOf]; omega
          · have hs := sh3 ⟨q, hq⟩
            dsimp only at hs
            cases hV : inR q 3 with
            | true =>
              rw [hV] at hs
              have HW : Hid (wantR q (3 + 1) = ((3 : Nat) : Int)) := Lib.hid (by
                show (if inR q 3 then ((3 : Nat) : Int) else wantR q 3) = _
                rw [hV]; rfl)
              clear hV
              go_wp2
              go_roundw
              case rel => exact ⟨3 + 1, by omega, rfl, by rw [HW.out], HBj⟩
              case measure => simp [intOf]; omega
            | false =>
              rw [hV] at hs
              have HW : Hid (wantR q (3 + 1) = wantR q 3) := Lib.hid (by
                show (if inR q 3 then ((3 : Nat) : Int) else wantR q 3) = _
                rw [hV]; rfl)
              clear hV
              go_wp2
              go_roundw
              case rel => exact ⟨3 + 1, by omega, rfl, by rw [HW.out], HBj⟩
              case measure => simp [intOf]; omega
          · have hs := sh4 ⟨q, hq⟩
            dsimp only at hs
            cases hV : inR q 4 with
            | true =>
              rw [hV] at hs
              have HW : Hid (wantR q (4 + 1) = ((4 : Nat) : Int)) := Lib.hid (by
                show (if inR q 4 then ((4 : Nat) : Int) else wantR q 4) = _
                rw [hV]; rfl)
              clear hV
              go_wp2
              go_roundw
              case rel => exact ⟨4 + 1, by omega, rfl, by rw [HW.out], HBj⟩
              case measure => simp [intOf]; omega
            | false =>
              rw [hV] at hs
              have HW : Hid (wantR q (4 + 1) = wantR q 4) := Lib.hid (by
                show (if inR q 4 then ((4 : Nat) : Int) else wantR q 4) = _
                rw [hV]; rfl)
              clear hV
              go_wp2
              go_roundw
              case rel => exact ⟨4 + 1, by omega, rfl, by rw [HW.out], HBj⟩
              case measure => simp [intOf]; omega
          · have hs := sh5 ⟨q, hq⟩
            dsimp only at hs
            cases hV : inR q 5 with
            | true =>
              rw [hV] at hs
              have HW : Hid (wantR q (5 + 1) = ((5 : Nat) : Int)) := Lib.hid (by
                show (if inR q 5 then ((5 : Nat) : Int) else wantR q 5) = _
                rw [hV]; rfl)
              clear hV
              go_wp2
              go_roundw
              case rel => exact ⟨5 + 1, by omega, rfl, by rw [HW.out], HBj⟩
              case measure => simp [intOf]; omega
            | false =>
              rw [hV] at hs
              have HW : Hid (wantR q (5 + 1) = wantR q 5) := Lib.hid (by
                show (if inR q 5 then ((5 : Nat) : Int) else wantR q 5) = _
                rw [hV]; rfl)
              clear hV
              go_wp2
              go_roundw
              case rel => exact ⟨5 + 1, by omega, rfl, by rw [HW.out], HBj⟩
              case measure => simp [intOf]; omega
        · obtain rfl : k = j := by omega
          have hd : decide ((k : Int) < (k : Int)) = false := by simp
          have HBa := Lib.hid (below_next HBw.out HBj.out)
          have HTa := Lib.hid (HT7.out.next HBj.out)
          have HGW := Lib.hid (rg_wf (n := k) (by omega))
          have HGU := Lib.hid (show ∀ y ∈ (rgCfg k).gs, U32 y.2.2 from fun y hy => (rg_good ⟨k, by omega⟩ y hy).2.1)
          have HGL : Hid ((rgCfg k).gs.length ≤ 1000) := Lib.hid (by show (rgGs k).length ≤ 1000; rw [rgGs_len]; omega)
          have HRR : Hid (rtrP (rgCfg k) (grp q) = some (wantR q k)) := Lib.hid (by
            obtain ⟨k', rfl⟩ : ∃ k', k = k' + 1 := ⟨k - 1, by omega⟩
            exact rg_rtr (by omega) hq)
          have HNO := Lib.hid (rg_none ⟨k, by omega⟩)
          have HRO := Lib.hid fun W (hW : Below wr.heap.size wr W) => rootr_any (grp q) (grp_u32 q hq) W (HTa.out.next hW) (line_rn k 0) (line_ln k 0) HGW.out HGU.out HGL.out
          have HO2 := Lib.hid fun W (hW : Below wr.heap.size wr W) => rootof_any 3791650816 ⟨by decide, by decide⟩ W (HTa.out.next hW) (line_rn k 0) (line_ln k 0) HGW.out HGL.out
          have HO3 := Lib.hid fun W (hW : Below wr.heap.size wr W) => rootof_any 167772160 ⟨by decide, by decide⟩ W (HTa.out.next hW) (line_rn k 0) (line_ln k 0) HGW.out HGL.out
          have HIS := Lib.hid fun W (hW : Below wr.heap.size wr W) => rootis_any (wantR q k) (grp q) (grp_u32 q hq) W (HTa.out.next hW) (line_rn k 0) (line_ln k 0) HGW.out HGU.out HGL.out
          have hbq : ((some (wantR q k) : Option Int) == some (wantR q k)) = true := by simp
          rw [HRR.out] at HRO HIS
          rw [hbq] at HIS
          have hn1 := HNO.out.1
          have hn2 := HNO.out.2
          dsimp only at hn1 hn2
          rw [hn1] at HO2
          rw [hn2] at HO3
          clear hn1 hn2 hbq
          dsimp only [Option.getD_some, Option.getD_none, Option.isSome_some, Option.isSome_none] at HRO HO2 HO3
          generalize wantR q k = wnt at *
          generalize grp q = A at *
          go_upto_region 23 with (go_at_call 10; (with_reducible refine (HRO.out _ (Below.refl _ _)).mono ?_); rintro e w8 ⟨rfl, hb8⟩; have HB8 := Lib.hid hb8; clear hb8)
          go_upto_region 24 with (go_at_call 11; (with_reducible refine (HO2.out _ HB8.out).mono ?_); rintro e w9 ⟨rfl, hb9⟩; have HB9 := Lib.hid (below_next HB8.out hb9); clear hb9)
          go_upto_region 25 with (go_at_call 11; (with_reducible refine (HO3.out _ HB9.out).mono ?_); rintro e w10 ⟨rfl, hb10⟩; have HB10 := Lib.hid (below_next HB9.out hb10); clear hb10)
          go_wp2_with (go_at_call 12; (with_reducible refine (HIS.out _ HB10.out).mono ?_); rintro e w11 ⟨rfl, hb11⟩; have HB11 := Lib.hid (below_next HB10.out hb11); clear hb11)
          go_ret
          exact ⟨rfl, below_next HBa.out HB11.out⟩
end Go.Proofs.YtboehoflaceohaaGreatDoor

