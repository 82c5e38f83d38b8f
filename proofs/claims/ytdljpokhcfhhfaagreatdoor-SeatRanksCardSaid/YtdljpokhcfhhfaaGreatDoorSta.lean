/- rivuletnet.Star: routers on one link, as plain data; over the seat's program. -/
import Derived.Test.YtdljpokhcfhhfaaGreatDoorLi1
import Derived.RangeFuncBox
import Derived.Deep.Cut
namespace Go.Proofs.YtdljpokhcfhhfaaGreatDoor
open Go.RowKit Lx Sm Go.Maps Go.Sort Go.Shelf
def psS (k : Nat) : List (Int × Int × Int) := (List.range k).flatMap fun i : Nat => [((i : Int), 0, adr 0 (i + 1)), ((i : Int), (i : Int) + 1, adr (i + 1) (i + 1))]
def rtS (i k : Nat) : List (Int × Int × Int × Int × Int) := if k = i then [] else [((i : Int), adr (k + 1) 0, 24, adr 0 (k + 1), 1)]
def colS (i k : Nat) : List (Int × Int × Int × Int × Int) := (List.range k).flatMap (rtS i)
def osS (n i : Nat) : List (Int × Int × Int × Int × Int) := (List.range i).flatMap fun j => colS j n
def starCfg (n : Nat) : Cfg := ⟨rsK n, lsK (n + 1), psS n, osS n n, [(3758096384, 4, adr 0 1)], [], []⟩
theorem psS_s (k : Nat) : psS (k + 1) = psS k ++ [((k : Int), 0, adr 0 (k + 1)), ((k : Int), (k : Int) + 1, adr (k + 1) (k + 1))] := by simp [psS, List.range_succ, List.flatMap_append]
theorem colS_s (i k : Nat) : colS i (k + 1) = colS i k ++ rtS i k := by simp [colS, List.range_succ, List.flatMap_append]
theorem osS_s (n i : Nat) : osS n (i + 1) = osS n i ++ colS i n := by simp [osS, List.range_succ, List.flatMap_append]
theorem psS_len : ∀ k : Nat, (psS k).length = 2 * k
  | 0 => rfl
  | k + 1 => by rw [psS_s, List.length_append, psS_len k]; simp; omega
theorem rtS_len (i k : Nat) : (rtS i k).length ≤ 1 := by unfold rtS; split <;> simp
theorem colS_len (i : Nat) : ∀ k : Nat, (colS i k).length ≤ k
  | 0 => Nat.le_refl _
  | k + 1 => by rw [colS_s, List.length_append]; have := colS_len i k; have := rtS_len i k; omega
theorem osS_len (n : Nat) : ∀ i : Nat, (osS n i).length ≤ i * n
  | 0 => by simp [osS]
  | i + 1 => by rw [osS_s, List.length_append, Nat.succ_mul]; have := osS_len n i; have := colS_len i n; omega
/-- a network's rows that a call owns, each of its own type -/
structure OwnR (b : Nat) (w : World) (M : Cm) (x : Cfg) : Prop where
  r : w.ownsRow b 77 2 (.slice M.r.A M.r.n M.r.c) x.rs.length (x.rs.flatMap CRouter)
  l : w.ownsRow b 125 3 (.slice M.l.A M.l.n M.l.c) x.ls.length (x.ls.flatMap CLink)
  p : w.ownsRow b 80 3 (.slice M.p.A M.p.n M.p.c) x.ps.length (x.ps.flatMap CPort)
  o : w.ownsRow b 128 5 (.slice M.o.A M.o.n M.o.c) x.os.length (x.os.flatMap CRoute)
  g : w.ownsRow b 149 3 (.slice M.g.A M.g.n M.g.c) x.gs.length (x.gs.flatMap CRange)
theorem ret_star (tm : Array Value) (N : Nat) (W : World) (v0 v1 v2 v3 v4 v5 v6 : Value) (h2 : tm.getD 2 undef = .pointer (some ⟨N, 0, none⟩)) (c0 : W.cell? ⟨N, 0, none⟩ = some v0) (c1 : W.cell? ⟨N, 1, none⟩ = some v1) (c2 : W.cell? ⟨N, 2, none⟩ = some v2) (c3 : W.cell? ⟨N, 3, none⟩ = some v3) (c4 : W.cell? ⟨N, 4, none⟩ = some v4) (c5 : W.cell? ⟨N, 5, none⟩ = some v5) (c6 : W.cell? ⟨N, 6, none⟩ = some v6) :
    (results Tryz.f28 tm).run Tryz.prog W = .ok (.agg #[v0, v1, v2, v3, v4, v5, v6]) W := by
  have h2' : tm[2]?.getD undef = .pointer (some ⟨N, 0, none⟩) := by simpa using h2
  simp [results, Tryz.results28, go_sem, h2', c0, c1, c2, c3, c4, c5, c6]
theorem star_ok (n : Nat) (hn : n ≤ 7) : (starCfg n).ok := by
  refine ⟨fun y hy => ?_, fun y hy => ?_, fun y hy => ?_, fun y hy => ?_, fun y hy => (by cases hy), fun y hy => (by cases hy)⟩
  · simp only [starCfg, lsK, List.mem_map, List.mem_range] at hy
    obtain ⟨i, hi, rfl⟩ := hy
    exact adr_u32 (by omega) (by omega)
  · simp only [starCfg, psS, List.mem_flatMap, List.mem_range] at hy
    obtain ⟨i, hi, hy⟩ := hy
    simp only [List.mem_cons, List.not_mem_nil, or_false] at hy
    rcases hy with rfl | rfl <;> exact adr_u32 (by omega) (by omega)
  · simp only [starCfg, osS, colS, List.mem_flatMap, List.mem_range] at hy
    obtain ⟨i, hi, k, hk, hy⟩ := hy
    unfold rtS at hy
    split at hy
    · cases hy
    · simp only [List.mem_singleton] at hy; subst hy
      exact ⟨adr_u32 (by omega) (by omega), adr_u32 (by omega) (by omega)⟩
  · simp only [starCfg, List.mem_singleton] at hy
    subst hy
    exact ⟨⟨(by decide : (0 : Int) ≤ 3758096384), (by decide : (3758096384 : Int) ≤ 4294967295)⟩, adr_u32 (by omega) (by omega)⟩
set_option maxHeartbeats 16000000 in
set_option maxRecDepth 20000 in
theorem star_any (n : Nat) (hn : n ≤ 7) (w : World) :
    Calls Tryz.prog 28 #[.int .i64 (n : Int)] w fun e w' => ∃ M' : Cm, e = .returned (.agg #[.slice M'.r.A M'.r.n M'.r.c, .slice M'.l.A M'.l.n M'.l.c, .slice M'.p.A M'.p.n M'.p.c, .slice M'.o.A M'.o.n M'.o.c, .slice M'.g.A M'.g.n M'.g.c, .slice M'.s.A M'.s.n M'.s.c, .slice M'.m.A M'.m.n M'.m.c]) ∧ CW w' M' (starCfg n) ∧ OwnR w.heap.size w' M' (starCfg n) ∧ Below w.heap.size w w' := by
  go_enter Tryz.func28, Tryz.ntmps28
  go_wp2
  have hI0 : LIl w (w.heap.size + 1) w.heap.size (.slice none 0 0) (.slice none 0 0) (.slice none 0 0) (.slice none 0 0) (rsK 0) (lsK 0) (psS 0) (osS n 0) ((w.alloc (.cells #[.slice none 0 0, .slice none 0 0, .slice none 0 0, .slice none 0 0, .slice none 0 0, .slice none 0 0, .slice none 0 0] 30)).alloc (.cells #[.slice none 0 0, .slice none 0 0, .slice none 0 0, .slice none 0 0, .slice none 0 0, .slice none 0 0, .slice none 0 0] 30)) := by
    refine ⟨((Below.refl _ _).alloc (Nat.le_refl _) _).alloc (by simp) _, by omega, Nat.le_refl _, by omega, ?_, ?_, World.ownsRow_nil _ _ _ _, World.ownsRow_nil _ _ _ _, World.ownsRow_nil _ _ _ _, World.ownsRow_nil _ _ _ _⟩
    · have := Blk.new (w.alloc (.cells #[.slice none 0 0, .slice none 0 0, .slice none 0 0, .slice none 0 0, .slice none 0 0, .slice none 0 0, .slice none 0 0] 30)) 30 #[.slice none 0 0, .slice none 0 0, .slice none 0 0, .slice none 0 0, .slice none 0 0, .slice none 0 0, .slice none 0 0]
      simpa using this
    · exact ((Blk.new w 30 #[.slice none 0 0, .slice none 0 0, .slice none 0 0, .slice none 0 0, .slice none 0 0, .slice none 0 0, .slice none 0 0]).alloc _).slot
  generalize (w.alloc (.cells #[.slice none 0 0, .slice none 0 0, .slice none 0 0, .slice none 0 0, .slice none 0 0, .slice none 0 0, .slice none 0 0] 30)).alloc (.cells #[.slice none 0 0, .slice none 0 0, .slice none 0 0, .slice none 0 0, .slice none 0 0, .slice none 0 0, .slice none 0 0] 30) = W0 at *
  generalize hN : w.heap.size + 1 = N at *
  generalize hR : w.heap.size = R at hI0 ⊢
  clear hN
  have HI0 := Lib.hid hI0
  clear hI0
  go_loopw [4] (fun i wr => ∃ (k : Nat) (vl : Value), k ≤ n + 1 ∧ i = .int .i64 k ∧ Hid (LIl w N R (.slice none 0 0) vl (.slice none 0 0) (.slice none 0 0) (rsK 0) (lsK k) (psS 0) (osS n 0) wr)) (fun i _ => n + 1 - (intOf i).toNat)
  case atStart => exact ⟨0, _, Nat.zero_le _, rfl, HI0⟩
  case round =>
    obtain ⟨k, vl, hk, rfl, HI⟩ := hrel
    rcases Nat.lt_or_ge k (n + 1) with hlt | hge
    · have hi0 : (k : Int) ≤ (n : Int) := by omega
      go_wp2
      have CN : Hid (wr.cell? ⟨N, 1, none⟩ = some vl) := Lib.hid (HI.out.blk.cell 1)
      have RN : Hid (vl.ownBlock ≠ some N) := Lib.hid (row_not HI.out.blk HI.out.l (by decide))
      have HVO := Lib.hid HI.out.l
      have HVLT : Hid (∀ g, vl.ownBlock = some g → g < wr.heap.size) := Lib.hid fun g hg => (HVO.out.lt g hg).2
      have HLO5 : Hid (w.heap.size ≤ wr.heap.size) := Lib.hid HI.out.lo.size
      have HLL : Hid ((lsK k).length ≤ 1000) := Lib.hid (by rw [lsK_len]; omega)
      refine wp_region_held_drew (S := fun _ => True) (by kernel_rfl) trivial (fun _ => ?_)
      refine wpAnyH_each (md := .any) (m := 1) (rem := [0, 1, 2, 3, 4, 5, 6]) (tail := [7]) (deps := fun i => match i with | 1 => [0] | 3 => [2] | 4 => [3] | 5 => [1, 4] | _ => []) (Tg wr vl.ownBlock 5) (Kl vl.ownBlock 5)
        (fun ix ds v W => match ix with | 0 => v = .pointer (some ⟨N, 1, none⟩) | 1 => v = vl | 2 => v = .int .i64 ((k : Nat) : Int) | 3 => v = .agg #[.string (str (nm 108 k)), .int .u32 (adr k 0), .int .i64 24] | 4 => ∃ h, v = .slice (some ⟨h, 0, none⟩) 1 1 ∧ wr.heap.size ≤ h ∧ Blk W h 125 #[.string (str (nm 108 k)), .int .u32 (adr k 0), .int .i64 24] | 5 => W.ownsRow w.heap.size 125 3 v ((lsK k) ++ [(nm 108 k, adr k 0, 24)]).length (((lsK k) ++ [(nm 108 k, adr k 0, 24)]).flatMap CLink) | 6 => v = .pointer (some ⟨N, 1, none⟩) | _ => True) (eachB_spec (by kernel_rfl)) (fun _ _ _ _ _ _ _ h k => h.stepl k) (fun _ _ _ => trivial) ?_ (fun _ _ _ _ => True) (fun _ _ _ _ _ _ _ _ _ _ _ _ _ _ => ⟨trivial, trivial⟩) ?_ ?_ (Tg.nil (Below.refl _ _).drew)
      · intro i hi j _ hij hjd ds v u l W W' _ _ hk h
        simp only [List.mem_cons, List.not_mem_nil, or_false] at hi
        rcases hi with rfl | rfl | rfl | rfl | rfl | rfl | rfl
        · exact h
        · exact h
        · exact h
        · exact h
        · obtain ⟨h', e, hs, hb⟩ := h
          exact ⟨h', e, hs, (hk.grown.block h' hb.lt (fun e => by have := HVLT.out h' e.symm; omega)).trans hb⟩
        · exact ownk_next h (hk.below (Ne.symm hij))
        · exact h
      · refine AllO.cons [] rfl rfl (fun vs l W hl hT hd => ?_) ?_
        · dsimp only [lay, List.foldl, List.map, dstOf]
          go_wp2
          exact ⟨rfl, _, rfl, Kl.mk (by decide) (Below.refl _ _), rfl⟩
        refine AllO.cons [0] rfl rfl (fun vs l W hl hT hd => ?_) ?_
        · have e0 : vs 0 = .pointer (some ⟨N, 1, none⟩) := hd 0 (by simp)
          have c3 : W.cell? ⟨N, 1, none⟩ = some vl := hT.cell CN.out RN.out
          dsimp only [lay, List.foldl, List.map, dstOf]
          rw [e0]
          go_wp2
          exact ⟨rfl, _, rfl, Kl.mk (by decide) (Below.refl _ _), rfl⟩
        refine AllO.cons [] rfl rfl (fun vs l W hl hT hd => ?_) ?_
        · dsimp only [lay, List.foldl, List.map, dstOf]
          go_wp2
          exact ⟨rfl, _, rfl, Kl.mk (by decide) (Below.refl _ _), rfl⟩
        refine AllO.cons [2] rfl rfl (fun vs l W hl hT hd => ?_) ?_
        · have e2 : vs 2 = .int .i64 ((k : Nat) : Int) := hd 2 (by simp)
          have hC := Lib.hid (nlink_any k (by omega) W)
          dsimp only [lay, List.foldl, List.map, dstOf]
          rw [e2]
          go_wp2_with (go_at_call 72; refine hC.out.mono ?_; rintro e w1 ⟨rfl, hb1⟩)
          exact ⟨rfl, _, rfl, Kl.mk (by decide) hb1, rfl⟩
        refine AllO.cons [3] rfl rfl (fun vs l W hl hT hd => ?_) ?_
        · have e3 : vs 3 = .agg #[.string (str (nm 108 k)), .int .u32 (adr k 0), .int .i64 24] := hd 3 (by simp)
          dsimp only [lay, List.foldl, List.map, dstOf]
          rw [e3]
          go_wp2
          exact ⟨rfl, _, rfl, Kl.mk (by decide) ((Below.refl _ _).alloc (Nat.le_refl _) _), _, rfl, hT.grown.size, Blk.new _ _ _⟩
        refine AllO.cons [1, 4] rfl rfl (fun vs l W hl hT hd => ?_) ?_
        · have e1 : vs 1 = vl := hd 1 (by simp)
          obtain ⟨h', e4, hs', hb'⟩ := hd 4 (by simp)
          dsimp only [lay, List.foldl, List.map, dstOf]
          rw [e1, e4]
          obtain ⟨i0, z0, hi, hz, hzs, hsz, hby⟩ := info_link
          have hbp := hT.pre hl
          refine wpList_append_own_at _ rfl _ _ 23 rfl w.heap.size 125 i0 z0 3 32 Tryz.underlying23 hi hz hsz hby hzs (by decide) vl (lsK k).length ((lsK k).flatMap CLink) (by rfl) (ownk_next HVO.out hbp) ⟨h', 0, none⟩ 1 1 ([(nm 108 k, adr k 0, 24)].flatMap CLink) (by rfl) (by rfl) (blk_news hb' (by rfl)) (fun u hu => by
            obtain ⟨y, _, hy⟩ := List.mem_flatMap.1 hu
            exact link_one y u hy) (by have := HLL.out; unfold maxLen; omega) (by have := HLL.out; omega) (Nat.le_trans HLO5.out hT.grown.size) ?_
          intro v' w' hown hg _ _
          refine wpList_nil ?_
          exact ⟨rfl, _, rfl, Kl.app hg, by rw [List.length_append, List.flatMap_append]; exact hown⟩
        refine AllO.cons [] rfl rfl (fun vs l W hl hT hd => ?_) AllO.nil
        · dsimp only [lay, List.foldl, List.map, dstOf]
          go_wp2
          exact ⟨rfl, _, rfl, Kl.mk (by decide) (Below.refl _ _), rfl⟩
      · intro vs l W hall hT hF _ aE LE ha hL
        have e0 : vs 0 = .pointer (some ⟨N, 1, none⟩) := hF 0 (by simp)
        have e1 : vs 1 = vl := hF 1 (by simp)
        have e2 : vs 2 = .int .i64 ((k : Nat) : Int) := hF 2 (by simp)
        have e3 : vs 3 = .agg #[.string (str (nm 108 k)), .int .u32 (adr k 0), .int .i64 24] := hF 3 (by simp)
        have e6 : vs 6 = .pointer (some ⟨N, 1, none⟩) := hF 6 (by simp)
        obtain ⟨hbs, e4, -, -⟩ := hF 4 (by simp)
        have hown16 := hF 5 (by simp)
        have hL' : LE = #[true, true, true, true, true, true, true, false] := hL.trans (by kernel_rfl)
        dsimp only [lay, List.foldl, dstOf] at ha
        rw [e0, e1, e2, e3, e4, e6] at ha
        clear e0 e1 e2 e3 e4 e6 hL hF
        subst ha hL'
        generalize vs 5 = v16 at *
        obtain ⟨g16, cap16, rfl⟩ := own_some hown16 (by simp only [List.length_append, List.length_cons]; omega)
        have c13 : W.cell? ⟨N, 1, none⟩ = some vl := hT.cell CN.out RN.out
        have f13 : W.frozen? ⟨N, 1, none⟩ = false := (hT.blk HI.out.blk RN.out).frozen _
        have HI6 := Lib.hid (HI.out.step_l hT.grown hown16)
        refine wpAnyH_ready (rs := [7]) (by kernel_rfl) (by simp) ?_
        refine AllReadyH.cons rfl (fun K hK => ?_) AllReadyH.nil
        generalize ((lsK k) ++ [(nm 108 k, adr k 0, 24)]).length = LN at *
        go_simp
        refine hK.out _ _ trivial (fun _ => ?_)
        clear hK
        clear K
        refine wpAnyH_done (by kernel_rfl) ?_ _
        clear c13 f13 hown16 hall hT
        generalize W.setCell ⟨N, 1, none⟩ (.slice (some ⟨g16, 0, none⟩) LN cap16) = W6 at *
        clear CN RN HVO HVLT HLO5 HLL
        rw [← lsK_s] at HI6
        go_wp2
        go_roundw
        case rel => exact ⟨k + 1, _, by omega, by go_num, HI6⟩
        case measure => simp [intOf]; omega
    · have hk1 : k = n + 1 := by omega
      have hk2 : (k : Int) = (n : Int) + 1 := by omega
      rw [hk2]
      clear hk2
      subst hk1
      go_wp2
      go_loopw [5] (fun i wr => ∃ (k : Nat) (vr vp : Value), k ≤ n ∧ i = .int .i64 k ∧ Hid (LIl w N R vr vl vp (.slice none 0 0) (rsK k) (lsK (n + 1)) (psS k) (osS n 0) wr)) (fun i _ => n - (intOf i).toNat)
      case atStart => exact ⟨0, _, _, Nat.zero_le _, rfl, HI⟩
      case round =>
        clear HI
        obtain ⟨k, vr, vp, hk2, rfl, HI⟩ := hrel
        rcases Nat.lt_or_ge k n with hlt | hge
        · have hi0 : (k : Int) < (n : Int) := by omega
          go_wp2
          have CN : Hid (wr.cell? ⟨N, 0, none⟩ = some vr) := Lib.hid (HI.out.blk.cell 0)
          have RN : Hid (vr.ownBlock ≠ some N) := Lib.hid (row_not HI.out.blk HI.out.r (by decide))
          have HVO := Lib.hid HI.out.r
          have HVLT : Hid (∀ g, vr.ownBlock = some g → g < wr.heap.size) := Lib.hid fun g hg => (HVO.out.lt g hg).2
          have HLO5 : Hid (w.heap.size ≤ wr.heap.size) := Lib.hid HI.out.lo.size
          have HLL : Hid ((rsK k).length ≤ 1000) := Lib.hid (by rw [rsK_len]; omega)
          refine wp_region_held_drew (S := fun _ => True) (by kernel_rfl) trivial (fun _ => ?_)
          refine wpAnyH_each (md := .any) (m := 1) (rem := [0, 1, 2, 3, 4, 5, 6, 7]) (tail := [8]) (deps := fun i => match i with | 1 => [0] | 3 => [2] | 4 => [3] | 5 => [4] | 6 => [1, 5] | _ => []) (Tg wr vr.ownBlock 6) (Kl vr.ownBlock 6)
            (fun ix ds v W => match ix with | 0 => v = .pointer (some ⟨N, 0, none⟩) | 1 => v = vr | 2 => v = .int .i64 ((k : Nat) : Int) | 3 => v = .string (str (nm 114 k)) | 4 => v = .agg #[.string (str (nm 114 k)), .int .i64 1] | 5 => ∃ h, v = .slice (some ⟨h, 0, none⟩) 1 1 ∧ wr.heap.size ≤ h ∧ Blk W h 77 #[.string (str (nm 114 k)), .int .i64 1] | 6 => W.ownsRow w.heap.size 77 2 v ((rsK k) ++ [(nm 114 k, 1)]).length (((rsK k) ++ [(nm 114 k, 1)]).flatMap CRouter) | 7 => v = .pointer (some ⟨N, 0, none⟩) | _ => True) (eachB_spec (by kernel_rfl)) (fun _ _ _ _ _ _ _ h k => h.stepl k) (fun _ _ _ => trivial) ?_ (fun _ _ _ _ => True) (fun _ _ _ _ _ _ _ _ _ _ _ _ _ _ => ⟨trivial, trivial⟩) ?_ ?_ (Tg.nil (Below.refl _ _).drew)
          · intro i hi j _ hij hjd ds v u l W W' _ _ hk h
            simp only [List.mem_cons, List.not_mem_nil, or_false] at hi
            rcases hi with rfl | rfl | rfl | rfl | rfl | rfl | rfl | rfl
            · exact h
            · exact h
            · exact h
            · exact h
            · exact h
            · obtain ⟨h', e, hs, hb⟩ := h
              exact ⟨h', e, hs, (hk.grown.block h' hb.lt (fun e => by have := HVLT.out h' e.symm; omega)).trans hb⟩
            · exact ownk_next h (hk.below (Ne.symm hij))
            · exact h
          · refine AllO.cons [] rfl rfl (fun vs l W hl hT hd => ?_) ?_
            · dsimp only [lay, List.foldl, List.map, dstOf]
              go_wp2
              exact ⟨rfl, _, rfl, Kl.mk (by decide) (Below.refl _ _), rfl⟩
            refine AllO.cons [0] rfl rfl (fun vs l W hl hT hd => ?_) ?_
            · have e0 : vs 0 = .pointer (some ⟨N, 0, none⟩) := hd 0 (by simp)
              have c3 : W.cell? ⟨N, 0, none⟩ = some vr := hT.cell CN.out RN.out
              dsimp only [lay, List.foldl, List.map, dstOf]
              rw [e0]
              go_wp2
              exact ⟨rfl, _, rfl, Kl.mk (by decide) (Below.refl _ _), rfl⟩
            refine AllO.cons [] rfl rfl (fun vs l W hl hT hd => ?_) ?_
            · dsimp only [lay, List.foldl, List.map, dstOf]
              go_wp2
              exact ⟨rfl, _, rfl, Kl.mk (by decide) (Below.refl _ _), rfl⟩
            refine AllO.cons [2] rfl rfl (fun vs l W hl hT hd => ?_) ?_
            · have e2 : vs 2 = .int .i64 ((k : Nat) : Int) := hd 2 (by simp)
              have hC := Lib.hid (nname_any k (by omega) 114 (.inr rfl) W)
              dsimp only [lay, List.foldl, List.map, dstOf]
              rw [e2]
              go_wp2_with (go_at_call 73; refine hC.out.mono ?_; rintro e w1 ⟨rfl, rfl⟩)
              exact ⟨rfl, _, (by first | rfl | (simp [Act.put]; omega)), Kl.mk (by decide) (Below.refl _ _), rfl⟩
            refine AllO.cons [3] rfl rfl (fun vs l W hl hT hd => ?_) ?_
            · have e3 : vs 3 = .string (str (nm 114 k)) := hd 3 (by simp)
              dsimp only [lay, List.foldl, List.map, dstOf]
              rw [e3]
              go_wp2
              exact ⟨rfl, _, rfl, Kl.mk (by decide) (Below.refl _ _), rfl⟩
            refine AllO.cons [4] rfl rfl (fun vs l W hl hT hd => ?_) ?_
            · have e4 : vs 4 = .agg #[.string (str (nm 114 k)), .int .i64 1] := hd 4 (by simp)
              dsimp only [lay, List.foldl, List.map, dstOf]
              rw [e4]
              go_wp2
              exact ⟨rfl, _, rfl, Kl.mk (by decide) ((Below.refl _ _).alloc (Nat.le_refl _) _), _, rfl, hT.grown.size, Blk.new _ _ _⟩
            refine AllO.cons [1, 5] rfl rfl (fun vs l W hl hT hd => ?_) ?_
            · have e1 : vs 1 = vr := hd 1 (by simp)
              obtain ⟨h', e5, hs', hb'⟩ := hd 5 (by simp)
              dsimp only [lay, List.foldl, List.map, dstOf]
              rw [e1, e5]
              obtain ⟨i0, z0, hi, hz, hzs, hsz, hby⟩ := info_router
              have hbp := hT.pre hl
              refine wpList_append_own_at _ rfl _ _ 22 rfl w.heap.size 77 i0 z0 2 24 Tryz.underlying22 hi hz hsz hby hzs (by decide) vr (rsK k).length ((rsK k).flatMap CRouter) (by rfl) (ownk_next HVO.out hbp) ⟨h', 0, none⟩ 1 1 ([(nm 114 k, 1)].flatMap CRouter) (by rfl) (by rfl) (blk_news hb' (by rfl)) (fun u hu => by
                obtain ⟨y, _, hy⟩ := List.mem_flatMap.1 hu
                exact router_one y u hy) (by have := HLL.out; unfold maxLen; omega) (by have := HLL.out; omega) (Nat.le_trans HLO5.out hT.grown.size) ?_
              intro v' w' hown hg _ _
              refine wpList_nil ?_
              exact ⟨rfl, _, rfl, Kl.app hg, by rw [List.length_append, List.flatMap_append]; exact hown⟩
            refine AllO.cons [] rfl rfl (fun vs l W hl hT hd => ?_) AllO.nil
            · dsimp only [lay, List.foldl, List.map, dstOf]
              go_wp2
              exact ⟨rfl, _, rfl, Kl.mk (by decide) (Below.refl _ _), rfl⟩
          · intro vs l W hall hT hF _ aE LE ha hL
            have e0 : vs 0 = .pointer (some ⟨N, 0, none⟩) := hF 0 (by simp)
            have e1 : vs 1 = vr := hF 1 (by simp)
            have e2 : vs 2 = .int .i64 ((k : Nat) : Int) := hF 2 (by simp)
            have e3 : vs 3 = .string (str (nm 114 k)) := hF 3 (by simp)
            have e4 : vs 4 = .agg #[.string (str (nm 114 k)), .int .i64 1] := hF 4 (by simp)
            have e7 : vs 7 = .pointer (some ⟨N, 0, none⟩) := hF 7 (by simp)
            obtain ⟨hbs, e5, -, -⟩ := hF 5 (by simp)
            have hown16 := hF 6 (by simp)
            have hL' : LE = #[true, true, true, true, true, true, true, true, false] := hL.trans (by kernel_rfl)
            dsimp only [lay, List.foldl, dstOf] at ha
            rw [e0, e1, e2, e3, e4, e5, e7] at ha
            clear e0 e1 e2 e3 e4 e5 e7 hL hF
            subst ha hL'
            generalize vs 6 = v16 at *
            obtain ⟨g16, cap16, rfl⟩ := own_some hown16 (by simp only [List.length_append, List.length_cons]; omega)
            have c13 : W.cell? ⟨N, 0, none⟩ = some vr := hT.cell CN.out RN.out
            have f13 : W.frozen? ⟨N, 0, none⟩ = false := (hT.blk HI.out.blk RN.out).frozen _
            have HI6 := Lib.hid (HI.out.step_r hT.grown hown16)
            refine wpAnyH_ready (rs := [8]) (by kernel_rfl) (by simp) ?_
            refine AllReadyH.cons rfl (fun K hK => ?_) AllReadyH.nil
            generalize ((rsK k) ++ [(nm 114 k, 1)]).length = LN at *
            go_simp
            refine hK.out _ _ trivial (fun _ => ?_)
            clear hK
            clear K
            refine wpAnyH_done (by kernel_rfl) ?_ _
            clear c13 f13 hown16 hall hT
            generalize W.setCell ⟨N, 0, none⟩ (.slice (some ⟨g16, 0, none⟩) LN cap16) = W6 at *
            clear CN RN HVO HVLT HLO5 HLL
            rw [← rsK_s] at HI6
            clear HI
            go_wp2
            have CN : Hid (W6.cell? ⟨N, 2, none⟩ = some vp) := Lib.hid (HI6.out.blk.cell 2)
            have RN : Hid (vp.ownBlock ≠ some N) := Lib.hid (row_not HI6.out.blk HI6.out.p (by decide))
            have HVO := Lib.hid HI6.out.p
            have HVLT : Hid (∀ g, vp.ownBlock = some g → g < W6.heap.size) := Lib.hid fun g hg => (HVO.out.lt g hg).2
            have HLO5 : Hid (w.heap.size ≤ W6.heap.size) := Lib.hid HI6.out.lo.size
            have HLL : Hid ((psS k).length ≤ 1000) := Lib.hid (by rw [psS_len]; omega)
            refine wp_region_held_drew (S := fun _ => True) (by kernel_rfl) trivial (fun _ => ?_)
            refine wpAnyH_each (md := .any) (m := 1) (rem := [0, 1, 2, 3, 4, 5, 6, 7, 8, 9, 10]) (tail := [11]) (deps := fun i => match i with | 1 => [0] | 3 => [2] | 6 => [5] | 7 => [4, 6] | 8 => [3, 7] | 9 => [1, 8] | _ => []) (Tg W6 vp.ownBlock 9) (Kl vp.ownBlock 9)
              (fun ix ds v W => match ix with | 0 => v = .pointer (some ⟨N, 2, none⟩) | 1 => v = vp | 2 => v = .int .i64 ((k : Nat) : Int) | 3 => v = .agg #[.int .i64 ((k : Nat) : Int), .int .i64 0, .int .u32 (adr 0 (k + 1))] | 4 => v = .int .i64 ((k : Nat) : Int) | 5 => v = .int .i64 ((k : Nat) : Int) | 6 => v = .int .i64 ((k : Int) + 1) | 7 => v = .agg #[.int .i64 ((k : Nat) : Int), .int .i64 ((k : Int) + 1), .int .u32 (adr (k + 1) (k + 1))] | 8 => ∃ h, v = .slice (some ⟨h, 0, none⟩) 2 2 ∧ W6.heap.size ≤ h ∧ Blk W h 80 #[.int .i64 ((k : Nat) : Int), .int .i64 0, .int .u32 (adr 0 (k + 1)), .int .i64 ((k : Nat) : Int), .int .i64 ((k : Int) + 1), .int .u32 (adr (k + 1) (k + 1))] | 9 => W.ownsRow w.heap.size 80 3 v ((psS k) ++ [((k : Int), 0, adr 0 (k + 1)), ((k : Int), (k : Int) + 1, adr (k + 1) (k + 1))]).length (((psS k) ++ [((k : Int), 0, adr 0 (k + 1)), ((k : Int), (k : Int) + 1, adr (k + 1) (k + 1))]).flatMap CPort) | 10 => v = .pointer (some ⟨N, 2, none⟩) | _ => True) (eachB_spec (by kernel_rfl)) (fun _ _ _ _ _ _ _ h k => h.stepl k) (fun _ _ _ => trivial) ?_ (fun _ _ _ _ => True) (fun _ _ _ _ _ _ _ _ _ _ _ _ _ _ => ⟨trivial, trivial⟩) ?_ ?_ (Tg.nil (Below.refl _ _).drew)
            · intro i hi j _ hij hjd ds v u l W W' _ _ hk h
              simp only [List.mem_cons, List.not_mem_nil, or_false] at hi
              rcases hi with rfl | rfl | rfl | rfl | rfl | rfl | rfl | rfl | rfl | rfl | rfl
              · exact h
              · exact h
              · exact h
              · exact h
              · exact h
              · exact h
              · exact h
              · exact h
              · obtain ⟨h', e, hs, hb⟩ := h
                exact ⟨h', e, hs, (hk.grown.block h' hb.lt (fun e => by have := HVLT.out h' e.symm; omega)).trans hb⟩
              · exact ownk_next h (hk.below (Ne.symm hij))
              · exact h
            · refine AllO.cons [] rfl rfl (fun vs l W hl hT hd => ?_) ?_
              · dsimp only [lay, List.foldl, List.map, dstOf]
                go_wp2
                exact ⟨rfl, _, rfl, Kl.mk (by decide) (Below.refl _ _), rfl⟩
              refine AllO.cons [0] rfl rfl (fun vs l W hl hT hd => ?_) ?_
              · have e0 : vs 0 = .pointer (some ⟨N, 2, none⟩) := hd 0 (by simp)
                have c3 : W.cell? ⟨N, 2, none⟩ = some vp := hT.cell CN.out RN.out
                dsimp only [lay, List.foldl, List.map, dstOf]
                rw [e0]
                go_wp2
                exact ⟨rfl, _, rfl, Kl.mk (by decide) (Below.refl _ _), rfl⟩
              refine AllO.cons [] rfl rfl (fun vs l W hl hT hd => ?_) ?_
              · dsimp only [lay, List.foldl, List.map, dstOf]
                go_wp2
                exact ⟨rfl, _, rfl, Kl.mk (by decide) (Below.refl _ _), rfl⟩
              refine AllO.cons [2] rfl rfl (fun vs l W hl hT hd => ?_) ?_
              · have e2 : vs 2 = .int .i64 ((k : Nat) : Int) := hd 2 (by simp)
                have hC := Lib.hid ((by have h := nport_any k 0 (by omega) (by omega) W; rw [show ((0 : Nat) : Int) = 0 by rfl] at h; exact h : Calls Tryz.prog 74 #[.int .i64 ((k : Nat) : Int), .int .i64 0] W fun e w' => e = .returned (.agg #[.int .i64 ((k : Nat) : Int), .int .i64 0, .int .u32 (adr 0 (k + 1))]) ∧ Below W.heap.size W w'))
                dsimp only [lay, List.foldl, List.map, dstOf]
                rw [e2]
                go_wp2_with (go_at_call 74; refine hC.out.mono ?_; rintro e w1 ⟨rfl, hb1⟩)
                exact ⟨rfl, _, rfl, Kl.mk (by decide) hb1, rfl⟩
              refine AllO.cons [] rfl rfl (fun vs l W hl hT hd => ?_) ?_
              · dsimp only [lay, List.foldl, List.map, dstOf]
                go_wp2
                exact ⟨rfl, _, rfl, Kl.mk (by decide) (Below.refl _ _), rfl⟩
              refine AllO.cons [] rfl rfl (fun vs l W hl hT hd => ?_) ?_
              · dsimp only [lay, List.foldl, List.map, dstOf]
                go_wp2
                exact ⟨rfl, _, rfl, Kl.mk (by decide) (Below.refl _ _), rfl⟩
              refine AllO.cons [5] rfl rfl (fun vs l W hl hT hd => ?_) ?_
              · have e5 : vs 5 = .int .i64 ((k : Nat) : Int) := hd 5 (by simp)
                dsimp only [lay, List.foldl, List.map, dstOf]
                rw [e5]
                go_wp2
                exact ⟨rfl, _, rfl, Kl.mk (by decide) (Below.refl _ _), rfl⟩
              refine AllO.cons [4, 6] rfl rfl (fun vs l W hl hT hd => ?_) ?_
              · have e4 : vs 4 = .int .i64 ((k : Nat) : Int) := hd 4 (by simp)
                have e6 : vs 6 = .int .i64 ((k : Int) + 1) := hd 6 (by simp)
                have hC := Lib.hid ((by have h := nport_any k (k + 1) (by omega) (by omega) W; rw [show ((k + 1 : Nat) : Int) = (k : Int) + 1 by omega] at h; exact h : Calls Tryz.prog 74 #[.int .i64 ((k : Nat) : Int), .int .i64 ((k : Int) + 1)] W fun e w' => e = .returned (.agg #[.int .i64 ((k : Nat) : Int), .int .i64 ((k : Int) + 1), .int .u32 (adr (k + 1) (k + 1))]) ∧ Below W.heap.size W w'))
                dsimp only [lay, List.foldl, List.map, dstOf]
                rw [e4, e6]
                go_wp2_with (go_at_call 74; refine hC.out.mono ?_; rintro e w1 ⟨rfl, hb1⟩)
                exact ⟨rfl, _, rfl, Kl.mk (by decide) hb1, rfl⟩
              refine AllO.cons [3, 7] rfl rfl (fun vs l W hl hT hd => ?_) ?_
              · have e3 : vs 3 = .agg #[.int .i64 ((k : Nat) : Int), .int .i64 0, .int .u32 (adr 0 (k + 1))] := hd 3 (by simp)
                have e7 : vs 7 = .agg #[.int .i64 ((k : Nat) : Int), .int .i64 ((k : Int) + 1), .int .u32 (adr (k + 1) (k + 1))] := hd 7 (by simp)
                dsimp only [lay, List.foldl, List.map, dstOf]
                rw [e3, e7]
                go_wp2
                exact ⟨rfl, _, rfl, Kl.mk (by decide) ((Below.refl _ _).alloc (Nat.le_refl _) _), _, rfl, hT.grown.size, Blk.new _ _ _⟩
              refine AllO.cons [1, 8] rfl rfl (fun vs l W hl hT hd => ?_) ?_
              · have e1 : vs 1 = vp := hd 1 (by simp)
                obtain ⟨h', e8, hs', hb'⟩ := hd 8 (by simp)
                dsimp only [lay, List.foldl, List.map, dstOf]
                rw [e1, e8]
                obtain ⟨i0, z0, hi, hz, hzs, hsz, hby⟩ := info_port
                have hbp := hT.pre hl
                refine wpList_append_own_at _ rfl _ _ 24 rfl w.heap.size 80 i0 z0 3 24 Tryz.underlying24 hi hz hsz hby hzs (by decide) vp (psS k).length ((psS k).flatMap CPort) (by rfl) (ownk_next HVO.out hbp) ⟨h', 0, none⟩ 2 2 ([((k : Int), 0, adr 0 (k + 1)), ((k : Int), (k : Int) + 1, adr (k + 1) (k + 1))].flatMap CPort) (by rfl) (by rfl) (blk_news hb' (by rfl)) (fun u hu => by
                  obtain ⟨y, _, hy⟩ := List.mem_flatMap.1 hu
                  exact port_one y u hy) (by have := HLL.out; unfold maxLen; omega) (by have := HLL.out; omega) (Nat.le_trans HLO5.out hT.grown.size) ?_
                intro v' w' hown hg _ _
                refine wpList_nil ?_
                exact ⟨rfl, _, rfl, Kl.app hg, by rw [List.length_append, List.flatMap_append]; exact hown⟩
              refine AllO.cons [] rfl rfl (fun vs l W hl hT hd => ?_) AllO.nil
              · dsimp only [lay, List.foldl, List.map, dstOf]
                go_wp2
                exact ⟨rfl, _, rfl, Kl.mk (by decide) (Below.refl _ _), rfl⟩
            · intro vs l W hall hT hF _ aE LE ha hL
              have e0 : vs 0 = .pointer (some ⟨N, 2, none⟩) := hF 0 (by simp)
              have e1 : vs 1 = vp := hF 1 (by simp)
              have e2 : vs 2 = .int .i64 ((k : Nat) : Int) := hF 2 (by simp)
              have e3 : vs 3 = .agg #[.int .i64 ((k : Nat) : Int), .int .i64 0, .int .u32 (adr 0 (k + 1))] := hF 3 (by simp)
              have e4 : vs 4 = .int .i64 ((k : Nat) : Int) := hF 4 (by simp)
              have e5 : vs 5 = .int .i64 ((k : Nat) : Int) := hF 5 (by simp)
              have e6 : vs 6 = .int .i64 ((k : Int) + 1) := hF 6 (by simp)
              have e7 : vs 7 = .agg #[.int .i64 ((k : Nat) : Int), .int .i64 ((k : Int) + 1), .int .u32 (adr (k + 1) (k + 1))] := hF 7 (by simp)
              have e10 : vs 10 = .pointer (some ⟨N, 2, none⟩) := hF 10 (by simp)
              obtain ⟨hbs, e8, -, -⟩ := hF 8 (by simp)
              have hown16 := hF 9 (by simp)
              have hL' : LE = #[true, true, true, true, true, true, true, true, true, true, true, false] := hL.trans (by kernel_rfl)
              dsimp only [lay, List.foldl, dstOf] at ha
              rw [e0, e1, e2, e3, e4, e5, e6, e7, e8, e10] at ha
              clear e0 e1 e2 e3 e4 e5 e6 e7 e8 e10 hL hF
              subst ha hL'
              generalize vs 9 = v16 at *
              obtain ⟨g16, cap16, rfl⟩ := own_some hown16 (by simp only [List.length_append, List.length_cons]; omega)
              have c13 : W.cell? ⟨N, 2, none⟩ = some vp := hT.cell CN.out RN.out
              have f13 : W.frozen? ⟨N, 2, none⟩ = false := (hT.blk HI6.out.blk RN.out).frozen _
              have HI7 := Lib.hid (HI6.out.step_p hT.grown hown16)
              refine wpAnyH_ready (rs := [11]) (by kernel_rfl) (by simp) ?_
              refine AllReadyH.cons rfl (fun K hK => ?_) AllReadyH.nil
              generalize ((psS k) ++ [((k : Int), 0, adr 0 (k + 1)), ((k : Int), (k : Int) + 1, adr (k + 1) (k + 1))]).length = LN at *
              go_simp
              refine hK.out _ _ trivial (fun _ => ?_)
              clear hK
              clear K
              refine wpAnyH_done (by kernel_rfl) ?_ _
              clear c13 f13 hown16 hall hT
              generalize W.setCell ⟨N, 2, none⟩ (.slice (some ⟨g16, 0, none⟩) LN cap16) = W7 at *
              clear CN RN HVO HVLT HLO5 HLL
              rw [← psS_s] at HI7
              clear HI6
              go_wp2
              go_roundw
              case rel => exact ⟨k + 1, _, _, by omega, by go_num, HI7⟩
              case measure => simp [intOf]; omega
        · obtain rfl : n = k := by omega
          have hvl := own_some HI.out.l (by rw [lsK_len]; omega)
          rw [lsK_len] at hvl
          obtain ⟨gl, cl, rfl⟩ := hvl
          go_wp2
          go_loopw [6] (fun i wr => ∃ (i' : Nat) (vo : Value), i' ≤ n ∧ i = .int .i64 i' ∧ Hid (LIl w N R vr (.slice (some ⟨gl, 0, none⟩) (n + 1) cl) vp vo (rsK n) (lsK (n + 1)) (psS n) (osS n i') wr)) (fun i _ => n - (intOf i).toNat)
          case atStart => exact ⟨0, _, Nat.zero_le _, rfl, HI⟩
          case round =>
            clear HI
            obtain ⟨i, vo, hi2, rfl, HI⟩ := hrel
            rcases Nat.lt_or_ge i n with hlt | hge
            · have hi0 : (i : Int) < (n : Int) := by omega
              have HI0 : Hid (LIl w N R vr (.slice (some ⟨gl, 0, none⟩) (n + 1) cl) vp vo (rsK n) (lsK (n + 1)) (psS n) (osS n i ++ colS i 0) wr) := Lib.hid (by simpa [colS] using HI.out)
              clear HI
              go_wp2
              go_loopw [7] (fun j wr => ∃ (q : Nat) (vo : Value), q ≤ n ∧ j = .int .i64 q ∧ Hid (LIl w N R vr (.slice (some ⟨gl, 0, none⟩) (n + 1) cl) vp vo (rsK n) (lsK (n + 1)) (psS n) (osS n i ++ colS i q) wr)) (fun j _ => n - (intOf j).toNat)
              case atStart => exact ⟨0, _, Nat.zero_le _, rfl, HI0⟩
              case round =>
                clear HI0
                obtain ⟨q, vo, hq2, rfl, HI⟩ := hrel
                rcases Nat.lt_or_ge q n with hqt | hqe
                · have hq0 : (q : Int) < (n : Int) := by omega
                  by_cases hb : q = i
                  · have hb1 : ((q : Int) != (i : Int)) = false := by simp [hb]
                    have HI6 : Hid (LIl w N R vr (.slice (some ⟨gl, 0, none⟩) (n + 1) cl) vp vo (rsK n) (lsK (n + 1)) (psS n) (osS n i ++ colS i (q + 1)) wr) := Lib.hid (by rw [colS_s, show rtS i q = [] by unfold rtS; rw [if_pos hb], List.append_nil]; exact HI.out)
                    clear HI hb
                    go_wp2
                    go_roundw
                    case rel => exact ⟨q + 1, _, by omega, by go_num, HI6⟩
                    case measure => simp [intOf]; omega
                  · have hb1 : ((q : Int) != (i : Int)) = true := by simp; omega
                    have HNE := Lib.hid hb
                    clear hb
                    have CL : Hid (wr.cell? ⟨N, 1, none⟩ = some (.slice (some ⟨gl, 0, none⟩) (n + 1) cl)) := Lib.hid (HI.out.blk.cell 1)
                    have hlr := HI.out.l
                    rw [lsK_len] at hlr
                    obtain ⟨g, o, xx, hA, ho0, _, hgl, ⟨csl, hblk⟩, hx, hc⟩ := own_item link_len hlr (lsK_len _) (show q + 1 < n + 1 by omega)
                    cases hA
                    clear ho0
                    rw [lsK_at (by omega)] at hx
                    cases hx
                    have CG1 : Hid (wr.cell? ⟨gl, (q + 1) * 3 + 1, none⟩ = some (.int .u32 (adr (q + 1) 0))) := Lib.hid (by have := hc 1 _ rfl; rwa [Nat.zero_add] at this)
                    have CG2 : Hid (wr.cell? ⟨gl, (q + 1) * 3 + 2, none⟩ = some (.int .i64 24)) := Lib.hid (by have := hc 2 _ rfl; rwa [Nat.zero_add] at this)
                    have RG : Hid (vo.ownBlock ≠ some gl) := Lib.hid (row_not hblk HI.out.o (by decide))
                    clear hc hlr hblk hgl
                    go_upto_region 18 with fail
                    have CN : Hid (wr.cell? ⟨N, 3, none⟩ = some vo) := Lib.hid (HI.out.blk.cell 3)
                    have RN : Hid (vo.ownBlock ≠ some N) := Lib.hid (row_not HI.out.blk HI.out.o (by decide))
                    have HVO := Lib.hid HI.out.o
                    have HVLT : Hid (∀ g, vo.ownBlock = some g → g < wr.heap.size) := Lib.hid fun g hg => (HVO.out.lt g hg).2
                    have HLO5 : Hid (w.heap.size ≤ wr.heap.size) := Lib.hid HI.out.lo.size
                    have HLL : Hid ((osS n i ++ colS i q).length ≤ 1000) := Lib.hid (by rw [List.length_append]; have := osS_len n i; have := colS_len i q; have : i * n ≤ 7 * 7 := Nat.mul_le_mul (by omega) (by omega); omega)
                    refine wp_region_held_drew (S := fun _ => True) (by kernel_rfl) trivial (fun _ => ?_)
                    refine wpAnyH_each (md := .any) (m := 1) (rem := [0, 1, 2, 3, 4, 5, 6, 7, 8, 9, 10, 11, 12, 13, 14, 15, 16]) (tail := [17]) (deps := fun i => match i with | 1 => [0] | 4 => [3] | 6 => [5] | 7 => [4, 6] | 8 => [7] | 9 => [8] | 11 => [10] | 12 => [11] | 13 => [2, 9, 12] | 14 => [13] | 15 => [1, 14] | _ => []) (Tg wr vo.ownBlock 15) (Kl vo.ownBlock 15)
                      (fun ix ds v W => match ix with | 0 => v = .pointer (some ⟨N, 3, none⟩) | 1 => v = vo | 2 => v = .int .i64 ((i : Nat) : Int) | 3 => v = .pointer (some ⟨N, 1, none⟩) | 4 => v = .slice (some ⟨gl, 0, none⟩) (n + 1) cl | 5 => v = .int .i64 ((q : Nat) : Int) | 6 => v = .int .i64 ((q : Int) + 1) | 7 => v = .pointer (some ⟨gl, (q + 1) * 3, none⟩) | 8 => v = .pointer (some ⟨gl, (q + 1) * 3 + 1, none⟩) | 9 => v = .agg #[.int .u32 (adr (q + 1) 0), .int .i64 24] | 10 => v = .int .i64 ((q : Nat) : Int) | 11 => v = .int .i64 ((q : Int) + 1) | 12 => v = .int .u32 (adr 0 (q + 1)) | 13 => v = .agg #[.int .i64 ((i : Nat) : Int), .int .u32 (adr (q + 1) 0), .int .i64 24, .int .u32 (adr 0 (q + 1)), .int .i64 1] | 14 => ∃ h, v = .slice (some ⟨h, 0, none⟩) 1 1 ∧ wr.heap.size ≤ h ∧ Blk W h 128 #[.int .i64 ((i : Nat) : Int), .int .u32 (adr (q + 1) 0), .int .i64 24, .int .u32 (adr 0 (q + 1)), .int .i64 1] | 15 => W.ownsRow w.heap.size 128 5 v ((osS n i ++ colS i q) ++ [((i : Int), adr (q + 1) 0, 24, adr 0 (q + 1), 1)]).length (((osS n i ++ colS i q) ++ [((i : Int), adr (q + 1) 0, 24, adr 0 (q + 1), 1)]).flatMap CRoute) | 16 => v = .pointer (some ⟨N, 3, none⟩) | _ => True) (eachB_spec (by kernel_rfl)) (fun _ _ _ _ _ _ _ h k => h.stepl k) (fun _ _ _ => trivial) ?_ (fun _ _ _ _ => True) (fun _ _ _ _ _ _ _ _ _ _ _ _ _ _ => ⟨trivial, trivial⟩) ?_ ?_ (Tg.nil (Below.refl _ _).drew)
                    · intro i hi j _ hij hjd ds v u l W W' _ _ hk h
                      simp only [List.mem_cons, List.not_mem_nil, or_false] at hi
                      rcases hi with rfl | rfl | rfl | rfl | rfl | rfl | rfl | rfl | rfl | rfl | rfl | rfl | rfl | rfl | rfl | rfl | rfl
                      · exact h
                      · exact h
                      · exact h
                      · exact h
                      · exact h
                      · exact h
                      · exact h
                      · exact h
                      · exact h
                      · exact h
                      · exact h
                      · exact h
                      · exact h
                      · exact h
                      · obtain ⟨h', e, hs, hb⟩ := h
                        exact ⟨h', e, hs, (hk.grown.block h' hb.lt (fun e => by have := HVLT.out h' e.symm; omega)).trans hb⟩
                      · exact ownk_next h (hk.below (Ne.symm hij))
                      · exact h
                    · refine AllO.cons [] rfl rfl (fun vs l W hl hT hd => ?_) ?_
                      · dsimp only [lay, List.foldl, List.map, dstOf]
                        go_wp2
                        exact ⟨rfl, _, rfl, Kl.mk (by decide) (Below.refl _ _), rfl⟩
                      refine AllO.cons [0] rfl rfl (fun vs l W hl hT hd => ?_) ?_
                      · have e0 : vs 0 = .pointer (some ⟨N, 3, none⟩) := hd 0 (by simp)
                        have c3 : W.cell? ⟨N, 3, none⟩ = some vo := hT.cell CN.out RN.out
                        dsimp only [lay, List.foldl, List.map, dstOf]
                        rw [e0]
                        go_wp2
                        exact ⟨rfl, _, rfl, Kl.mk (by decide) (Below.refl _ _), rfl⟩
                      refine AllO.cons [] rfl rfl (fun vs l W hl hT hd => ?_) ?_
                      · dsimp only [lay, List.foldl, List.map, dstOf]
                        go_wp2
                        exact ⟨rfl, _, rfl, Kl.mk (by decide) (Below.refl _ _), rfl⟩
                      refine AllO.cons [] rfl rfl (fun vs l W hl hT hd => ?_) ?_
                      · dsimp only [lay, List.foldl, List.map, dstOf]
                        go_wp2
                        exact ⟨rfl, _, rfl, Kl.mk (by decide) (Below.refl _ _), rfl⟩
                      refine AllO.cons [3] rfl rfl (fun vs l W hl hT hd => ?_) ?_
                      · have e3 : vs 3 = .pointer (some ⟨N, 1, none⟩) := hd 3 (by simp)
                        have c4 : W.cell? ⟨N, 1, none⟩ = some (.slice (some ⟨gl, 0, none⟩) (n + 1) cl) := hT.cell CL.out RN.out
                        dsimp only [lay, List.foldl, List.map, dstOf]
                        rw [e3]
                        go_wp2
                        exact ⟨rfl, _, rfl, Kl.mk (by decide) (Below.refl _ _), rfl⟩
                      refine AllO.cons [] rfl rfl (fun vs l W hl hT hd => ?_) ?_
                      · dsimp only [lay, List.foldl, List.map, dstOf]
                        go_wp2
                        exact ⟨rfl, _, rfl, Kl.mk (by decide) (Below.refl _ _), rfl⟩
                      refine AllO.cons [5] rfl rfl (fun vs l W hl hT hd => ?_) ?_
                      · have e5 : vs 5 = .int .i64 ((q : Nat) : Int) := hd 5 (by simp)
                        dsimp only [lay, List.foldl, List.map, dstOf]
                        rw [e5]
                        go_wp2
                        exact ⟨rfl, _, rfl, Kl.mk (by decide) (Below.refl _ _), rfl⟩
                      refine AllO.cons [4, 6] rfl rfl (fun vs l W hl hT hd => ?_) ?_
                      · have e4 : vs 4 = .slice (some ⟨gl, 0, none⟩) (n + 1) cl := hd 4 (by simp)
                        have e6 : vs 6 = .int .i64 ((q : Int) + 1) := hd 6 (by simp)
                        have hib : (((q + 1 : Nat)) : Int) < (n : Int) + 1 := by omega
                        dsimp only [lay, List.foldl, List.map, dstOf]
                        rw [e4, e6]
                        rw [show (q : Int) + 1 = ((q + 1 : Nat) : Int) by omega]
                        generalize q + 1 = q1 at *
                        go_wp2
                        exact ⟨rfl, _, rfl, Kl.mk (by decide) (Below.refl _ _), rfl⟩
                      refine AllO.cons [7] rfl rfl (fun vs l W hl hT hd => ?_) ?_
                      · have e7 : vs 7 = .pointer (some ⟨gl, (q + 1) * 3, none⟩) := hd 7 (by simp)
                        dsimp only [lay, List.foldl, List.map, dstOf]
                        rw [e7]
                        go_wp2
                        exact ⟨rfl, _, rfl, Kl.mk (by decide) (Below.refl _ _), rfl⟩
                      refine AllO.cons [8] rfl rfl (fun vs l W hl hT hd => ?_) ?_
                      · have e8 : vs 8 = .pointer (some ⟨gl, (q + 1) * 3 + 1, none⟩) := hd 8 (by simp)
                        have c8 : W.cell? ⟨gl, (q + 1) * 3 + 1, none⟩ = some (.int .u32 (adr (q + 1) 0)) := hT.cell CG1.out RG.out
                        have c9 : W.cell? ⟨gl, (q + 1) * 3 + 2, none⟩ = some (.int .i64 24) := hT.cell CG2.out RG.out
                        dsimp only [lay, List.foldl, List.map, dstOf]
                        rw [e8]
                        go_wp2
                        exact ⟨rfl, _, rfl, Kl.mk (by decide) (Below.refl _ _), rfl⟩
                      refine AllO.cons [] rfl rfl (fun vs l W hl hT hd => ?_) ?_
                      · dsimp only [lay, List.foldl, List.map, dstOf]
                        go_wp2
                        exact ⟨rfl, _, rfl, Kl.mk (by decide) (Below.refl _ _), rfl⟩
                      refine AllO.cons [10] rfl rfl (fun vs l W hl hT hd => ?_) ?_
                      · have e10 : vs 10 = .int .i64 ((q : Nat) : Int) := hd 10 (by simp)
                        dsimp only [lay, List.foldl, List.map, dstOf]
                        rw [e10]
                        go_wp2
                        exact ⟨rfl, _, rfl, Kl.mk (by decide) (Below.refl _ _), rfl⟩
                      refine AllO.cons [11] rfl rfl (fun vs l W hl hT hd => ?_) ?_
                      · have e11 : vs 11 = .int .i64 ((q : Int) + 1) := hd 11 (by simp)
                        have hC := Lib.hid ((by have h := naddr_any 0 (q + 1) (by omega) (by omega) W; rw [show ((q + 1 : Nat) : Int) = (q : Int) + 1 by omega, show ((0 : Nat) : Int) = 0 by rfl] at h; exact h : Calls Tryz.prog 43 #[.int .i64 0, .int .i64 ((q : Int) + 1)] W fun e w' => e = .returned (.int .u32 (adr 0 (q + 1))) ∧ w' = W))
                        dsimp only [lay, List.foldl, List.map, dstOf]
                        rw [e11]
                        go_wp2_with (go_at_call 43; refine hC.out.mono ?_; rintro e w1 ⟨rfl, rfl⟩)
                        exact ⟨rfl, _, (by first | rfl | (simp [Act.put]; omega)), Kl.mk (by decide) (Below.refl _ _), rfl⟩
                      refine AllO.cons [2, 9, 12] rfl rfl (fun vs l W hl hT hd => ?_) ?_
                      · have e2 : vs 2 = .int .i64 ((i : Nat) : Int) := hd 2 (by simp)
                        have e9 : vs 9 = .agg #[.int .u32 (adr (q + 1) 0), .int .i64 24] := hd 9 (by simp)
                        have e12 : vs 12 = .int .u32 (adr 0 (q + 1)) := hd 12 (by simp)
                        dsimp only [lay, List.foldl, List.map, dstOf]
                        rw [e2, e9, e12]
                        go_wp2
                        exact ⟨rfl, _, rfl, Kl.mk (by decide) (Below.refl _ _), rfl⟩
                      refine AllO.cons [13] rfl rfl (fun vs l W hl hT hd => ?_) ?_
                      · have e13 : vs 13 = .agg #[.int .i64 ((i : Nat) : Int), .int .u32 (adr (q + 1) 0), .int .i64 24, .int .u32 (adr 0 (q + 1)), .int .i64 1] := hd 13 (by simp)
                        dsimp only [lay, List.foldl, List.map, dstOf]
                        rw [e13]
                        go_wp2
                        exact ⟨rfl, _, rfl, Kl.mk (by decide) ((Below.refl _ _).alloc (Nat.le_refl _) _), _, rfl, hT.grown.size, Blk.new _ _ _⟩
                      refine AllO.cons [1, 14] rfl rfl (fun vs l W hl hT hd => ?_) ?_
                      · have e1 : vs 1 = vo := hd 1 (by simp)
                        obtain ⟨h', e14, hs', hb'⟩ := hd 14 (by simp)
                        dsimp only [lay, List.foldl, List.map, dstOf]
                        rw [e1, e14]
                        obtain ⟨i0, z0, hi, hz, hzs, hsz, hby⟩ := info_route
                        have hbp := hT.pre hl
                        refine wpList_append_own_at _ rfl _ _ 25 rfl w.heap.size 128 i0 z0 5 40 Tryz.underlying25 hi hz hsz hby hzs (by decide) vo (osS n i ++ colS i q).length ((osS n i ++ colS i q).flatMap CRoute) (by rfl) (ownk_next HVO.out hbp) ⟨h', 0, none⟩ 1 1 ([((i : Int), adr (q + 1) 0, 24, adr 0 (q + 1), 1)].flatMap CRoute) (by rfl) (by rfl) (blk_news hb' (by rfl)) (fun u hu => by
                          obtain ⟨y, _, hy⟩ := List.mem_flatMap.1 hu
                          exact route_one y u hy) (by have := HLL.out; unfold maxLen; omega) (by have := HLL.out; omega) (Nat.le_trans HLO5.out hT.grown.size) ?_
                        intro v' w' hown hg _ _
                        refine wpList_nil ?_
                        exact ⟨rfl, _, rfl, Kl.app hg, by rw [List.length_append, List.flatMap_append]; exact hown⟩
                      refine AllO.cons [] rfl rfl (fun vs l W hl hT hd => ?_) AllO.nil
                      · dsimp only [lay, List.foldl, List.map, dstOf]
                        go_wp2
                        exact ⟨rfl, _, rfl, Kl.mk (by decide) (Below.refl _ _), rfl⟩
                    · intro vs l W hall hT hF _ aE LE ha hL
                      have e0 : vs 0 = .pointer (some ⟨N, 3, none⟩) := hF 0 (by simp)
                      have e1 : vs 1 = vo := hF 1 (by simp)
                      have e2 : vs 2 = .int .i64 ((i : Nat) : Int) := hF 2 (by simp)
                      have e3 : vs 3 = .pointer (some ⟨N, 1, none⟩) := hF 3 (by simp)
                      have e4 : vs 4 = .slice (some ⟨gl, 0, none⟩) (n + 1) cl := hF 4 (by simp)
                      have e5 : vs 5 = .int .i64 ((q : Nat) : Int) := hF 5 (by simp)
                      have e6 : vs 6 = .int .i64 ((q : Int) + 1) := hF 6 (by simp)
                      have e7 : vs 7 = .pointer (some ⟨gl, (q + 1) * 3, none⟩) := hF 7 (by simp)
                      have e8 : vs 8 = .pointer (some ⟨gl, (q + 1) * 3 + 1, none⟩) := hF 8 (by simp)
                      have e9 : vs 9 = .agg #[.int .u32 (adr (q + 1) 0), .int .i64 24] := hF 9 (by simp)
                      have e10 : vs 10 = .int .i64 ((q : Nat) : Int) := hF 10 (by simp)
                      have e11 : vs 11 = .int .i64 ((q : Int) + 1) := hF 11 (by simp)
                      have e12 : vs 12 = .int .u32 (adr 0 (q + 1)) := hF 12 (by simp)
                      have e13 : vs 13 = .agg #[.int .i64 ((i : Nat) : Int), .int .u32 (adr (q + 1) 0), .int .i64 24, .int .u32 (adr 0 (q + 1)), .int .i64 1] := hF 13 (by simp)
                      have e16 : vs 16 = .pointer (some ⟨N, 3, none⟩) := hF 16 (by simp)
                      obtain ⟨hbs, e14, -, -⟩ := hF 14 (by simp)
                      have hown16 := hF 15 (by simp)
                      have hL' : LE = #[true, true, true, true, true, true, true, true, true, true, true, true, true, true, true, true, true, false] := hL.trans (by kernel_rfl)
                      dsimp only [lay, List.foldl, dstOf] at ha
                      rw [e0, e1, e2, e3, e4, e5, e6, e7, e8, e9, e10, e11, e12, e13, e14, e16] at ha
                      clear e0 e1 e2 e3 e4 e5 e6 e7 e8 e9 e10 e11 e12 e13 e14 e16 hL hF
                      subst ha hL'
                      generalize vs 15 = v16 at *
                      obtain ⟨g16, cap16, rfl⟩ := own_some hown16 (by simp only [List.length_append, List.length_cons]; omega)
                      have c13 : W.cell? ⟨N, 3, none⟩ = some vo := hT.cell CN.out RN.out
                      have f13 : W.frozen? ⟨N, 3, none⟩ = false := (hT.blk HI.out.blk RN.out).frozen _
                      have HI6 := Lib.hid (HI.out.step_o hT.grown hown16)
                      refine wpAnyH_ready (rs := [17]) (by kernel_rfl) (by simp) ?_
                      refine AllReadyH.cons rfl (fun K hK => ?_) AllReadyH.nil
                      generalize ((osS n i ++ colS i q) ++ [((i : Int), adr (q + 1) 0, 24, adr 0 (q + 1), 1)]).length = LN at *
                      go_simp
                      refine hK.out _ _ trivial (fun _ => ?_)
                      clear hK
                      clear K
                      refine wpAnyH_done (by kernel_rfl) ?_ _
                      clear c13 f13 hown16 hall hT
                      generalize W.setCell ⟨N, 3, none⟩ (.slice (some ⟨g16, 0, none⟩) LN cap16) = W6 at *
                      clear CN RN HVO HVLT HLO5 HLL
                      rw [List.append_assoc, show [((i : Int), adr (q + 1) 0, 24, adr 0 (q + 1), 1)] = rtS i q by unfold rtS; rw [if_neg HNE.out], ← colS_s] at HI6
                      clear HI
                      go_wp2
                      go_roundw
                      case rel => exact ⟨q + 1, _, by omega, by go_num, HI6⟩
                      case measure => simp [intOf]; omega
                · obtain rfl : q = n := by omega
                  rw [← osS_s] at HI
                  go_wp2
                  go_roundw
                  case rel => exact ⟨i + 1, _, by omega, by go_num, HI⟩
                  case measure => simp [intOf]; omega
            · obtain rfl : n = i := by omega
              have HGR := Lib.hid fun W => ngroups_any W
              have HAD : Hid (∀ W, Calls Tryz.prog 43 #[.int .i64 0, .int .i64 1] W fun e w' => e = .returned (.int .u32 (adr 0 1)) ∧ w' = W) := Lib.hid fun W => by
                have h := naddr_any 0 1 (by omega) (by omega) W
                exact h
              have hcx : wr.cell? ⟨N, 4, none⟩ = some (.slice none 0 0) := HI.out.blk.cell 4
              have hfx := HI.out.blk.frozen 4
              go_upto_region 20 with (first
                | (go_at_call 75; refine (HGR.out _).mono ?_; rintro e w1 ⟨rfl, hb1⟩; have HI1 := Lib.hid (HI.out.next hb1); have hcx1 : w1.cell? ⟨N, 4, none⟩ = some (.slice none 0 0) := HI1.out.blk.cell 4; have hfx1 := HI1.out.blk.frozen 4; clear hcx hfx)
                | (go_at_call 43; refine (HAD.out _).mono ?_; rintro e w2 ⟨rfl, rfl⟩; have HBA := HI1.out.blk.alloc (.cells #[.int .u32 3758096384, .int .i64 4, .int .u32 (adr 0 1)] 149); have hcx2 := HBA.cell 4; have hfx2 := HBA.frozen 4; simp only [List.getElem?_toArray, List.getElem?_cons_succ, List.getElem?_cons_zero] at hcx2))
              obtain ⟨W9, hW9, f1, f2, f3, f4, f5, f6, f7, f8⟩ := HI1.out.fin (adr 0 1)
              rw [← hW9]
              obtain ⟨Ar, cr, rfl, hcr, ir⟩ := IR.of_own router_len f4
              obtain ⟨Al, cl', hvl, hcl, il⟩ := IR.of_own link_len f5
              obtain ⟨Ap, cp, rfl, hcp, ip⟩ := IR.of_own port_len f6
              obtain ⟨Ao, co, rfl, hco, io⟩ := IR.of_own route_len f7
              obtain ⟨Ag, cg, hvg, hcg, ig⟩ := IR.of_own range_len f8
              rw [hvl, hvg] at f2
              obtain ⟨⟨t0, t1, t2, t3, t4, t5, t6⟩, q0, q1, q2, q3, q4, q5, q6⟩ := slot7 f3
              obtain ⟨W5, hW5, hk5, hb5, ho5⟩ := store7 (b := w.heap.size) f3 HI1.out.hR (.slice Ar (rsK n).length cr) (.slice Al (lsK (n + 1)).length cl') (.slice Ap (psS n).length cp) (.slice Ao (osS n n).length co) (.slice Ag 1 cg) (.slice none 0 0) (.slice none 0 0)
              have n0 : W9.cell? ⟨N, 0, none⟩ = some (.slice Ar (rsK n).length cr) := f2.cell 0
              have n1 : W9.cell? ⟨N, 1, none⟩ = some (.slice Al (lsK (n + 1)).length cl') := f2.cell 1
              have n2 : W9.cell? ⟨N, 2, none⟩ = some (.slice Ap (psS n).length cp) := f2.cell 2
              have n3 : W9.cell? ⟨N, 3, none⟩ = some (.slice Ao (osS n n).length co) := f2.cell 3
              have n4 : W9.cell? ⟨N, 4, none⟩ = some (.slice Ag 1 cg) := f2.cell 4
              have n5 : W9.cell? ⟨N, 5, none⟩ = some (.slice none 0 0) := f2.cell 5
              have n6 : W9.cell? ⟨N, 6, none⟩ = some (.slice none 0 0) := f2.cell 6
              have b5 := hb5 w f1
              have i1 := own_ir router_len rfl (ho5 (t' := 77) (by decide) f4)
              rw [hvl] at f5
              have i2 := own_ir link_len rfl (ho5 (t' := 125) (by decide) f5)
              have i3 := own_ir port_len rfl (ho5 (t' := 80) (by decide) f6)
              have i4 := own_ir route_len rfl (ho5 (t' := 128) (by decide) f7)
              rw [hvg] at f8
              have i5 := own_ir range_len rfl (ho5 (t' := 149) (by decide) f8)
              have HW5 := Lib.hid hW5
              have HB5 := Lib.hid b5
              have HOO := Lib.hid (And.intro (ho5 (t' := 77) (by decide) f4) (And.intro (ho5 (t' := 125) (by decide) f5) (And.intro (ho5 (t' := 80) (by decide) f6) (And.intro (ho5 (t' := 128) (by decide) f7) (ho5 (t' := 149) (by decide) f8)))))
              have HII := Lib.hid (And.intro i1 (And.intro i2 (And.intro i3 (And.intro i4 i5))))
              have hl1 := rsK_len n
              have hl2 := lsK_len (n + 1)
              have hl3 := psS_len n
              have hl4 := osS_len n n
              have hl5 : n * n ≤ 7 * 7 := Nat.mul_le_mul (by omega) (by omega)
              have HCC := Lib.hid (And.intro hcr (And.intro hcl (And.intro hcp (And.intro hco (And.intro hcg (And.intro hl1 (And.intro hl2 (And.intro hl3 (Nat.le_trans hl4 hl5)))))))))
              clear hW9 f1 f2 f3 f4 f5 f6 f7 f8 ir il ip io ig hvl hvg hcr hcl hcp hco hcg hW5 hb5 ho5 b5 i1 i2 i3 i4 i5 hl1 hl2 hl3 hl4 hl5 HGR HAD HI hcx1 hfx1 hcx2 hfx2 HBA
              clear HI1
              go_wp2
              rw [← HW5.out]
              refine bodyPost_ret (ret_star _ R _ _ _ _ _ _ _ _ rfl (hk5.cell 0) (hk5.cell 1) (hk5.cell 2) (hk5.cell 3) (hk5.cell 4) (hk5.cell 5) (hk5.cell 6)) rfl ?_
              obtain ⟨i1, i2, i3, i4, i5⟩ := HII.out
              obtain ⟨hcr, hcl, hcp, hco, hcg, hl1, hl2, hl3, hl4⟩ := HCC.out
              refine ⟨⟨⟨Ar, _, cr⟩, ⟨Al, _, cl'⟩, ⟨Ap, _, cp⟩, ⟨Ao, _, co⟩, ⟨Ag, _, cg⟩, ⟨none, 0, 0⟩, ⟨none, 0, 0⟩⟩, rfl, ⟨i1, i2, i3, i4, i5, IR.none_ _ _ _ _, IR.none_ _ _ _ _, ⟨hcr, by simp only; omega⟩, ⟨hcl, by simp only; omega⟩, ⟨hcp, by simp only; omega⟩, ⟨hco, by simp only; omega⟩, ⟨hcg, by simp⟩, ⟨Nat.le_refl _, by simp⟩, ⟨Nat.le_refl _, by simp⟩, fun y hy => (by cases hy), star_ok n (by omega)⟩, ⟨HOO.out.1, HOO.out.2.1, HOO.out.2.2.1, HOO.out.2.2.2.1, HOO.out.2.2.2.2⟩, HB5.out⟩
end Go.Proofs.YtdljpokhcfhhfaaGreatDoor

