/- Routes whose next hops are reached by one another are no way: it ends. -/
import Derived.Test.YtahnnaagpeinkaaGreatDoorRg
import Derived.RangeFuncBox
namespace Go.Proofs.YtahnnaagpeinkaaGreatDoor
open Go.RowKit Lx Sm Go.Maps Go.Sort Go.Shelf
/-- routes in a ring -/
def ringOs (n : Nat) : List (Int × Int × Int × Int × Int) := (List.range n).map fun i : Nat => (0, (20 + (i : Int)) * 16777216, 8, (20 + (((i + 1) % n : Nat) : Int)) * 16777216 + 1, 0)
def ringCfg (n : Nat) : Cfg := { lineCfg 1 0 with os := ringOs n }
theorem ring_elem {m k : Nat} (h : k < m) : (ringOs m)[k]? = some (0, (20 + (k : Int)) * 16777216, 8, (20 + (((k + 1) % m : Nat) : Int)) * 16777216 + 1, 0) := by
  unfold ringOs; rw [List.getElem?_map, List.getElem?_range h]; rfl
theorem ring_valid : ∀ n : Fin 7, vcode (ringCfg n.val) = 0 := by decide +kernel
theorem ring_good : ∀ n : Fin 7, ∀ y ∈ ringOs n.val, (0 ≤ y.2.1 ∧ y.2.1 ≤ 4294967295) ∧ (0 ≤ y.2.2.2.1 ∧ y.2.2.2.1 ≤ 4294967295) ∧ (0 ≤ y.2.2.1 ∧ y.2.2.1 ≤ 32) ∧ 0 ≤ y.2.2.2.2 ∧ y.2.2.2.2 ≤ 65535 := by decide +kernel
theorem ring_u32 (n : Nat) (h : n ≤ 6) : ∀ y ∈ ringOs n, U32 y.2.1 ∧ U32 y.2.2.2.1 := fun y hy => ⟨(ring_good ⟨n, by omega⟩ y hy).1, (ring_good ⟨n, by omega⟩ y hy).2.1⟩
theorem ring_ribok (n : Nat) (h : n ≤ 6) : RibOK (ringCfg n) :=
  have h1 := line_ribok (n := 1) (by decide)
  ⟨h1.l, h1.p, fun y hy => (ring_good ⟨n, by omega⟩ y hy).2.2.1, fun y hy => (ring_good ⟨n, by omega⟩ y hy).2.2.2⟩
theorem ring_first : ∀ n : Fin 7, 0 < n.val → ∀ s : Fin 1000, (nearP (ringCfg n.val) 0 (335544320 + (s.val : Int))).1 = [] ∧ (farP (ringCfg n.val) 0 (335544320 + (s.val : Int))).1 = [0] := by decide +kernel
theorem ring_rest : ∀ n : Fin 7, 0 < n.val → lookP (ringCfg n.val) 0 6 (cheap (ringOs n.val) [0]).2.2.2.1 (cheap (ringOs n.val) [0]).2.2.2.1 (min (0 + (cheap (ringOs n.val) [0]).2.2.2.2) 65535) = none := by decide +kernel
theorem ring_far : ∀ n : Fin 7, 0 < n.val → lookA (ringCfg n.val) 0 1660944384 = ((0, 0, 0), false) := by decide +kernel
theorem ring_near7 : ∀ n : Fin 7, nearP (ringCfg n.val) 0 (adr 1 9) = ([1], 24) := by decide +kernel
theorem ring_near (n : Nat) (h : n ≤ 6) : nearP (ringCfg n) 0 (adr 1 9) = ([1], 24) := ring_near7 ⟨n, by omega⟩
theorem ring_look (n : Nat) (s : Int) (h0 : 0 < n) (hn : n ≤ 6) (hs : 0 ≤ s) (hs2 : s < 1000) : lookA (ringCfg n) 0 (335544320 + s) = ((0, 0, 0), false) := by
  obtain ⟨t, rfl⟩ : ∃ t : Nat, s = t := ⟨s.toNat, by omega⟩
  obtain ⟨f1, f2⟩ := ring_first ⟨n, by omega⟩ h0 ⟨t, by omega⟩
  have f3 := ring_rest ⟨n, by omega⟩ h0
  dsimp only at f1 f2 f3
  have h := look_far (x := ringCfg n) (r := 0) (a := 335544320 + (t : Int)) (v := 0) (c := 0) (k := 6) (.inl f1) (by rw [f2]; simp)
  rw [f2] at h
  unfold lookA
  have h2 : lookP (ringCfg n) 0 7 (335544320 + (t : Int)) 0 0 = none := h.trans f3
  rw [h2]
  rfl
set_option maxHeartbeats 8000000 in
set_option maxRecDepth 100000 in
theorem law_rrings (ads : List Addr) (a0 a1 : Int) (w : World) (hE : EnvC ads w) (hu0 : 0 ≤ a1) (hu1 : a1 ≤ 4294967295) :
    Calls Tryz.prog 7 #[.int .i64 a0, .int .u32 a1] w fun e w' => e = .returned (.bool true) ∧ Below w.heap.size w w' := by
  have HF := Lib.hid (first9_any ads w hE)
  have HE := Lib.hid hE
  obtain ⟨m0, hm0, h0⟩ : ∃ m0 : Nat, m0 < 6 ∧ a0 % 6 = (m0 : Int) := ⟨(a0 % 6).toNat, by omega, by omega⟩
  obtain ⟨m, hm⟩ : ∃ m : Nat, (m0 : Int) + 1 = (m : Int) := ⟨m0 + 1, by omega⟩
  have hm9 : m ≤ 6 := by omega
  have hm1 : 0 < m := by omega
  have N0 := Lib.hid fun W => numb a0 6 m0 (by decide) (by decide) h0 W
  have HL := Lib.hid fun W => line_any 1 0 (by decide) (by decide) W
  rw [show ((0 : Nat) : Int) = 0 from rfl, show ((1 : Nat) : Int) = 1 from rfl] at HL
  have HA := Lib.hid fun W => naddr_any 1 9 (by decide) (by decide) W
  rw [show ((9 : Nat) : Int) = 9 from rfl, show ((1 : Nat) : Int) = 1 from rfl] at HA
  clear hE h0
  go_enter Tryz.func7, Tryz.ntmps7
  go_upto_region 6 with (first
    | (go_at_call 9; refine HF.out.mono ?_; rintro e w1 ⟨rfl, hb1⟩; have HB1 := Lib.hid hb1; clear hb1)
    | (go_at_call 19; refine (N0.out _).mono ?_; rintro e w2 ⟨rfl, rfl⟩)
    | (go_at_call 20; refine (HL.out _).mono ?_; rintro e w3 ⟨M, rfl, hcw, hb3⟩; have HB3 := Lib.hid (below_next HB1.out hb3); have HCW := Lib.hid hcw; clear hcw hb3))
  have HM := Lib.hid hm
  clear hm
  have HN6 := Lib.hid (Blk.new w3 30 #[.slice M.r.A M.r.n M.r.c, .slice M.l.A M.l.n M.l.c, .slice M.p.A M.p.n M.p.c, .slice M.o.A M.o.n M.o.c, .slice M.g.A M.g.n M.g.c, .slice M.s.A M.s.n M.s.c, .slice M.m.A M.m.n M.m.c])
  have HB4 := Lib.hid ((Below.refl w3.heap.size w3).alloc (Nat.le_refl _) (.cells #[.slice M.r.A M.r.n M.r.c, .slice M.l.A M.l.n M.l.c, .slice M.p.A M.p.n M.p.c, .slice M.o.A M.o.n M.o.c, .slice M.g.A M.g.n M.g.c, .slice M.s.A M.s.n M.s.c, .slice M.m.A M.m.n M.m.c] 30))
  generalize w3.alloc (.cells #[.slice M.r.A M.r.n M.r.c, .slice M.l.A M.l.n M.l.c, .slice M.p.A M.p.n M.p.c, .slice M.o.A M.o.n M.o.c, .slice M.g.A M.g.n M.g.c, .slice M.s.A M.s.n M.s.c, .slice M.m.A M.m.n M.m.c] 30) = W4 at *
  have s3 : W4.cell? ⟨w3.heap.size, 3, none⟩ = some (.slice M.o.A M.o.n M.o.c) := HN6.out.cell 3
  have z3 : W4.frozen? ⟨w3.heap.size, 3, none⟩ = false := HN6.out.frozen 3
  go_upto_region 7 with fail
  have HI0 : Hid (GO w3 M (.slice none 0 0) [] (W4.setCell ⟨w3.heap.size, 3, none⟩ (.slice none 0 0))) := Lib.hid ⟨Blk.set_to HN6.out 3 (.slice none 0 0) rfl, by simpa using World.ownsRow_nil _ _ _ _, HB4.out.setCell (p := ⟨w3.heap.size, 3, none⟩) (Nat.le_refl _) (.slice none 0 0)⟩
  clear s3 z3 HN6 HB4
  generalize W4.setCell ⟨w3.heap.size, 3, none⟩ (.slice none 0 0) = W5 at *
  go_wp2
  go_loopw [7] (fun i wr => ∃ (k : Nat) (vo : Value), k ≤ m ∧ i = .int .i64 k ∧ Hid (GO w3 M vo ((ringOs m).take k) wr)) (fun i _ => m - (intOf i).toNat)
  case atStart => exact ⟨0, _, Nat.zero_le _, rfl, HI0⟩
  case round =>
    clear HI0
    obtain ⟨k, vo, hk, rfl, HI⟩ := hrel
    rcases Nat.lt_or_ge k m with hlt | hge
    · have hi0 : (k : Int) < (m : Int) := by omega
      have HTK := Lib.hid (take_snoc (ring_elem hlt))
      obtain ⟨r, hr⟩ : ∃ r, (k + 1) % m = r := ⟨_, rfl⟩
      have hr6 : r < 6 := by have := Nat.mod_lt (k + 1) hm1; omega
      have hrm : ((k : Int) + 1).tmod (m : Int) = (r : Int) := by
        rw [Int.tmod_eq_emod_of_nonneg (by omega), ← hr]
        simp
      rw [hr] at HTK
      have hLl : ((ringOs m).take k).length ≤ 6 := by rw [List.length_take]; omega
      clear hr
      generalize (ringOs m).take k = L at *
      go_wp2
      have CN : Hid (wr.cell? ⟨w3.heap.size, 3, none⟩ = some vo) := Lib.hid (HI.out.blk.cell 3)
      have RN : Hid (vo.ownBlock ≠ some w3.heap.size) := Lib.hid (row_not HI.out.blk HI.out.o (by decide))
      have HVO := Lib.hid HI.out.o
      have HVLT : Hid (∀ g, vo.ownBlock = some g → g < wr.heap.size) := Lib.hid fun g hg => (HVO.out.lt g hg).2
      have HLO5 : Hid (w3.heap.size ≤ wr.heap.size) := Lib.hid HI.out.lo.size
      have HLL : Hid (L.length ≤ 1000) := Lib.hid (by omega)
      refine wp_region_held_drew (S := fun _ => True) (by kernel_rfl) trivial (fun _ => ?_)
      refine wpAnyH_each (md := .any) (m := 1) (rem := [0, 1, 2, 3, 4, 5, 6, 7, 8, 9, 10, 11, 12, 13, 14, 15, 16, 17, 18]) (tail := [19]) (deps := fun i => match i with | 1 => [0] | 3 => [2] | 4 => [3] | 5 => [4] | 6 => [5] | 8 => [7] | 10 => [8, 9] | 11 => [10] | 12 => [11] | 13 => [12] | 14 => [13] | 15 => [6, 14] | 16 => [15] | 17 => [1, 16] | _ => []) (Tg wr vo.ownBlock 17) (Kl vo.ownBlock 17)
        (fun ix ds v W => match ix with | 0 => v = .pointer (some ⟨w3.heap.size, 3, none⟩) | 1 => v = vo | 2 => v = .int .i64 (k : Int) | 3 => v = .int .i64 (20 + (k : Int)) | 4 => v = .int .u32 (20 + (k : Int)) | 5 => v = .int .u32 ((20 + (k : Int)) * 16777216) | 6 => v = .agg #[.int .u32 ((20 + (k : Int)) * 16777216), .int .i64 8] | 7 => v = .int .i64 (k : Int) | 8 => v = .int .i64 ((k : Int) + 1) | 9 => v = .int .i64 (m : Int) | 10 => v = .int .i64 (r : Int) | 11 => v = .int .i64 (20 + (r : Int)) | 12 => v = .int .u32 (20 + (r : Int)) | 13 => v = .int .u32 ((20 + (r : Int)) * 16777216) | 14 => v = .int .u32 ((20 + (r : Int)) * 16777216 + 1) | 15 => v = .agg #[.int .i64 0, .int .u32 ((20 + (k : Int)) * 16777216), .int .i64 8, .int .u32 ((20 + (r : Int)) * 16777216 + 1), .int .i64 0] | 16 => ∃ h, v = .slice (some ⟨h, 0, none⟩) 1 1 ∧ wr.heap.size ≤ h ∧ Blk W h 64 #[.int .i64 0, .int .u32 ((20 + (k : Int)) * 16777216), .int .i64 8, .int .u32 ((20 + (r : Int)) * 16777216 + 1), .int .i64 0] | 17 => W.ownsRow w3.heap.size 64 5 v (L ++ [(0, (20 + (k : Int)) * 16777216, 8, (20 + (r : Int)) * 16777216 + 1, 0)]).length ((L ++ [(0, (20 + (k : Int)) * 16777216, 8, (20 + (r : Int)) * 16777216 + 1, 0)]).flatMap CRoute) | 18 => v = .pointer (some ⟨w3.heap.size, 3, none⟩) | _ => True) (eachB_spec (by kernel_rfl)) (fun _ _ _ _ _ _ _ h k => h.stepl k) (fun _ _ _ => trivial) ?_ (fun _ _ _ _ => True) (fun _ _ _ _ _ _ _ _ _ _ _ _ _ _ => ⟨trivial, trivial⟩) ?_ ?_ (Tg.nil (Below.refl _ _).drew)
      · intro i hi j _ hij hjd ds v u l W W' _ _ hk h
        simp only [List.mem_cons, List.not_mem_nil, or_false] at hi
        rcases hi with rfl | rfl | rfl | rfl | rfl | rfl | rfl | rfl | rfl | rfl | rfl | rfl | rfl | rfl | rfl | rfl | rfl | rfl | rfl
        · exact h
        · exact h
        · exact h
        · exact h
        · exact h
        · exact h
        · exact h
        · exact h
        · exact h
        · exact h
        · exact h
        · exact h
        · exact h
        · exact h
        · exact h
        · exact h
        · obtain ⟨h', e, hs, hb⟩ := h
          exact ⟨h', e, hs, (hk.grown.block h' hb.lt (fun e => by have := HVLT.out h' e.symm; omega)).trans hb⟩
        · exact ownk_next h (hk.below (Ne.symm hij))
        · exact h
      · refine AllO.cons [] rfl rfl (fun vs l W hl hT hd => ?_) ?_
        · dsimp only [lay, List.foldl, List.map, dstOf]
          go_wp2
          exact ⟨rfl, _, rfl, Kl.mk (by decide) (Below.refl _ _), rfl⟩
        refine AllO.cons [0] rfl rfl (fun vs l W hl hT hd => ?_) ?_
        · have e0 : vs 0 = .pointer (some ⟨w3.heap.size, 3, none⟩) := hd 0 (by simp)
          have c3 : W.cell? ⟨w3.heap.size, 3, none⟩ = some vo := hT.cell CN.out RN.out
          dsimp only [lay, List.foldl, List.map, dstOf]
          rw [e0]
          go_wp2
          exact ⟨rfl, _, rfl, Kl.mk (by decide) (Below.refl _ _), rfl⟩
        refine AllO.cons [] rfl rfl (fun vs l W hl hT hd => ?_) ?_
        · dsimp only [lay, List.foldl, List.map, dstOf]
          go_wp2
          exact ⟨rfl, _, rfl, Kl.mk (by decide) (Below.refl _ _), rfl⟩
        refine AllO.cons [2] rfl rfl (fun vs l W hl hT hd => ?_) ?_
        · have e2 : vs 2 = .int .i64 (k : Int) := hd 2 (by simp)
          dsimp only [lay, List.foldl, List.map, dstOf]
          rw [e2]
          go_wp2
          exact ⟨rfl, _, rfl, Kl.mk (by decide) (Below.refl _ _), rfl⟩
        refine AllO.cons [3] rfl rfl (fun vs l W hl hT hd => ?_) ?_
        · have e3 : vs 3 = .int .i64 (20 + (k : Int)) := hd 3 (by simp)
          dsimp only [lay, List.foldl, List.map, dstOf]
          rw [e3]
          go_wp2
          exact ⟨rfl, _, rfl, Kl.mk (by decide) (Below.refl _ _), rfl⟩
        refine AllO.cons [4] rfl rfl (fun vs l W hl hT hd => ?_) ?_
        · have e4 : vs 4 = .int .u32 (20 + (k : Int)) := hd 4 (by simp)
          dsimp only [lay, List.foldl, List.map, dstOf]
          rw [e4]
          go_wp2
          exact ⟨rfl, _, rfl, Kl.mk (by decide) (Below.refl _ _), rfl⟩
        refine AllO.cons [5] rfl rfl (fun vs l W hl hT hd => ?_) ?_
        · have e5 : vs 5 = .int .u32 ((20 + (k : Int)) * 16777216) := hd 5 (by simp)
          dsimp only [lay, List.foldl, List.map, dstOf]
          rw [e5]
          go_wp2
          exact ⟨rfl, _, rfl, Kl.mk (by decide) (Below.refl _ _), rfl⟩
        refine AllO.cons [] rfl rfl (fun vs l W hl hT hd => ?_) ?_
        · dsimp only [lay, List.foldl, List.map, dstOf]
          go_wp2
          exact ⟨rfl, _, rfl, Kl.mk (by decide) (Below.refl _ _), rfl⟩
        refine AllO.cons [7] rfl rfl (fun vs l W hl hT hd => ?_) ?_
        · have e7 : vs 7 = .int .i64 (k : Int) := hd 7 (by simp)
          dsimp only [lay, List.foldl, List.map, dstOf]
          rw [e7]
          go_wp2
          exact ⟨rfl, _, rfl, Kl.mk (by decide) (Below.refl _ _), rfl⟩
        refine AllO.cons [] rfl rfl (fun vs l W hl hT hd => ?_) ?_
        · dsimp only [lay, List.foldl, List.map, dstOf]
          go_wp2
          exact ⟨rfl, _, rfl, Kl.mk (by decide) (Below.refl _ _), rfl⟩
        refine AllO.cons [8, 9] rfl rfl (fun vs l W hl hT hd => ?_) ?_
        · have e8 : vs 8 = .int .i64 ((k : Int) + 1) := hd 8 (by simp)
          have e9 : vs 9 = .int .i64 (m : Int) := hd 9 (by simp)
          dsimp only [lay, List.foldl, List.map, dstOf]
          rw [e8, e9]
          go_wp2
          exact ⟨rfl, _, rfl, Kl.mk (by decide) (Below.refl _ _), rfl⟩
        refine AllO.cons [10] rfl rfl (fun vs l W hl hT hd => ?_) ?_
        · have e10 : vs 10 = .int .i64 (r : Int) := hd 10 (by simp)
          dsimp only [lay, List.foldl, List.map, dstOf]
          rw [e10]
          go_wp2
          exact ⟨rfl, _, rfl, Kl.mk (by decide) (Below.refl _ _), rfl⟩
        refine AllO.cons [11] rfl rfl (fun vs l W hl hT hd => ?_) ?_
        · have e11 : vs 11 = .int .i64 (20 + (r : Int)) := hd 11 (by simp)
          dsimp only [lay, List.foldl, List.map, dstOf]
          rw [e11]
          go_wp2
          exact ⟨rfl, _, rfl, Kl.mk (by decide) (Below.refl _ _), rfl⟩
        refine AllO.cons [12] rfl rfl (fun vs l W hl hT hd => ?_) ?_
        · have e12 : vs 12 = .int .u32 (20 + (r : Int)) := hd 12 (by simp)
          dsimp only [lay, List.foldl, List.map, dstOf]
          rw [e12]
          go_wp2
          exact ⟨rfl, _, rfl, Kl.mk (by decide) (Below.refl _ _), rfl⟩
        refine AllO.cons [13] rfl rfl (fun vs l W hl hT hd => ?_) ?_
        · have e13 : vs 13 = .int .u32 ((20 + (r : Int)) * 16777216) := hd 13 (by simp)
          dsimp only [lay, List.foldl, List.map, dstOf]
          rw [e13]
          go_wp2
          exact ⟨rfl, _, rfl, Kl.mk (by decide) (Below.refl _ _), rfl⟩
        refine AllO.cons [6, 14] rfl rfl (fun vs l W hl hT hd => ?_) ?_
        · have e6 : vs 6 = .agg #[.int .u32 ((20 + (k : Int)) * 16777216), .int .i64 8] := hd 6 (by simp)
          have e14 : vs 14 = .int .u32 ((20 + (r : Int)) * 16777216 + 1) := hd 14 (by simp)
          dsimp only [lay, List.foldl, List.map, dstOf]
          rw [e6, e14]
          go_wp2
          exact ⟨rfl, _, rfl, Kl.mk (by decide) (Below.refl _ _), rfl⟩
        refine AllO.cons [15] rfl rfl (fun vs l W hl hT hd => ?_) ?_
        · have e15 : vs 15 = .agg #[.int .i64 0, .int .u32 ((20 + (k : Int)) * 16777216), .int .i64 8, .int .u32 ((20 + (r : Int)) * 16777216 + 1), .int .i64 0] := hd 15 (by simp)
          dsimp only [lay, List.foldl, List.map, dstOf]
          rw [e15]
          go_wp2
          exact ⟨rfl, _, rfl, Kl.mk (by decide) ((Below.refl _ _).alloc (Nat.le_refl _) _), _, rfl, hT.grown.size, Blk.new _ _ _⟩
        refine AllO.cons [1, 16] rfl rfl (fun vs l W hl hT hd => ?_) ?_
        · have e1 : vs 1 = vo := hd 1 (by simp)
          obtain ⟨h', e16, hs', hb'⟩ := hd 16 (by simp)
          dsimp only [lay, List.foldl, List.map, dstOf]
          rw [e1, e16]
          obtain ⟨i0, z0, hi, hz, hzs, hsz, hby⟩ := info_route
          have hbp := hT.pre hl
          refine wpList_append_own_at _ rfl _ _ 25 rfl w3.heap.size 64 i0 z0 5 40 Tryz.underlying25 hi hz hsz hby hzs (by decide) vo L.length (L.flatMap CRoute) (by rfl) (ownk_next HVO.out hbp) ⟨h', 0, none⟩ 1 1 ([(0, (20 + (k : Int)) * 16777216, 8, (20 + (r : Int)) * 16777216 + 1, 0)].flatMap CRoute) (by rfl) (by rfl) (blk_news hb' (by rfl)) (fun u hu => by
            obtain ⟨y, _, hy⟩ := List.mem_flatMap.1 hu
            exact route_one y u hy) (by have := HLL.out; unfold maxLen; omega) (by have := HLL.out; omega) (Nat.le_trans HLO5.out hT.grown.size) ?_
          intro v' w' hown hg _ _
          refine wpList_nil ?_
          exact ⟨rfl, _, rfl, Kl.app hg, by rw [List.length_append, List.flatMap_append]; exact hown⟩
        refine AllO.cons [] rfl rfl (fun vs l W hl hT hd => ?_) AllO.nil
        · dsimp only [lay, List.foldl, List.map, dstOf]
          go_wp2
          exact ⟨rfl, _, rfl, Kl.mk (by decide) (Below.refl _ _), rfl⟩
      · intro vs l W hall hT hF _ aE LE ha hL
        have e0 : vs 0 = .pointer (some ⟨w3.heap.size, 3, none⟩) := hF 0 (by simp)
        have e1 : vs 1 = vo := hF 1 (by simp)
        have e2 : vs 2 = .int .i64 (k : Int) := hF 2 (by simp)
        have e3 : vs 3 = .int .i64 (20 + (k : Int)) := hF 3 (by simp)
        have e4 : vs 4 = .int .u32 (20 + (k : Int)) := hF 4 (by simp)
        have e5 : vs 5 = .int .u32 ((20 + (k : Int)) * 16777216) := hF 5 (by simp)
        have e6 : vs 6 = .agg #[.int .u32 ((20 + (k : Int)) * 16777216), .int .i64 8] := hF 6 (by simp)
        have e7 : vs 7 = .int .i64 (k : Int) := hF 7 (by simp)
        have e8 : vs 8 = .int .i64 ((k : Int) + 1) := hF 8 (by simp)
        have e9 : vs 9 = .int .i64 (m : Int) := hF 9 (by simp)
        have e10 : vs 10 = .int .i64 (r : Int) := hF 10 (by simp)
        have e11 : vs 11 = .int .i64 (20 + (r : Int)) := hF 11 (by simp)
        have e12 : vs 12 = .int .u32 (20 + (r : Int)) := hF 12 (by simp)
        have e13 : vs 13 = .int .u32 ((20 + (r : Int)) * 16777216) := hF 13 (by simp)
        have e14 : vs 14 = .int .u32 ((20 + (r : Int)) * 16777216 + 1) := hF 14 (by simp)
        have e15 : vs 15 = .agg #[.int .i64 0, .int .u32 ((20 + (k : Int)) * 16777216), .int .i64 8, .int .u32 ((20 + (r : Int)) * 16777216 + 1), .int .i64 0] := hF 15 (by simp)
        have e18 : vs 18 = .pointer (some ⟨w3.heap.size, 3, none⟩) := hF 18 (by simp)
        obtain ⟨hbs, e16, -, -⟩ := hF 16 (by simp)
        have hown16 := hF 17 (by simp)
        have hL' : LE = #[true, true, true, true, true, true, true, true, true, true, true, true, true, true, true, true, true, true, true, false] := hL.trans (by kernel_rfl)
        dsimp only [lay, List.foldl, dstOf] at ha
        rw [e0, e1, e2, e3, e4, e5, e6, e7, e8, e9, e10, e11, e12, e13, e14, e15, e16, e18] at ha
        clear e0 e1 e2 e3 e4 e5 e6 e7 e8 e9 e10 e11 e12 e13 e14 e15 e16 e18 hL hF
        subst ha hL'
        generalize vs 17 = v16 at *
        obtain ⟨g16, cap16, rfl⟩ := own_some hown16 (by simp only [List.length_append, List.length_cons]; omega)
        have c13 : W.cell? ⟨w3.heap.size, 3, none⟩ = some vo := hT.cell CN.out RN.out
        have f13 : W.frozen? ⟨w3.heap.size, 3, none⟩ = false := (hT.blk HI.out.blk RN.out).frozen _
        have HI6 := Lib.hid (HI.out.step_o hT.grown hown16)
        refine wpAnyH_ready (rs := [19]) (by kernel_rfl) (by simp) ?_
        refine AllReadyH.cons rfl (fun K hK => ?_) AllReadyH.nil
        generalize (L ++ [(0, (20 + (k : Int)) * 16777216, 8, (20 + (r : Int)) * 16777216 + 1, 0)]).length = LN at *
        go_simp
        refine hK.out _ _ trivial (fun _ => ?_)
        clear hK
        clear K
        refine wpAnyH_done (by kernel_rfl) ?_ _
        clear c13 f13 hown16 hall hT
        generalize W.setCell ⟨w3.heap.size, 3, none⟩ (.slice (some ⟨g16, 0, none⟩) LN cap16) = W6 at *
        clear CN RN HVO HVLT HLO5 HLL
        rw [← HTK.out] at HI6
        go_wp2
        go_roundw
        case rel => exact ⟨k + 1, _, by omega, by go_num, HI6⟩
        case measure => simp [intOf]; omega
    · obtain rfl : k = m := by omega
      have hi0 : ¬ ((k : Int) < (k : Int)) := by omega
      have hlt : (ringOs k).length = k := by simp [ringOs]
      have hall : (ringOs k).take k = ringOs k := List.take_of_length_le (by omega)
      rw [hall] at HI
      obtain ⟨Ao, co, rfl, hco, hir⟩ := IR.of_own route_len HI.out.o
      have HNW := Lib.hid (new_ok ads { M with o := ⟨Ao, (ringOs k).length, co⟩ } (ringCfg k) [] wr (HE.out.below (HB3.out.trans (HI.out.lo.mono HB3.out.size))) (CW.routes (HCW.out.next HI.out.lo) hir hco (by omega) (ring_u32 k hm9)) (ring_valid ⟨k, by omega⟩) (line_rn 1 0) (line_ln 1 0) (fun W _ => groups0_any _ W HCW.out.s.len.symm HCW.out.m.len.symm) (line_ports 1 0) (fun y hy => (by cases hy)))
      have HBr := Lib.hid (HB3.out.trans (HI.out.lo.mono HB3.out.size))
      have HRO := Lib.hid (ring_ribok k hm9)
      have HN := Lib.hid HI.out.blk
      dsimp only at HNW
      rw [hlt] at HNW HN
      have n0 : wr.cell? ⟨w3.heap.size, 0, none⟩ = some (.slice M.r.A M.r.n M.r.c) := HN.out.cell 0
      have n1 : wr.cell? ⟨w3.heap.size, 1, none⟩ = some (.slice M.l.A M.l.n M.l.c) := HN.out.cell 1
      have n2 : wr.cell? ⟨w3.heap.size, 2, none⟩ = some (.slice M.p.A M.p.n M.p.c) := HN.out.cell 2
      have n3 : wr.cell? ⟨w3.heap.size, 3, none⟩ = some (.slice Ao k co) := HN.out.cell 3
      have n4 : wr.cell? ⟨w3.heap.size, 4, none⟩ = some (.slice M.g.A M.g.n M.g.c) := HN.out.cell 4
      have n5 : wr.cell? ⟨w3.heap.size, 5, none⟩ = some (.slice M.s.A M.s.n M.s.c) := HN.out.cell 5
      have n6 : wr.cell? ⟨w3.heap.size, 6, none⟩ = some (.slice M.m.A M.m.n M.m.c) := HN.out.cell 6
      clear hall hlt hir hco
      go_upto_region 14 with (go_at_call 11; refine HNW.out.mono ?_; rintro e w6 ⟨T, x', rfl, hT, hal, hb6⟩; have HT := Lib.hid hT; have HAL := Lib.hid hal; have HB6 := Lib.hid (below_next HBr.out hb6); clear hT hal hb6)
      clear n0 n1 n2 n3 n4 n5 n6
      have hs0 : 0 ≤ a1 % 1000 := by omega
      have hs1 : a1 % 1000 < 1000 := by omega
      have HLK := Lib.hid fun W (hW : Below w6.heap.size w6 W) => look_at HAL.out HRO.out (line_rn 1 0) (line_ln 1 0) 0 (335544320 + a1 % 1000) W (HT.out.next hW)
      rw [ring_look k (a1 % 1000) hm1 hm9 hs0 hs1] at HLK
      have HLF := Lib.hid fun W (hW : Below w6.heap.size w6 W) => look_at HAL.out HRO.out (line_rn 1 0) (line_ln 1 0) 0 1660944384 W (HT.out.next hW)
      rw [ring_far ⟨k, by omega⟩ hm1] at HLF
      have HCO := Lib.hid fun W (hW : Below w6.heap.size w6 W) => connected_at HAL.out HRO.out (line_rn 1 0) (line_ln 1 0) 0 (adr 1 9) W (HT.out.next hW) (ring_near k hm9)
      dsimp only at HLK HLF
      go_upto_region 15 with (go_at_call 14; refine (HLK.out _ (Below.refl _ _)).mono ?_; rintro e w7 ⟨rfl, hb7⟩; have HB7 := Lib.hid hb7; clear hb7)
      have HB7a := Lib.hid (HB7.out.alloc HB7.out.size (.cells #[.int .i64 0, .int .u32 0, .int .i64 0] 45))
      generalize w7.alloc (.cells #[.int .i64 0, .int .u32 0, .int .i64 0] 45) = W7 at *
      go_upto_region 16 with (go_at_call 14; refine (HLF.out _ HB7a.out).mono ?_; rintro e w8 ⟨rfl, hb8⟩; have HB8 := Lib.hid (HB7a.out.trans (hb8.mono HB7a.out.size)); clear hb8)
      have HB8a := Lib.hid (HB8.out.alloc HB8.out.size (.cells #[.int .i64 0, .int .u32 0, .int .i64 0] 45))
      generalize w8.alloc (.cells #[.int .i64 0, .int .u32 0, .int .i64 0] 45) = W8 at *
      go_wp2_with (first
        | (go_at_call 21; refine (HA.out _).mono ?_; rintro e w9 ⟨rfl, he⟩; obtain rfl := he.symm)
        | (go_at_call 12; refine (HCO.out _ HB8a.out).mono ?_; rintro e w10 ⟨rfl, hb10⟩; have HB10 := Lib.hid (HB8a.out.trans (hb10.mono HB8a.out.size)); clear hb10))
      go_ret
      exact ⟨rfl, HB6.out.trans (HB10.out.mono HB6.out.size)⟩
end Go.Proofs.YtahnnaagpeinkaaGreatDoor

