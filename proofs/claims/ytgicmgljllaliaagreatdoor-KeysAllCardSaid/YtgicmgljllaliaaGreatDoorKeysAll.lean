/- All keys of a network: one of any source for each group, one for each source that sends or is listed by somebody who listens to it alone; walked. -/
import Derived.Test.YtgicmgljllaliaaGreatDoorKy
import Derived.Test.YtgicmgljllaliaaGreatDoorUn
namespace Go.Proofs.YtgicmgljllaliaaGreatDoor
open Go.RowKit Lx Sm Go.Maps
/-- what a source says of a key -/
def srcP (k : Int × Int) (y : Int × Int × Int) : Bool := ((y.2.1 == k.1) && (y.2.2 == k.2)) || (k.1 == 0) && (y.2.2 == k.2)
/-- what a member says of it -/
def memP (k : Int × Int) (m : Mb) : Bool := (m.g == k.2) && ((k.1 == 0) || m.o && m.xs.contains k.1)
theorem sent_has (x : Cfg) (k : Int × Int) : decide (k ∈ sentP x) = x.ss.any (fun y => (y.2.1 == k.1) && (y.2.2 == k.2)) := by
  rw [Bool.eq_iff_iff, decide_eq_true_eq, List.any_eq_true]
  unfold sentP
  rw [List.mem_map]
  simp only [Bool.and_eq_true, beq_iff_eq]
  constructor
  · rintro ⟨y, hy, rfl⟩; exact ⟨y, hy, rfl, rfl⟩
  · rintro ⟨y, hy, h1, h2⟩; exact ⟨y, hy, Prod.ext h1 h2⟩
theorem asked_has (m : Mb) (k : Int × Int) : k ∈ askedM m ↔ m.o = true ∧ k.1 ∈ m.xs ∧ m.g = k.2 := by
  unfold askedM
  split
  · rename_i h
    rw [List.mem_map]
    constructor
    · rintro ⟨a, ha, rfl⟩; exact ⟨h, ha, rfl⟩
    · rintro ⟨_, h1, h2⟩; exact ⟨k.1, h1, Prod.ext rfl h2⟩
  · rename_i h
    constructor
    · intro h2; cases h2
    · rintro ⟨h2, _⟩; exact absurd h2 h
theorem all_has {x x' : Cfg} (h : Alike x x') (k : Int × Int) : (keysS (allP x' (groupsL (grpL x)))).any (fun z => (z.1 == k.1) && (z.2 == k.2)) = (x.ss.any (srcP k) || x.ms.any (memP k)) := by
  have e1 : (keysS (allP x' (groupsL (grpL x)))).any (fun z => (z.1 == k.1) && (z.2 == k.2)) = decide (k ∈ allP x' (groupsL (grpL x))) := by
    rw [Bool.eq_iff_iff, decide_eq_true_eq, List.any_eq_true]
    simp only [Bool.and_eq_true, beq_iff_eq]
    constructor
    · rintro ⟨y, hy, h1, h2⟩
      rw [keysS_mem] at hy
      rw [show k = y from (Prod.ext h1 h2).symm]; exact hy
    · intro hk; exact ⟨k, (keysS_mem _ _).2 hk, rfl, rfl⟩
  have e2 : x'.ms.flatMap askedM = x.ms.flatMap askedM := asked_alike h.m
  have e3 : sentP x' = sentP x := by unfold sentP; rw [h.s]
  rw [e1, Bool.eq_iff_iff, decide_eq_true_eq, Bool.or_eq_true, List.any_eq_true, List.any_eq_true]
  unfold allP
  rw [e2, e3, List.mem_append, List.mem_append, List.mem_map, List.mem_flatMap]
  constructor
  · rintro ((h1 | ⟨g, hg, rfl⟩) | ⟨m, hm, h1⟩)
    · unfold sentP at h1
      obtain ⟨y, hy, rfl⟩ := List.mem_map.1 h1
      exact .inl ⟨y, hy, by simp [srcP]⟩
    · rw [grp_mem] at hg
      unfold grpL at hg
      rw [List.mem_append, List.mem_map, List.mem_map] at hg
      rcases hg with ⟨y, hy, rfl⟩ | ⟨m, hm, rfl⟩
      · exact .inl ⟨y, hy, by simp [srcP]⟩
      · exact .inr ⟨m, hm, by simp [memP]⟩
    · obtain ⟨h2, h3, h4⟩ := (asked_has m k).1 h1
      exact .inr ⟨m, hm, by simp [memP, h2, h3, h4]⟩
  · rintro (⟨y, hy, h1⟩ | ⟨m, hm, h1⟩)
    · unfold srcP at h1
      simp only [Bool.or_eq_true, Bool.and_eq_true, beq_iff_eq] at h1
      rcases h1 with ⟨h2, h3⟩ | ⟨h2, h3⟩
      · exact .inl (.inl (List.mem_map.2 ⟨y, hy, Prod.ext h2 h3⟩))
      · refine .inl (.inr ⟨y.2.2, ?_, Prod.ext h2.symm h3⟩)
        rw [grp_mem]
        exact List.mem_append_left _ (List.mem_map.2 ⟨y, hy, rfl⟩)
    · unfold memP at h1
      simp only [Bool.or_eq_true, Bool.and_eq_true, beq_iff_eq, List.contains_iff_mem] at h1
      rcases h1 with ⟨h2, h3 | ⟨h3, h4⟩⟩
      · refine .inl (.inr ⟨m.g, ?_, Prod.ext h3.symm h2⟩)
        rw [grp_mem]
        exact List.mem_append_right _ (List.mem_map.2 ⟨m, hm, rfl⟩)
      · exact .inr ⟨m, hm, (asked_has m k).2 ⟨h3, h4, h2⟩⟩
set_option maxHeartbeats 8000000 in
set_option maxRecDepth 100000 in
theorem law_kall (ads : List Addr) (M : Cm) (x : Cfg) (k : Int × Int) (w : World) (hE : EnvC ads w) (hL : LW w M x) (hk : UK k) :
    Calls Tryz.prog 6 #[.agg #[.slice M.r.A M.r.n M.r.c, .slice M.l.A M.l.n M.l.c, .slice M.p.A M.p.n M.p.c, .slice M.o.A M.o.n M.o.c, .slice M.g.A M.g.n M.g.c, .slice M.s.A M.s.n M.s.c, .slice M.m.A M.m.n M.m.c], .agg #[.int .u32 k.1, .int .u32 k.2]] w fun e w' => e = .returned (.bool true) ∧ Below w.heap.size w w' := by
  have HB0 := Lib.hid (((Below.refl w.heap.size w).alloc (Nat.le_refl _) (.cells #[.slice M.r.A M.r.n M.r.c, .slice M.l.A M.l.n M.l.c, .slice M.p.A M.p.n M.p.c, .slice M.o.A M.o.n M.o.c, .slice M.g.A M.g.n M.g.c, .slice M.s.A M.s.n M.s.c, .slice M.m.A M.m.n M.m.c] 30)).alloc (by simp) (.cells #[.int .u32 k.1, .int .u32 k.2] 44))
  have HK0 : Hid (Blk ((w.alloc (.cells #[.slice M.r.A M.r.n M.r.c, .slice M.l.A M.l.n M.l.c, .slice M.p.A M.p.n M.p.c, .slice M.o.A M.o.n M.o.c, .slice M.g.A M.g.n M.g.c, .slice M.s.A M.s.n M.s.c, .slice M.m.A M.m.n M.m.c] 30)).alloc (.cells #[.int .u32 k.1, .int .u32 k.2] 44)) w.heap.size 30 #[.slice M.r.A M.r.n M.r.c, .slice M.l.A M.l.n M.l.c, .slice M.p.A M.p.n M.p.c, .slice M.o.A M.o.n M.o.c, .slice M.g.A M.g.n M.g.c, .slice M.s.A M.s.n M.s.c, .slice M.m.A M.m.n M.m.c]) := Lib.hid ((Blk.new _ _ _).alloc _)
  have HQ0 : Hid (Blk ((w.alloc (.cells #[.slice M.r.A M.r.n M.r.c, .slice M.l.A M.l.n M.l.c, .slice M.p.A M.p.n M.p.c, .slice M.o.A M.o.n M.o.c, .slice M.g.A M.g.n M.g.c, .slice M.s.A M.s.n M.s.c, .slice M.m.A M.m.n M.m.c] 30)).alloc (.cells #[.int .u32 k.1, .int .u32 k.2] 44)) (w.heap.size + 1) 44 #[.int .u32 k.1, .int .u32 k.2]) := Lib.hid (by
    have := Blk.new (w.alloc (.cells #[.slice M.r.A M.r.n M.r.c, .slice M.l.A M.l.n M.l.c, .slice M.p.A M.p.n M.p.c, .slice M.o.A M.o.n M.o.c, .slice M.g.A M.g.n M.g.c, .slice M.s.A M.s.n M.s.c, .slice M.m.A M.m.n M.m.c] 30)) 44 #[.int .u32 k.1, .int .u32 k.2]
    simpa using this)
  have HF := Lib.hid (first16_any ads _ (hE.below HB0.out))
  have HE := Lib.hid hE
  have HL := Lib.hid hL
  clear hE hL
  go_enter Tryz.func6, Tryz.ntmps6
  go_upto_region 1 with fail
  generalize (w.alloc (.cells #[.slice M.r.A M.r.n M.r.c, .slice M.l.A M.l.n M.l.c, .slice M.p.A M.p.n M.p.c, .slice M.o.A M.o.n M.o.c, .slice M.g.A M.g.n M.g.c, .slice M.s.A M.s.n M.s.c, .slice M.m.A M.m.n M.m.c] 30)).alloc (.cells #[.int .u32 k.1, .int .u32 k.2] 44) = W0 at *
  go_wp2_with fail
  refine HF.out.mono ?_
  rintro e w1 ⟨rfl, hb1⟩
  have HB1 := Lib.hid (below_next HB0.out hb1)
  have HK1 := Lib.hid (HK0.out.next hb1)
  have HQ1 := Lib.hid (HQ0.out.next hb1)
  have y0 : w1.cell? ⟨w.heap.size, 0, none⟩ = some (.slice M.r.A M.r.n M.r.c) := HK1.out.cell 0
  have y1 : w1.cell? ⟨w.heap.size, 1, none⟩ = some (.slice M.l.A M.l.n M.l.c) := HK1.out.cell 1
  have y2 : w1.cell? ⟨w.heap.size, 2, none⟩ = some (.slice M.p.A M.p.n M.p.c) := HK1.out.cell 2
  have y3 : w1.cell? ⟨w.heap.size, 3, none⟩ = some (.slice M.o.A M.o.n M.o.c) := HK1.out.cell 3
  have y4 : w1.cell? ⟨w.heap.size, 4, none⟩ = some (.slice M.g.A M.g.n M.g.c) := HK1.out.cell 4
  have y5 : w1.cell? ⟨w.heap.size, 5, none⟩ = some (.slice M.s.A M.s.n M.s.c) := HK1.out.cell 5
  have y6 : w1.cell? ⟨w.heap.size, 6, none⟩ = some (.slice M.m.A M.m.n M.m.c) := HK1.out.cell 6
  have HG := Lib.hid (light_any M x 8 w1 (HL.out.next HB1.out) (by omega))
  clear hb1 HF
  go_wp2_with fail
  refine HG.out.mono ?_
  rintro e w2 ⟨rfl, hb2⟩
  have HB2 := Lib.hid (below_next HB1.out hb2)
  have HK2 := Lib.hid (HK1.out.next hb2)
  have HQ2 := Lib.hid (HQ1.out.next hb2)
  clear y0 y1 y2 y3 y4 y5 y6 HG hb2
  cases hlp : lightP x 8 with
  | false =>
    go_wp2
    go_ret
    exact ⟨rfl, HB2.out⟩
  | true =>
    have HOK := Lib.hid (lt_ok hlp (by omega))
    have HRL := Lib.hid (lt_rl hlp)
    have HC2 := Lib.hid ((HL.out.next HB2.out).cw HOK.out)
    have HN := Lib.hid (new_light ads M x w2 (HE.out.below HB2.out) HC2.out HOK.out)
    have y0 : w2.cell? ⟨w.heap.size, 0, none⟩ = some (.slice M.r.A M.r.n M.r.c) := HK2.out.cell 0
    have y1 : w2.cell? ⟨w.heap.size, 1, none⟩ = some (.slice M.l.A M.l.n M.l.c) := HK2.out.cell 1
    have y2 : w2.cell? ⟨w.heap.size, 2, none⟩ = some (.slice M.p.A M.p.n M.p.c) := HK2.out.cell 2
    have y3 : w2.cell? ⟨w.heap.size, 3, none⟩ = some (.slice M.o.A M.o.n M.o.c) := HK2.out.cell 3
    have y4 : w2.cell? ⟨w.heap.size, 4, none⟩ = some (.slice M.g.A M.g.n M.g.c) := HK2.out.cell 4
    have y5 : w2.cell? ⟨w.heap.size, 5, none⟩ = some (.slice M.s.A M.s.n M.s.c) := HK2.out.cell 5
    have y6 : w2.cell? ⟨w.heap.size, 6, none⟩ = some (.slice M.m.A M.m.n M.m.c) := HK2.out.cell 6
    clear hlp HL HB1 HK1 HB0 HK0 HQ1 HQ0
    go_wp2_with fail
    refine HN.out.mono ?_
    rintro e w4 ⟨T, x', rfl, hT, hal, hb4⟩
    have HT := Lib.hid hT
    have HAL := Lib.hid hal
    have HB4 := Lib.hid (below_next HB2.out hb4)
    have HK4 := Lib.hid (HK2.out.next hb4)
    have HC4 := Lib.hid (HC2.out.next hb4)
    have HQ4 := Lib.hid (HQ2.out.next hb4)
    clear y0 y1 y2 y3 y4 y5 y6 HN hT hal hb4 HC2 HK2
    have qr : M.r.n ≤ 16 := by have := HC4.out.r.len; have := HOK.out.rl; omega
    have ql : M.l.n ≤ 12 := by have := HC4.out.l.len; have := HOK.out.ll; omega
    have qp : M.p.n ≤ 24 := by have := HC4.out.p.len; have := HOK.out.pl; omega
    have qo : M.o.n ≤ 30 := by have := HC4.out.o.len; have := HOK.out.ol; omega
    have qg : M.g.n ≤ 4 := by have := HC4.out.g.len; have := HOK.out.gl; omega
    have qs : M.s.n ≤ 5 := by have := HC4.out.s.len; have := HOK.out.sl; omega
    have qm : M.m.n ≤ 10 := by have := HC4.out.m.len; have := HOK.out.ml; omega
    have HOK' := Lib.hid (HOK.out.alike HAL.out (by rw [vcode_alike HAL.out]; exact HOK.out.v))
    have hgl : (groupsL (grpL x)).length ≤ 15 := Nat.le_trans (grp_len _) (by rw [grpL_len]; have := HOK.out.sl; have := HOK.out.ml; omega)
    have HGU : Hid (∀ a ∈ groupsL (grpL x), U32 a) := Lib.hid (fun a ha => grpL_u HC4.out a ((grp_mem _ _).1 ha))
    have HAk := Lib.hid (fun W (hW : Below w4.heap.size w4 W) => all_any W (HT.out.next hW) HOK'.out HGU.out (by omega))
    have hes : sentP x' = sentP x := by unfold sentP; rw [HAL.out.s]
    have HKN := Lib.hid (fun W (hW : Below w4.heap.size w4 W) => known_any k hk W (HT.out.next hW) HOK'.out)
    rw [hes] at HKN
    have hal2 : (allP x' (groupsL (grpL x))).length ≤ 100 := by
      unfold allP
      rw [List.length_append, List.length_append, List.length_map, sentP_len]
      have h1 := asked_lens x'.ms HOK'.out.xl
      have h2 := HOK'.out.sl; have h3 := HOK'.out.ml
      omega
    have hka : (keysS (allP x' (groupsL (grpL x)))).length ≤ 100 := Nat.le_trans (keysS_len _) hal2
    have HRISE := Lib.hid (keysS_rises (allP x' (groupsL (grpL x))))
    have HHAS : Hid ((keysS (allP x' (groupsL (grpL x)))).any (fun z => (z.1 == k.1) && (z.2 == k.2)) = (x.ss.any (srcP k) || x.ms.any (memP k))) := Lib.hid (all_has HAL.out k)
    have HSENT : Hid (decide (k ∈ sentP x) = x.ss.any (fun y => (y.2.1 == k.1) && (y.2.2 == k.2))) := Lib.hid (sent_has x k)
    clear hes hal2 hk
    generalize keysS (allP x' (groupsL (grpL x))) = ka at *
    generalize allP x' (groupsL (grpL x)) = al at *
    go_wp2_with fail
    go_loopw [8, 9, 10] (fun sv tv iv wr => ∃ (i : Nat) (B C : Bool), i ≤ M.s.n ∧ iv = .int .i64 i ∧ sv = .bool B ∧ tv = .bool C ∧ Hid (B = (x.ss.take i).any (srcP k)) ∧ Hid (C = (x.ss.take i).any (fun y => (y.2.1 == k.1) && (y.2.2 == k.2))) ∧ Hid (Below w4.heap.size w4 wr)) (fun _ _ iv _ => M.s.n - (intOf iv).toNat)
    case atStart => exact ⟨0, false, false, Nat.zero_le _, rfl, rfl, rfl, Lib.hid rfl, Lib.hid rfl, Lib.hid (Below.refl _ _)⟩
    case round =>
      obtain ⟨i, B, C, hi, rfl, rfl, rfl, HV, HVC, HB⟩ := hrel
      have y5 : wr.cell? ⟨w.heap.size, 5, none⟩ = some (.slice M.s.A M.s.n M.s.c) := (HK4.out.next HB.out).cell 5
      rcases Nat.lt_or_ge i M.s.n with hlt | hge
      · obtain ⟨bq, oq, ⟨l1, s1, g1⟩, hA, hbq, hx, _, c1, c2⟩ := ISource.cells (IR.next HC4.out.s HB.out) hlt
        have hi0 : (i : Int) < (M.s.n : Int) := by omega
        have hi1 : (0 : Int) ≤ (i : Int) := by omega
        have HV2 := Lib.hid (any_take1 (p := srcP k) hx)
        have HVC2 := Lib.hid (any_take1 (p := fun y : Int × Int × Int => (y.2.1 == k.1) && (y.2.2 == k.2)) hx)
        rw [← HV.out] at HV2
        rw [← HVC.out] at HVC2
        have s5 : ∀ p : Snc wr, p.W.cell? ⟨w.heap.size, 5, none⟩ = some (.slice (some ⟨bq, oq, none⟩) M.s.n M.s.c) := fun p => by rw [← hA]; exact ((HK4.out.next HB.out).next p.b).cell 5
        have s1' : ∀ p : Snc wr, p.W.cell? ⟨bq, oq + i * 3 + 1, none⟩ = some (.int .u32 s1) := fun p => (p.b.cell (p := ⟨bq, oq + i * 3 + 1, none⟩) hbq).trans c1
        have s2' : ∀ p : Snc wr, p.W.cell? ⟨bq, oq + i * 3 + 2, none⟩ = some (.int .u32 g1) := fun p => (p.b.cell (p := ⟨bq, oq + i * 3 + 2, none⟩) hbq).trans c2
        have k0 : ∀ p : Snc wr, p.W.cell? ⟨w.heap.size + 1, 0, none⟩ = some (.int .u32 k.1) := fun p => ((HQ4.out.next HB.out).next p.b).cell 0
        have k1 : ∀ p : Snc wr, p.W.cell? ⟨w.heap.size + 1, 1, none⟩ = some (.int .u32 k.2) := fun p => ((HQ4.out.next HB.out).next p.b).cell 1
        obtain ⟨S, hS⟩ : ∃ S, ((s1 == k.1) && (g1 == k.2)) = S := ⟨_, rfl⟩
        obtain ⟨Z, hZ⟩ : ∃ Z, (k.1 == 0) = Z := ⟨_, rfl⟩
        obtain ⟨G, hG⟩ : ∃ G, (g1 == k.2) = G := ⟨_, rfl⟩
        have hsp : srcP k (l1, s1, g1) = (S || Z && G) := by rw [← hS, ← hZ, ← hG]; rfl
        rw [hsp] at HV2
        have hsc : (((l1, s1, g1) : Int × Int × Int).2.1 == k.1 && ((l1, s1, g1) : Int × Int × Int).2.2 == k.2) = S := hS
        rw [hsc] at HVC2
        have G1 : ∀ p : Snc wr, Calls Tryz.prog 12 #[.agg #[.int .u32 s1, .int .u32 g1], .agg #[.int .u32 k.1, .int .u32 k.2]] p.W fun e w' => e = .returned (.bool S) ∧ ∃ Q : Snc wr, w' = Q.W := fun p => Calls.since (skeyV (s1, g1) k hS p.W)
        clear hx c1 c2 hsp hsc hS
        go_upto_region 14 with fail
        clear y5
        refine wp_region_since (by kernel_rfl) (by kernel_rfl) ?_
        repeat (go_big_quiet_step (first | (go_at_call 12; first | (with_reducible exact G1 _))))
        refine wpQuiet_nil ?_
        rintro w5 ⟨P5, rfl⟩
        have HB5 := Lib.hid (HB.out.trans (P5.b.mono HB.out.size))
        have t5 : ∀ p : Snc P5.W, p.W.cell? ⟨w.heap.size, 5, none⟩ = some (.slice (some ⟨bq, oq, none⟩) M.s.n M.s.c) := fun p => s5 ⟨p.W, P5.b.trans (p.b.mono P5.b.size)⟩
        have t2' : ∀ p : Snc P5.W, p.W.cell? ⟨bq, oq + i * 3 + 2, none⟩ = some (.int .u32 g1) := fun p => s2' ⟨p.W, P5.b.trans (p.b.mono P5.b.size)⟩
        have j0 : ∀ p : Snc P5.W, p.W.cell? ⟨w.heap.size + 1, 0, none⟩ = some (.int .u32 k.1) := fun p => k0 ⟨p.W, P5.b.trans (p.b.mono P5.b.size)⟩
        have j1 : ∀ p : Snc P5.W, p.W.cell? ⟨w.heap.size + 1, 1, none⟩ = some (.int .u32 k.2) := fun p => k1 ⟨p.W, P5.b.trans (p.b.mono P5.b.size)⟩
        clear s5 s1' s2' k0 k1 G1 HB hA hbq
        generalize P5.W = W5 at *
        cases B with
        | true =>
          cases C with
          | true =>
            cases S with
            | true =>
              cases Z with
              | true =>
                cases G with
                | true =>
                  go_wp2_with fail
                  refine wp_region_since (by kernel_rfl) (by kernel_rfl) ?_
                  repeat (go_big_quiet_step (fail))
                  refine wpQuiet_nil ?_
                  rintro w6 ⟨P6, rfl⟩
                  have HB6 := Lib.hid (HB5.out.trans (P6.b.mono HB5.out.size))
                  clear t5 t2' j0 j1 HB5
                  generalize P6.W = W6 at *
                  go_wp2
                  go_roundw
                  case rel => exact ⟨i + 1, true, true, hlt, by go_num, rfl, rfl, Lib.hid HV2.out.symm, Lib.hid HVC2.out.symm, HB6⟩
                  case measure => simp [intOf]; omega
                | false =>
                  go_wp2_with fail
                  refine wp_region_since (by kernel_rfl) (by kernel_rfl) ?_
                  repeat (go_big_quiet_step (fail))
                  refine wpQuiet_nil ?_
                  rintro w6 ⟨P6, rfl⟩
                  have HB6 := Lib.hid (HB5.out.trans (P6.b.mono HB5.out.size))
                  clear t5 t2' j0 j1 HB5
                  generalize P6.W = W6 at *
                  go_wp2
                  go_roundw
                  case rel => exact ⟨i + 1, true, true, hlt, by go_num, rfl, rfl, Lib.hid HV2.out.symm, Lib.hid HVC2.out.symm, HB6⟩
                  case measure => simp [intOf]; omega
              | false =>
                cases G with
                | true =>
                  go_wp2_with fail
                  refine wp_region_since (by kernel_rfl) (by kernel_rfl) ?_
                  repeat (go_big_quiet_step (fail))
                  refine wpQuiet_nil ?_
                  rintro w6 ⟨P6, rfl⟩
                  have HB6 := Lib.hid (HB5.out.trans (P6.b.mono HB5.out.size))
                  clear t5 t2' j0 j1 HB5
                  generalize P6.W = W6 at *
                  go_wp2
                  go_roundw
                  case rel => exact ⟨i + 1, true, true, hlt, by go_num, rfl, rfl, Lib.hid HV2.out.symm, Lib.hid HVC2.out.symm, HB6⟩
                  case measure => simp [intOf]; omega
                | false =>
                  go_wp2_with fail
                  refine wp_region_since (by kernel_rfl) (by kernel_rfl) ?_
                  repeat (go_big_quiet_step (fail))
                  refine wpQuiet_nil ?_
                  rintro w6 ⟨P6, rfl⟩
                  have HB6 := Lib.hid (HB5.out.trans (P6.b.mono HB5.out.size))
                  clear t5 t2' j0 j1 HB5
                  generalize P6.W = W6 at *
                  go_wp2
                  go_roundw
                  case rel => exact ⟨i + 1, true, true, hlt, by go_num, rfl, rfl, Lib.hid HV2.out.symm, Lib.hid HVC2.out.symm, HB6⟩
                  case measure => simp [intOf]; omega
            | false =>
              cases Z with
              | true =>
                cases G with
                | true =>
                  go_wp2_with fail
                  refine wp_region_since (by kernel_rfl) (by kernel_rfl) ?_
                  repeat (go_big_quiet_step (fail))
                  refine wpQuiet_nil ?_
                  rintro w6 ⟨P6, rfl⟩
                  have HB6 := Lib.hid (HB5.out.trans (P6.b.mono HB5.out.size))
                  clear t5 t2' j0 j1 HB5
                  generalize P6.W = W6 at *
                  go_wp2
                  go_roundw
                  case rel => exact ⟨i + 1, true, true, hlt, by go_num, rfl, rfl, Lib.hid HV2.out.symm, Lib.hid HVC2.out.symm, HB6⟩
                  case measure => simp [intOf]; omega
                | false =>
                  go_wp2_with fail
                  refine wp_region_since (by kernel_rfl) (by kernel_rfl) ?_
                  repeat (go_big_quiet_step (fail))
                  refine wpQuiet_nil ?_
                  rintro w6 ⟨P6, rfl⟩
                  have HB6 := Lib.hid (HB5.out.trans (P6.b.mono HB5.out.size))
                  clear t5 t2' j0 j1 HB5
                  generalize P6.W = W6 at *
                  go_wp2
                  go_roundw
                  case rel => exact ⟨i + 1, true, true, hlt, by go_num, rfl, rfl, Lib.hid HV2.out.symm, Lib.hid HVC2.out.symm, HB6⟩
                  case measure => simp [intOf]; omega
              | false =>
                cases G with
                | true =>
                  go_wp2_with fail
                  refine wp_region_since (by kernel_rfl) (by kernel_rfl) ?_
                  repeat (go_big_quiet_step (fail))
                  refine wpQuiet_nil ?_
                  rintro w6 ⟨P6, rfl⟩
                  have HB6 := Lib.hid (HB5.out.trans (P6.b.mono HB5.out.size))
                  clear t5 t2' j0 j1 HB5
                  generalize P6.W = W6 at *
                  go_wp2
                  go_roundw
                  case rel => exact ⟨i + 1, true, true, hlt, by go_num, rfl, rfl, Lib.hid HV2.out.symm, Lib.hid HVC2.out.symm, HB6⟩
                  case measure => simp [intOf]; omega
                | false =>
                  go_wp2_with fail
                  refine wp_region_since (by kernel_rfl) (by kernel_rfl) ?_
                  repeat (go_big_quiet_step (fail))
                  refine wpQuiet_nil ?_
                  rintro w6 ⟨P6, rfl⟩
                  have HB6 := Lib.hid (HB5.out.trans (P6.b.mono HB5.out.size))
                  clear t5 t2' j0 j1 HB5
                  generalize P6.W = W6 at *
                  go_wp2
                  go_roundw
                  case rel => exact ⟨i + 1, true, true, hlt, by go_num, rfl, rfl, Lib.hid HV2.out.symm, Lib.hid HVC2.out.symm, HB6⟩
                  case measure => simp [intOf]; omega
          | false =>
            cases S with
            | true =>
              cases Z with
              | true =>
                cases G with
                | true =>
                  go_wp2_with fail
                  refine wp_region_since (by kernel_rfl) (by kernel_rfl) ?_
                  repeat (go_big_quiet_step (fail))
                  refine wpQuiet_nil ?_
                  rintro w6 ⟨P6, rfl⟩
                  have HB6 := Lib.hid (HB5.out.trans (P6.b.mono HB5.out.size))
                  clear t5 t2' j0 j1 HB5
                  generalize P6.W = W6 at *
                  go_wp2
                  go_roundw
                  case rel => exact ⟨i + 1, true, true, hlt, by go_num, rfl, rfl, Lib.hid HV2.out.symm, Lib.hid HVC2.out.symm, HB6⟩
                  case measure => simp [intOf]; omega
                | false =>
                  go_wp2_with fail
                  refine wp_region_since (by kernel_rfl) (by kernel_rfl) ?_
                  repeat (go_big_quiet_step (fail))
                  refine wpQuiet_nil ?_
                  rintro w6 ⟨P6, rfl⟩
                  have HB6 := Lib.hid (HB5.out.trans (P6.b.mono HB5.out.size))
                  clear t5 t2' j0 j1 HB5
                  generalize P6.W = W6 at *
                  go_wp2
                  go_roundw
                  case rel => exact ⟨i + 1, true, true, hlt, by go_num, rfl, rfl, Lib.hid HV2.out.symm, Lib.hid HVC2.out.symm, HB6⟩
                  case measure => simp [intOf]; omega
              | false =>
                cases G with
                | true =>
                  go_wp2_with fail
                  refine wp_region_since (by kernel_rfl) (by kernel_rfl) ?_
                  repeat (go_big_quiet_step (fail))
                  refine wpQuiet_nil ?_
                  rintro w6 ⟨P6, rfl⟩
                  have HB6 := Lib.hid (HB5.out.trans (P6.b.mono HB5.out.size))
                  clear t5 t2' j0 j1 HB5
                  generalize P6.W = W6 at *
                  go_wp2
                  go_roundw
                  case rel => exact ⟨i + 1, true, true, hlt, by go_num, rfl, rfl, Lib.hid HV2.out.symm, Lib.hid HVC2.out.symm, HB6⟩
                  case measure => simp [intOf]; omega
                | false =>
                  go_wp2_with fail
                  refine wp_region_since (by kernel_rfl) (by kernel_rfl) ?_
                  repeat (go_big_quiet_step (fail))
                  refine wpQuiet_nil ?_
                  rintro w6 ⟨P6, rfl⟩
                  have HB6 := Lib.hid (HB5.out.trans (P6.b.mono HB5.out.size))
                  clear t5 t2' j0 j1 HB5
                  generalize P6.W = W6 at *
                  go_wp2
                  go_roundw
                  case rel => exact ⟨i + 1, true, true, hlt, by go_num, rfl, rfl, Lib.hid HV2.out.symm, Lib.hid HVC2.out.symm, HB6⟩
                  case measure => simp [intOf]; omega
            | false =>
              cases Z with
              | true =>
                cases G with
                | true =>
                  go_wp2_with fail
                  refine wp_region_since (by kernel_rfl) (by kernel_rfl) ?_
                  repeat (go_big_quiet_step (fail))
                  refine wpQuiet_nil ?_
                  rintro w6 ⟨P6, rfl⟩
                  have HB6 := Lib.hid (HB5.out.trans (P6.b.mono HB5.out.size))
                  clear t5 t2' j0 j1 HB5
                  generalize P6.W = W6 at *
                  go_wp2
                  go_roundw
                  case rel => exact ⟨i + 1, true, false, hlt, by go_num, rfl, rfl, Lib.hid HV2.out.symm, Lib.hid HVC2.out.symm, HB6⟩
                  case measure => simp [intOf]; omega
                | false =>
                  go_wp2_with fail
                  refine wp_region_since (by kernel_rfl) (by kernel_rfl) ?_
                  repeat (go_big_quiet_step (fail))
                  refine wpQuiet_nil ?_
                  rintro w6 ⟨P6, rfl⟩
                  have HB6 := Lib.hid (HB5.out.trans (P6.b.mono HB5.out.size))
                  clear t5 t2' j0 j1 HB5
                  generalize P6.W = W6 at *
                  go_wp2
                  go_roundw
                  case rel => exact ⟨i + 1, true, false, hlt, by go_num, rfl, rfl, Lib.hid HV2.out.symm, Lib.hid HVC2.out.symm, HB6⟩
                  case measure => simp [intOf]; omega
              | false =>
                cases G with
                | true =>
                  go_wp2_with fail
                  refine wp_region_since (by kernel_rfl) (by kernel_rfl) ?_
                  repeat (go_big_quiet_step (fail))
                  refine wpQuiet_nil ?_
                  rintro w6 ⟨P6, rfl⟩
                  have HB6 := Lib.hid (HB5.out.trans (P6.b.mono HB5.out.size))
                  clear t5 t2' j0 j1 HB5
                  generalize P6.W = W6 at *
                  go_wp2
                  go_roundw
                  case rel => exact ⟨i + 1, true, false, hlt, by go_num, rfl, rfl, Lib.hid HV2.out.symm, Lib.hid HVC2.out.symm, HB6⟩
                  case measure => simp [intOf]; omega
                | false =>
                  go_wp2_with fail
                  refine wp_region_since (by kernel_rfl) (by kernel_rfl) ?_
                  repeat (go_big_quiet_step (fail))
                  refine wpQuiet_nil ?_
                  rintro w6 ⟨P6, rfl⟩
                  have HB6 := Lib.hid (HB5.out.trans (P6.b.mono HB5.out.size))
                  clear t5 t2' j0 j1 HB5
                  generalize P6.W = W6 at *
                  go_wp2
                  go_roundw
                  case rel => exact ⟨i + 1, true, false, hlt, by go_num, rfl, rfl, Lib.hid HV2.out.symm, Lib.hid HVC2.out.symm, HB6⟩
                  case measure => simp [intOf]; omega
        | false =>
          cases C with
          | true =>
            cases S with
            | true =>
              cases Z with
              | true =>
                cases G with
                | true =>
                  go_wp2_with fail
                  refine wp_region_since (by kernel_rfl) (by kernel_rfl) ?_
                  repeat (go_big_quiet_step (fail))
                  refine wpQuiet_nil ?_
                  rintro w6 ⟨P6, rfl⟩
                  have HB6 := Lib.hid (HB5.out.trans (P6.b.mono HB5.out.size))
                  clear t5 t2' j0 j1 HB5
                  generalize P6.W = W6 at *
                  go_wp2
                  go_roundw
                  case rel => exact ⟨i + 1, true, true, hlt, by go_num, rfl, rfl, Lib.hid HV2.out.symm, Lib.hid HVC2.out.symm, HB6⟩
                  case measure => simp [intOf]; omega
                | false =>
                  go_wp2_with fail
                  refine wp_region_since (by kernel_rfl) (by kernel_rfl) ?_
                  repeat (go_big_quiet_step (fail))
                  refine wpQuiet_nil ?_
                  rintro w6 ⟨P6, rfl⟩
                  have HB6 := Lib.hid (HB5.out.trans (P6.b.mono HB5.out.size))
                  clear t5 t2' j0 j1 HB5
                  generalize P6.W = W6 at *
                  go_wp2
                  go_roundw
                  case rel => exact ⟨i + 1, true, true, hlt, by go_num, rfl, rfl, Lib.hid HV2.out.symm, Lib.hid HVC2.out.symm, HB6⟩
                  case measure => simp [intOf]; omega
              | false =>
                cases G with
                | true =>
                  go_wp2_with fail
                  refine wp_region_since (by kernel_rfl) (by kernel_rfl) ?_
                  repeat (go_big_quiet_step (fail))
                  refine wpQuiet_nil ?_
                  rintro w6 ⟨P6, rfl⟩
                  have HB6 := Lib.hid (HB5.out.trans (P6.b.mono HB5.out.size))
                  clear t5 t2' j0 j1 HB5
                  generalize P6.W = W6 at *
                  go_wp2
                  go_roundw
                  case rel => exact ⟨i + 1, true, true, hlt, by go_num, rfl, rfl, Lib.hid HV2.out.symm, Lib.hid HVC2.out.symm, HB6⟩
                  case measure => simp [intOf]; omega
                | false =>
                  go_wp2_with fail
                  refine wp_region_since (by kernel_rfl) (by kernel_rfl) ?_
                  repeat (go_big_quiet_step (fail))
                  refine wpQuiet_nil ?_
                  rintro w6 ⟨P6, rfl⟩
                  have HB6 := Lib.hid (HB5.out.trans (P6.b.mono HB5.out.size))
                  clear t5 t2' j0 j1 HB5
                  generalize P6.W = W6 at *
                  go_wp2
                  go_roundw
                  case rel => exact ⟨i + 1, true, true, hlt, by go_num, rfl, rfl, Lib.hid HV2.out.symm, Lib.hid HVC2.out.symm, HB6⟩
                  case measure => simp [intOf]; omega
            | false =>
              cases Z with
              | true =>
                cases G with
                | true =>
                  go_wp2_with fail
                  refine wp_region_since (by kernel_rfl) (by kernel_rfl) ?_
                  repeat (go_big_quiet_step (fail))
                  refine wpQuiet_nil ?_
                  rintro w6 ⟨P6, rfl⟩
                  have HB6 := Lib.hid (HB5.out.trans (P6.b.mono HB5.out.size))
                  clear t5 t2' j0 j1 HB5
                  generalize P6.W = W6 at *
                  go_wp2
                  go_roundw
                  case rel => exact ⟨i + 1, true, true, hlt, by go_num, rfl, rfl, Lib.hid HV2.out.symm, Lib.hid HVC2.out.symm, HB6⟩
                  case measure => simp [intOf]; omega
                | false =>
                  go_wp2_with fail
                  refine wp_region_since (by kernel_rfl) (by kernel_rfl) ?_
                  repeat (go_big_quiet_step (fail))
                  refine wpQuiet_nil ?_
                  rintro w6 ⟨P6, rfl⟩
                  have HB6 := Lib.hid (HB5.out.trans (P6.b.mono HB5.out.size))
                  clear t5 t2' j0 j1 HB5
                  generalize P6.W = W6 at *
                  go_wp2
                  go_roundw
                  case rel => exact ⟨i + 1, false, true, hlt, by go_num, rfl, rfl, Lib.hid HV2.out.symm, Lib.hid HVC2.out.symm, HB6⟩
                  case measure => simp [intOf]; omega
              | false =>
                cases G with
                | true =>
                  go_wp2_with fail
                  refine wp_region_since (by kernel_rfl) (by kernel_rfl) ?_
                  repeat (go_big_quiet_step (fail))
                  refine wpQuiet_nil ?_
                  rintro w6 ⟨P6, rfl⟩
                  have HB6 := Lib.hid (HB5.out.trans (P6.b.mono HB5.out.size))
                  clear t5 t2' j0 j1 HB5
                  generalize P6.W = W6 at *
                  go_wp2
                  go_roundw
                  case rel => exact ⟨i + 1, false, true, hlt, by go_num, rfl, rfl, Lib.hid HV2.out.symm, Lib.hid HVC2.out.symm, HB6⟩
                  case measure => simp [intOf]; omega
                | false =>
                  go_wp2_with fail
                  refine wp_region_since (by kernel_rfl) (by kernel_rfl) ?_
                  repeat (go_big_quiet_step (fail))
                  refine wpQuiet_nil ?_
                  rintro w6 ⟨P6, rfl⟩
                  have HB6 := Lib.hid (HB5.out.trans (P6.b.mono HB5.out.size))
                  clear t5 t2' j0 j1 HB5
                  generalize P6.W = W6 at *
                  go_wp2
                  go_roundw
                  case rel => exact ⟨i + 1, false, true, hlt, by go_num, rfl, rfl, Lib.hid HV2.out.symm, Lib.hid HVC2.out.symm, HB6⟩
                  case measure => simp [intOf]; omega
          | false =>
            cases S with
            | true =>
              cases Z with
              | true =>
                cases G with
                | true =>
                  go_wp2_with fail
                  refine wp_region_since (by kernel_rfl) (by kernel_rfl) ?_
                  repeat (go_big_quiet_step (fail))
                  refine wpQuiet_nil ?_
                  rintro w6 ⟨P6, rfl⟩
                  have HB6 := Lib.hid (HB5.out.trans (P6.b.mono HB5.out.size))
                  clear t5 t2' j0 j1 HB5
                  generalize P6.W = W6 at *
                  go_wp2
                  go_roundw
                  case rel => exact ⟨i + 1, true, true, hlt, by go_num, rfl, rfl, Lib.hid HV2.out.symm, Lib.hid HVC2.out.symm, HB6⟩
                  case measure => simp [intOf]; omega
                | false =>
                  go_wp2_with fail
                  refine wp_region_since (by kernel_rfl) (by kernel_rfl) ?_
                  repeat (go_big_quiet_step (fail))
                  refine wpQuiet_nil ?_
                  rintro w6 ⟨P6, rfl⟩
                  have HB6 := Lib.hid (HB5.out.trans (P6.b.mono HB5.out.size))
                  clear t5 t2' j0 j1 HB5
                  generalize P6.W = W6 at *
                  go_wp2
                  go_roundw
                  case rel => exact ⟨i + 1, true, true, hlt, by go_num, rfl, rfl, Lib.hid HV2.out.symm, Lib.hid HVC2.out.symm, HB6⟩
                  case measure => simp [intOf]; omega
              | false =>
                cases G with
                | true =>
                  go_wp2_with fail
                  refine wp_region_since (by kernel_rfl) (by kernel_rfl) ?_
                  repeat (go_big_quiet_step (fail))
                  refine wpQuiet_nil ?_
                  rintro w6 ⟨P6, rfl⟩
                  have HB6 := Lib.hid (HB5.out.trans (P6.b.mono HB5.out.size))
                  clear t5 t2' j0 j1 HB5
                  generalize P6.W = W6 at *
                  go_wp2
                  go_roundw
                  case rel => exact ⟨i + 1, true, true, hlt, by go_num, rfl, rfl, Lib.hid HV2.out.symm, Lib.hid HVC2.out.symm, HB6⟩
                  case measure => simp [intOf]; omega
                | false =>
                  go_wp2_with fail
                  refine wp_region_since (by kernel_rfl) (by kernel_rfl) ?_
                  repeat (go_big_quiet_step (fail))
                  refine wpQuiet_nil ?_
                  rintro w6 ⟨P6, rfl⟩
                  have HB6 := Lib.hid (HB5.out.trans (P6.b.mono HB5.out.size))
                  clear t5 t2' j0 j1 HB5
                  generalize P6.W = W6 at *
                  go_wp2
                  go_roundw
                  case rel => exact ⟨i + 1, true, true, hlt, by go_num, rfl, rfl, Lib.hid HV2.out.symm, Lib.hid HVC2.out.symm, HB6⟩
                  case measure => simp [intOf]; omega
            | false =>
              cases Z with
              | true =>
                cases G with
                | true =>
                  go_wp2_with fail
                  refine wp_region_since (by kernel_rfl) (by kernel_rfl) ?_
                  repeat (go_big_quiet_step (fail))
                  refine wpQuiet_nil ?_
                  rintro w6 ⟨P6, rfl⟩
                  have HB6 := Lib.hid (HB5.out.trans (P6.b.mono HB5.out.size))
                  clear t5 t2' j0 j1 HB5
                  generalize P6.W = W6 at *
                  go_wp2
                  go_roundw
                  case rel => exact ⟨i + 1, true, false, hlt, by go_num, rfl, rfl, Lib.hid HV2.out.symm, Lib.hid HVC2.out.symm, HB6⟩
                  case measure => simp [intOf]; omega
                | false =>
                  go_wp2_with fail
                  refine wp_region_since (by kernel_rfl) (by kernel_rfl) ?_
                  repeat (go_big_quiet_step (fail))
                  refine wpQuiet_nil ?_
                  rintro w6 ⟨P6, rfl⟩
                  have HB6 := Lib.hid (HB5.out.trans (P6.b.mono HB5.out.size))
                  clear t5 t2' j0 j1 HB5
                  generalize P6.W = W6 at *
                  go_wp2
                  go_roundw
                  case rel => exact ⟨i + 1, false, false, hlt, by go_num, rfl, rfl, Lib.hid HV2.out.symm, Lib.hid HVC2.out.symm, HB6⟩
                  case measure => simp [intOf]; omega
              | false =>
                cases G with
                | true =>
                  go_wp2_with fail
                  refine wp_region_since (by kernel_rfl) (by kernel_rfl) ?_
                  repeat (go_big_quiet_step (fail))
                  refine wpQuiet_nil ?_
                  rintro w6 ⟨P6, rfl⟩
                  have HB6 := Lib.hid (HB5.out.trans (P6.b.mono HB5.out.size))
                  clear t5 t2' j0 j1 HB5
                  generalize P6.W = W6 at *
                  go_wp2
                  go_roundw
                  case rel => exact ⟨i + 1, false, false, hlt, by go_num, rfl, rfl, Lib.hid HV2.out.symm, Lib.hid HVC2.out.symm, HB6⟩
                  case measure => simp [intOf]; omega
                | false =>
                  go_wp2_with fail
                  refine wp_region_since (by kernel_rfl) (by kernel_rfl) ?_
                  repeat (go_big_quiet_step (fail))
                  refine wpQuiet_nil ?_
                  rintro w6 ⟨P6, rfl⟩
                  have HB6 := Lib.hid (HB5.out.trans (P6.b.mono HB5.out.size))
                  clear t5 t2' j0 j1 HB5
                  generalize P6.W = W6 at *
                  go_wp2
                  go_roundw
                  case rel => exact ⟨i + 1, false, false, hlt, by go_num, rfl, rfl, Lib.hid HV2.out.symm, Lib.hid HVC2.out.symm, HB6⟩
                  case measure => simp [intOf]; omega
      · obtain rfl : i = M.s.n := by omega
        have hd : decide ((M.s.n : Int) < (M.s.n : Int)) = false := by simp
        have HVB : Hid (B = x.ss.any (srcP k)) := Lib.hid (by rw [HV.out, any_full HC4.out.s.len])
        have HVD : Hid (C = x.ss.any (fun y => (y.2.1 == k.1) && (y.2.2 == k.2))) := Lib.hid (by rw [HVC.out, any_full HC4.out.s.len])
        go_wp2_with fail
        clear y5 hd HV HVC
        go_loopw [8, 12] (fun sv iv wr => ∃ (i : Nat) (B : Bool), i ≤ M.m.n ∧ iv = .int .i64 i ∧ sv = .bool B ∧ Hid (B = (x.ss.any (srcP k) || (x.ms.take i).any (memP k))) ∧ Hid (Below w4.heap.size w4 wr)) (fun _ iv _ => M.m.n - (intOf iv).toNat)
        case atStart => exact ⟨0, B, Nat.zero_le _, rfl, rfl, Lib.hid (by rw [HVB.out]; simp), HB⟩
        case round =>
          clear HVB HB hi hge
          obtain ⟨i, B, hi, rfl, rfl, HV, HB⟩ := hrel
          have y6 : wr.cell? ⟨w.heap.size, 6, none⟩ = some (.slice M.m.A M.m.n M.m.c) := (HK4.out.next HB.out).cell 6
          rcases Nat.lt_or_ge i M.m.n with hlt | hge
          · obtain ⟨bq, oq, ⟨l1, g1, o1, A1, n1, c1, ys1⟩, hA, hbq, hx, d0, d1, d2, d3⟩ := IMember.cells (IR.next HC4.out.m HB.out) hlt
            have hi0 : (i : Int) < (M.m.n : Int) := by omega
            have hi1 : (0 : Int) ≤ (i : Int) := by omega
            have hsrc := (HC4.out.next HB.out).src _ (List.mem_of_getElem? hx)
            dsimp only at hsrc
            obtain ⟨Z, hZ⟩ : ∃ Z, (k.1 == 0) = Z := ⟨_, rfl⟩
            obtain ⟨G, hG⟩ : ∃ G, (g1 == k.2) = G := ⟨_, rfl⟩
            obtain ⟨Y, hY⟩ : ∃ Y, ys1.contains k.1 = Y := ⟨_, rfl⟩
            have hmp : memP k ⟨l1, g1, o1, A1, n1, c1, ys1⟩ = (G && (Z || o1 && Y)) := by rw [← hZ, ← hG, ← hY]; rfl
            have HV3 : Hid ((x.ss.any (srcP k) || (x.ms.take (i + 1)).any (memP k)) = (B || (G && (Z || o1 && Y)))) := Lib.hid (by
              rw [any_take1 hx, hmp, ← Bool.or_assoc, ← HV.out])
            have HH := Lib.hid (fun W (hW : Below wr.heap.size wr W) => dhas_any A1 n1 c1 ys1 k.1 W (hsrc.1.next hW) hsrc.2.2)
            rw [hY] at HH
            rw [hA] at y6
            go_upto_region 21 with fail
            have hbx : Below wr.heap.size wr (wr.alloc (.cells #[.int .i64 l1, .int .u32 g1, .bool o1, .slice A1 n1 c1] 58)) := (Below.refl _ _).alloc (Nat.le_refl _) _
            have hbm := Blk.new wr 58 #[.int .i64 l1, .int .u32 g1, .bool o1, .slice A1 n1 c1]
            have HB5 := Lib.hid (HB.out.trans (hbx.mono HB.out.size))
            have HH5 := Lib.hid (HH.out _ hbx)
            clear d0 d1 d2 d3 hx hsrc hmp HV hY hbx y6 hA hbq HH
            generalize hwn : wr.heap.size = N6 at *
            generalize wr.alloc (.cells #[.int .i64 l1, .int .u32 g1, .bool o1, .slice A1 n1 c1] 58) = W5 at *
            have m1 : W5.cell? ⟨N6, 1, none⟩ = some (.int .u32 g1) := hbm.cell 1
            have m2 : W5.cell? ⟨N6, 2, none⟩ = some (.bool o1) := hbm.cell 2
            have m3 : W5.cell? ⟨N6, 3, none⟩ = some (.slice A1 n1 c1) := hbm.cell 3
            have k0 : W5.cell? ⟨w.heap.size + 1, 0, none⟩ = some (.int .u32 k.1) := (HQ4.out.next HB5.out).cell 0
            have k1 : W5.cell? ⟨w.heap.size + 1, 1, none⟩ = some (.int .u32 k.2) := (HQ4.out.next HB5.out).cell 1
            cases B with
            | true =>
              cases G with
              | true =>
                cases Z with
                | true =>
                  cases o1 with
                  | true =>
                    cases Y with
                    | true =>
                      go_wp2
                      go_roundw
                      case rel => exact ⟨i + 1, true, hlt, by go_num, rfl, Lib.hid HV3.out.symm, HB5⟩
                      case measure => simp [intOf]; omega
                    | false =>
                      go_wp2
                      go_roundw
                      case rel => exact ⟨i + 1, true, hlt, by go_num, rfl, Lib.hid HV3.out.symm, HB5⟩
                      case measure => simp [intOf]; omega
                  | false =>
                    cases Y with
                    | true =>
                      go_wp2
                      go_roundw
                      case rel => exact ⟨i + 1, true, hlt, by go_num, rfl, Lib.hid HV3.out.symm, HB5⟩
                      case measure => simp [intOf]; omega
                    | false =>
                      go_wp2
                      go_roundw
                      case rel => exact ⟨i + 1, true, hlt, by go_num, rfl, Lib.hid HV3.out.symm, HB5⟩
                      case measure => simp [intOf]; omega
                | false =>
                  cases o1 with
                  | true =>
                    cases Y with
                    | true =>
                      go_wp2
                      go_roundw
                      case rel => exact ⟨i + 1, true, hlt, by go_num, rfl, Lib.hid HV3.out.symm, HB5⟩
                      case measure => simp [intOf]; omega
                    | false =>
                      go_wp2
                      go_roundw
                      case rel => exact ⟨i + 1, true, hlt, by go_num, rfl, Lib.hid HV3.out.symm, HB5⟩
                      case measure => simp [intOf]; omega
                  | false =>
                    cases Y with
                    | true =>
                      go_wp2
                      go_roundw
                      case rel => exact ⟨i + 1, true, hlt, by go_num, rfl, Lib.hid HV3.out.symm, HB5⟩
                      case measure => simp [intOf]; omega
                    | false =>
                      go_wp2
                      go_roundw
                      case rel => exact ⟨i + 1, true, hlt, by go_num, rfl, Lib.hid HV3.out.symm, HB5⟩
                      case measure => simp [intOf]; omega
              | false =>
                cases Z with
                | true =>
                  cases o1 with
                  | true =>
                    cases Y with
                    | true =>
                      go_wp2
                      go_roundw
                      case rel => exact ⟨i + 1, true, hlt, by go_num, rfl, Lib.hid HV3.out.symm, HB5⟩
                      case measure => simp [intOf]; omega
                    | false =>
                      go_wp2
                      go_roundw
                      case rel => exact ⟨i + 1, true, hlt, by go_num, rfl, Lib.hid HV3.out.symm, HB5⟩
                      case measure => simp [intOf]; omega
                  | false =>
                    cases Y with
                    | true =>
                      go_wp2
                      go_roundw
                      case rel => exact ⟨i + 1, true, hlt, by go_num, rfl, Lib.hid HV3.out.symm, HB5⟩
                      case measure => simp [intOf]; omega
                    | false =>
                      go_wp2
                      go_roundw
                      case rel => exact ⟨i + 1, true, hlt, by go_num, rfl, Lib.hid HV3.out.symm, HB5⟩
                      case measure => simp [intOf]; omega
                | false =>
                  cases o1 with
                  | true =>
                    cases Y with
                    | true =>
                      go_wp2
                      go_roundw
                      case rel => exact ⟨i + 1, true, hlt, by go_num, rfl, Lib.hid HV3.out.symm, HB5⟩
                      case measure => simp [intOf]; omega
                    | false =>
                      go_wp2
                      go_roundw
                      case rel => exact ⟨i + 1, true, hlt, by go_num, rfl, Lib.hid HV3.out.symm, HB5⟩
                      case measure => simp [intOf]; omega
                  | false =>
                    cases Y with
                    | true =>
                      go_wp2
                      go_roundw
                      case rel => exact ⟨i + 1, true, hlt, by go_num, rfl, Lib.hid HV3.out.symm, HB5⟩
                      case measure => simp [intOf]; omega
                    | false =>
                      go_wp2
                      go_roundw
                      case rel => exact ⟨i + 1, true, hlt, by go_num, rfl, Lib.hid HV3.out.symm, HB5⟩
                      case measure => simp [intOf]; omega
            | false =>
              cases G with
              | true =>
                cases Z with
                | true =>
                  cases o1 with
                  | true =>
                    cases Y with
                    | true =>
                      go_wp2
                      go_roundw
                      case rel => exact ⟨i + 1, true, hlt, by go_num, rfl, Lib.hid HV3.out.symm, HB5⟩
                      case measure => simp [intOf]; omega
                    | false =>
                      go_wp2
                      go_roundw
                      case rel => exact ⟨i + 1, true, hlt, by go_num, rfl, Lib.hid HV3.out.symm, HB5⟩
                      case measure => simp [intOf]; omega
                  | false =>
                    cases Y with
                    | true =>
                      go_wp2
                      go_roundw
                      case rel => exact ⟨i + 1, true, hlt, by go_num, rfl, Lib.hid HV3.out.symm, HB5⟩
                      case measure => simp [intOf]; omega
                    | false =>
                      go_wp2
                      go_roundw
                      case rel => exact ⟨i + 1, true, hlt, by go_num, rfl, Lib.hid HV3.out.symm, HB5⟩
                      case measure => simp [intOf]; omega
                | false =>
                  cases o1 with
                  | true =>
                    cases Y with
                    | true =>
                      go_wp2_with (go_at_call 22; refine HH5.out.mono ?_; rintro e w6 ⟨rfl, hb6⟩; have HB6 := Lib.hid (HB5.out.trans (hb6.mono HB5.out.size)); clear hb6)
                      go_roundw
                      case rel => exact ⟨i + 1, true, hlt, by go_num, rfl, Lib.hid HV3.out.symm, HB6⟩
                      case measure => simp [intOf]; omega
                    | false =>
                      go_wp2_with (go_at_call 22; refine HH5.out.mono ?_; rintro e w6 ⟨rfl, hb6⟩; have HB6 := Lib.hid (HB5.out.trans (hb6.mono HB5.out.size)); clear hb6)
                      go_roundw
                      case rel => exact ⟨i + 1, false, hlt, by go_num, rfl, Lib.hid HV3.out.symm, HB6⟩
                      case measure => simp [intOf]; omega
                  | false =>
                    cases Y with
                    | true =>
                      go_wp2
                      go_roundw
                      case rel => exact ⟨i + 1, false, hlt, by go_num, rfl, Lib.hid HV3.out.symm, HB5⟩
                      case measure => simp [intOf]; omega
                    | false =>
                      go_wp2
                      go_roundw
                      case rel => exact ⟨i + 1, false, hlt, by go_num, rfl, Lib.hid HV3.out.symm, HB5⟩
                      case measure => simp [intOf]; omega
              | false =>
                cases Z with
                | true =>
                  cases o1 with
                  | true =>
                    cases Y with
                    | true =>
                      go_wp2
                      go_roundw
                      case rel => exact ⟨i + 1, false, hlt, by go_num, rfl, Lib.hid HV3.out.symm, HB5⟩
                      case measure => simp [intOf]; omega
                    | false =>
                      go_wp2
                      go_roundw
                      case rel => exact ⟨i + 1, false, hlt, by go_num, rfl, Lib.hid HV3.out.symm, HB5⟩
                      case measure => simp [intOf]; omega
                  | false =>
                    cases Y with
                    | true =>
                      go_wp2
                      go_roundw
                      case rel => exact ⟨i + 1, false, hlt, by go_num, rfl, Lib.hid HV3.out.symm, HB5⟩
                      case measure => simp [intOf]; omega
                    | false =>
                      go_wp2
                      go_roundw
                      case rel => exact ⟨i + 1, false, hlt, by go_num, rfl, Lib.hid HV3.out.symm, HB5⟩
                      case measure => simp [intOf]; omega
                | false =>
                  cases o1 with
                  | true =>
                    cases Y with
                    | true =>
                      go_wp2
                      go_roundw
                      case rel => exact ⟨i + 1, false, hlt, by go_num, rfl, Lib.hid HV3.out.symm, HB5⟩
                      case measure => simp [intOf]; omega
                    | false =>
                      go_wp2
                      go_roundw
                      case rel => exact ⟨i + 1, false, hlt, by go_num, rfl, Lib.hid HV3.out.symm, HB5⟩
                      case measure => simp [intOf]; omega
                  | false =>
                    cases Y with
                    | true =>
                      go_wp2
                      go_roundw
                      case rel => exact ⟨i + 1, false, hlt, by go_num, rfl, Lib.hid HV3.out.symm, HB5⟩
                      case measure => simp [intOf]; omega
                    | false =>
                      go_wp2
                      go_roundw
                      case rel => exact ⟨i + 1, false, hlt, by go_num, rfl, Lib.hid HV3.out.symm, HB5⟩
                      case measure => simp [intOf]; omega
          · obtain rfl : i = M.m.n := by omega
            have hd : decide ((M.m.n : Int) < (M.m.n : Int)) = false := by simp
            have HVM : Hid (B = ka.any (fun z => (z.1 == k.1) && (z.2 == k.2))) := Lib.hid (by rw [HV.out, any_full HC4.out.m.len, HHAS.out])
            have HA2 := Lib.hid (HAk.out wr HB.out)
            go_wp2_with fail
            refine HA2.out.mono ?_
            rintro e w7 ⟨A7, c7, rfl, hr7, hb7⟩
            have HR7 := Lib.hid hr7
            have HB7 := Lib.hid (below_next HB.out hb7)
            clear hr7 hb7 HAk HA2 y6 hd HV
            generalize hnn : ka.length = n at *
            go_wp2_with fail
            go_loopw [14, 16] (fun sv iv wr => ∃ (i : Nat) (B : Bool), i ≤ n ∧ iv = .int .i64 i ∧ sv = .bool B ∧ Hid (B = (ka.take i).any (fun z => (z.1 == k.1) && (z.2 == k.2))) ∧ Hid (Below w7.heap.size w7 wr)) (fun _ iv _ => n - (intOf iv).toNat)
            case atStart => exact ⟨0, false, Nat.zero_le _, rfl, rfl, Lib.hid rfl, Lib.hid (Below.refl _ _)⟩
            case round =>
              clear HB hi hge
              obtain ⟨i, H, hi, rfl, rfl, HV, HB⟩ := hrel
              rcases Nat.lt_or_ge i n with hlt | hge
              · obtain ⟨bx, ox, y, rfl, hx, hyc⟩ := key_cells (HR7.out.next HB.out) hlt
                have HX := Lib.hid hx
                have q0 := fun p => (hyc p).1
                have q1 := fun p => (hyc p).2
                have hi0 : (i : Int) < (n : Int) := by omega
                have hi1 : (0 : Int) ≤ (i : Int) := by omega
                have HV2 := Lib.hid (any_take1 (p := fun z : Int × Int => (z.1 == k.1) && (z.2 == k.2)) hx)
                rw [← HV.out] at HV2
                have k0 : ∀ p : Snc wr, p.W.cell? ⟨w.heap.size + 1, 0, none⟩ = some (.int .u32 k.1) := fun p => ((HQ4.out.next (below_next HB7.out HB.out)).next p.b).cell 0
                have k1 : ∀ p : Snc wr, p.W.cell? ⟨w.heap.size + 1, 1, none⟩ = some (.int .u32 k.2) := fun p => ((HQ4.out.next (below_next HB7.out HB.out)).next p.b).cell 1
                have G1 : ∀ p : Snc wr, Calls Tryz.prog 12 #[.agg #[.int .u32 y.1, .int .u32 y.2], .agg #[.int .u32 k.1, .int .u32 k.2]] p.W fun e w' => e = .returned (.bool ((y.1 == k.1) && (y.2 == k.2))) ∧ ∃ Q : Snc wr, w' = Q.W := fun p => Calls.since (skeyV y k rfl p.W)
                generalize ((y.1 == k.1) && (y.2 == k.2)) = S at *
                clear hyc hx
                cases H with
                | true =>
                  rcases Nat.eq_zero_or_pos i with hz | hp
                  · have hg : decide (0 < i) = false := by simp; omega
                    have hg' : decide ((0 : Int) < (i : Int)) = false := by simp; omega
                    clear hz
                    go_upto_region 27 with fail
                    refine wp_region_since (by kernel_rfl) (by kernel_rfl) ?_
                    repeat (go_big_quiet_step (first | (go_at_call 12; first | (with_reducible exact G1 _))))
                    refine wpQuiet_nil ?_
                    rintro w5 ⟨P5, rfl⟩
                    have HB5 := Lib.hid (HB.out.trans (P5.b.mono HB.out.size))
                    have p0 : ∀ p : Snc P5.W, p.W.cell? ⟨bx, ox + i * 2, none⟩ = some (.int .u32 y.1) := fun p => q0 ⟨p.W, P5.b.trans (p.b.mono P5.b.size)⟩
                    have p1 : ∀ p : Snc P5.W, p.W.cell? ⟨bx, ox + i * 2 + 1, none⟩ = some (.int .u32 y.2) := fun p => q1 ⟨p.W, P5.b.trans (p.b.mono P5.b.size)⟩
                    clear q0 q1 G1 HB k0 k1
                    generalize P5.W = W5 at *
                    go_upto_region 28 with fail
                    refine wp_region_since (by kernel_rfl) (by kernel_rfl) ?_
                    repeat (go_big_quiet_step (fail))
                    refine wpQuiet_nil ?_
                    rintro w6 ⟨P5, rfl⟩
                    have HB6 := Lib.hid (HB5.out.trans (P5.b.mono HB5.out.size))
                    clear p0 p1 HB5
                    generalize P5.W = W6 at *
                    go_wp2_with fail
                    go_roundw
                    case rel => exact ⟨i + 1, true, hlt, by go_num, rfl, Lib.hid (by have := HV2.out; simpa using this.symm), HB6⟩
                    case measure => simp [intOf]; omega
                  · obtain ⟨ip, hip, hip2⟩ := pred_up hp
                    have hg : decide (0 < i) = true := by simp; omega
                    have hg' : decide ((0 : Int) < (i : Int)) = true := by simp; omega
                    go_upto_region 27 with fail
                    refine wp_region_since (by kernel_rfl) (by kernel_rfl) ?_
                    repeat (go_big_quiet_step (first | (go_at_call 12; first | (with_reducible exact G1 _))))
                    refine wpQuiet_nil ?_
                    rintro w5 ⟨P5, rfl⟩
                    have HB5 := Lib.hid (HB.out.trans (P5.b.mono HB.out.size))
                    have p0 : ∀ p : Snc P5.W, p.W.cell? ⟨bx, ox + i * 2, none⟩ = some (.int .u32 y.1) := fun p => q0 ⟨p.W, P5.b.trans (p.b.mono P5.b.size)⟩
                    have p1 : ∀ p : Snc P5.W, p.W.cell? ⟨bx, ox + i * 2 + 1, none⟩ = some (.int .u32 y.2) := fun p => q1 ⟨p.W, P5.b.trans (p.b.mono P5.b.size)⟩
                    clear q0 q1 G1 HB k0 k1
                    generalize P5.W = W5 at *
                    obtain ⟨bx2, ox2, u, hA2, hu, huc⟩ := key_cells (HR7.out.next HB5.out) (show ip < n by omega)
                    cases hA2
                    have q2 := fun p => (huc p).1
                    have q3 := fun p => (huc p).2
                    have hless : decide (ltPK u y) = true := by
                      rw [decide_eq_true_eq]
                      have := List.pairwise_iff_getElem.1 HRISE.out ip i (by omega) (by omega) (by omega)
                      rw [(List.getElem?_eq_some_iff.1 hu).2, (List.getElem?_eq_some_iff.1 HX.out).2] at this
                      exact this
                    have G2 : ∀ p : Snc W5, Calls Tryz.prog 14 #[.agg #[.int .u32 u.1, .int .u32 u.2], .agg #[.int .u32 y.1, .int .u32 y.2]] p.W fun e w' => e = .returned (.bool true) ∧ ∃ Q : Snc W5, w' = Q.W := fun p => Calls.since (klessV u y hless p.W)
                    have hip0 : (ip : Int) < (n : Int) := by omega
                    have hip1 : (0 : Int) ≤ (ip : Int) := by omega
                    clear huc hu hless hip2 hp
                    go_upto_region 28 with fail
                    refine wp_region_since (by kernel_rfl) (by kernel_rfl) ?_
                    repeat (go_big_quiet_step (first | (go_at_call 14; first | (with_reducible exact G2 _))))
                    refine wpQuiet_nil ?_
                    rintro w6 ⟨P5, rfl⟩
                    have HB6 := Lib.hid (HB5.out.trans (P5.b.mono HB5.out.size))
                    clear p0 p1 q2 q3 G2 HB5 hip
                    generalize P5.W = W6 at *
                    go_wp2_with fail
                    go_roundw
                    case rel => exact ⟨i + 1, true, hlt, by go_num, rfl, Lib.hid (by have := HV2.out; simpa using this.symm), HB6⟩
                    case measure => simp [intOf]; omega
                | false =>
                  rcases Nat.eq_zero_or_pos i with hz | hp
                  · have hg : decide (0 < i) = false := by simp; omega
                    have hg' : decide ((0 : Int) < (i : Int)) = false := by simp; omega
                    clear hz
                    go_upto_region 27 with fail
                    refine wp_region_since (by kernel_rfl) (by kernel_rfl) ?_
                    repeat (go_big_quiet_step (first | (go_at_call 12; first | (with_reducible exact G1 _))))
                    refine wpQuiet_nil ?_
                    rintro w5 ⟨P5, rfl⟩
                    have HB5 := Lib.hid (HB.out.trans (P5.b.mono HB.out.size))
                    have p0 : ∀ p : Snc P5.W, p.W.cell? ⟨bx, ox + i * 2, none⟩ = some (.int .u32 y.1) := fun p => q0 ⟨p.W, P5.b.trans (p.b.mono P5.b.size)⟩
                    have p1 : ∀ p : Snc P5.W, p.W.cell? ⟨bx, ox + i * 2 + 1, none⟩ = some (.int .u32 y.2) := fun p => q1 ⟨p.W, P5.b.trans (p.b.mono P5.b.size)⟩
                    clear q0 q1 G1 HB k0 k1
                    generalize P5.W = W5 at *
                    go_upto_region 28 with fail
                    refine wp_region_since (by kernel_rfl) (by kernel_rfl) ?_
                    repeat (go_big_quiet_step (fail))
                    refine wpQuiet_nil ?_
                    rintro w6 ⟨P5, rfl⟩
                    have HB6 := Lib.hid (HB5.out.trans (P5.b.mono HB5.out.size))
                    clear p0 p1 HB5
                    generalize P5.W = W6 at *
                    go_wp2_with fail
                    go_roundw
                    case rel => exact ⟨i + 1, S, hlt, by go_num, rfl, Lib.hid (by have := HV2.out; simpa using this.symm), HB6⟩
                    case measure => simp [intOf]; omega
                  · obtain ⟨ip, hip, hip2⟩ := pred_up hp
                    have hg : decide (0 < i) = true := by simp; omega
                    have hg' : decide ((0 : Int) < (i : Int)) = true := by simp; omega
                    go_upto_region 27 with fail
                    refine wp_region_since (by kernel_rfl) (by kernel_rfl) ?_
                    repeat (go_big_quiet_step (first | (go_at_call 12; first | (with_reducible exact G1 _))))
                    refine wpQuiet_nil ?_
                    rintro w5 ⟨P5, rfl⟩
                    have HB5 := Lib.hid (HB.out.trans (P5.b.mono HB.out.size))
                    have p0 : ∀ p : Snc P5.W, p.W.cell? ⟨bx, ox + i * 2, none⟩ = some (.int .u32 y.1) := fun p => q0 ⟨p.W, P5.b.trans (p.b.mono P5.b.size)⟩
                    have p1 : ∀ p : Snc P5.W, p.W.cell? ⟨bx, ox + i * 2 + 1, none⟩ = some (.int .u32 y.2) := fun p => q1 ⟨p.W, P5.b.trans (p.b.mono P5.b.size)⟩
                    clear q0 q1 G1 HB k0 k1
                    generalize P5.W = W5 at *
                    obtain ⟨bx2, ox2, u, hA2, hu, huc⟩ := key_cells (HR7.out.next HB5.out) (show ip < n by omega)
                    cases hA2
                    have q2 := fun p => (huc p).1
                    have q3 := fun p => (huc p).2
                    have hless : decide (ltPK u y) = true := by
                      rw [decide_eq_true_eq]
                      have := List.pairwise_iff_getElem.1 HRISE.out ip i (by omega) (by omega) (by omega)
                      rw [(List.getElem?_eq_some_iff.1 hu).2, (List.getElem?_eq_some_iff.1 HX.out).2] at this
                      exact this
                    have G2 : ∀ p : Snc W5, Calls Tryz.prog 14 #[.agg #[.int .u32 u.1, .int .u32 u.2], .agg #[.int .u32 y.1, .int .u32 y.2]] p.W fun e w' => e = .returned (.bool true) ∧ ∃ Q : Snc W5, w' = Q.W := fun p => Calls.since (klessV u y hless p.W)
                    have hip0 : (ip : Int) < (n : Int) := by omega
                    have hip1 : (0 : Int) ≤ (ip : Int) := by omega
                    clear huc hu hless hip2 hp
                    go_upto_region 28 with fail
                    refine wp_region_since (by kernel_rfl) (by kernel_rfl) ?_
                    repeat (go_big_quiet_step (first | (go_at_call 14; first | (with_reducible exact G2 _))))
                    refine wpQuiet_nil ?_
                    rintro w6 ⟨P5, rfl⟩
                    have HB6 := Lib.hid (HB5.out.trans (P5.b.mono HB5.out.size))
                    clear p0 p1 q2 q3 G2 HB5 hip
                    generalize P5.W = W6 at *
                    go_wp2_with fail
                    go_roundw
                    case rel => exact ⟨i + 1, S, hlt, by go_num, rfl, Lib.hid (by have := HV2.out; simpa using this.symm), HB6⟩
                    case measure => simp [intOf]; omega
              · obtain rfl : i = n := by omega
                have hd : decide ((i : Int) < (i : Int)) = false := by simp
                obtain rfl : H = B := by rw [HV.out, any_full hnn, HVM.out]
                have HBr := Lib.hid (below_next HB7.out HB.out)
                have k0 : wr.cell? ⟨w.heap.size + 1, 0, none⟩ = some (.int .u32 k.1) := (HQ4.out.next HBr.out).cell 0
                have k1 : wr.cell? ⟨w.heap.size + 1, 1, none⟩ = some (.int .u32 k.2) := (HQ4.out.next HBr.out).cell 1
                have hhh : (H == H) = true := by simp
                have hcc : (C == C) = true := by simp
                have HKW := Lib.hid (HKN.out wr HBr.out)
                rw [HSENT.out, ← HVD.out] at HKW
                clear HV HVM HB
                go_wp2_with (go_at_call 13; refine HKW.out.mono ?_; rintro e w9 ⟨rfl, hb9⟩; have HB9 := Lib.hid (below_next HBr.out hb9); clear hb9)
                go_ret
                exact ⟨rfl, HB4.out.trans (HB9.out.mono HB4.out.size)⟩
end Go.Proofs.YtgicmgljllaliaaGreatDoor

