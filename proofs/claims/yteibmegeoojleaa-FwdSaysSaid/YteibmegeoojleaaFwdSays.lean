/- The stage's statement of fwd, walked: which row a packet is sent by, what is done with it. -/
import Derived.Test.YteibmegeoojleaaGk
import Derived.Test.YteibmegeoojleaaGs
import Derived.Test.YteibmegeoojleaaEu
namespace Go.Proofs.Yteibmegeoojleaa
open Go.ChangeShapes Go.WideShapes Go.ChangeAt Go.RowKit Sm Go.Maps
theorem lightR_parts' {ms : List PMr} {n n2 : Nat} (h : lightR ms n n2 = true) : (∀ m ∈ ms, m.p.xs.length ≤ 12) ∧ n ≤ 20 ∧ n2 ≤ 20 := by
  unfold lightR at h
  simp only [Bool.and_eq_true, decide_eq_true_eq, List.all_eq_true] at h
  exact h
theorem own_bel {w w' : World} {b k n : Nat} {e : TypeId} {v : Value} {xs : List Value} (h : w.ownsRow b e k v n xs) (hb : Below w.heap.size w w') : w'.ownsRow b e k v n xs := own_at h (fun g hg => hb.block g (h.lt g hg).2)
theorem store2b {W : World} {N b : Nat} {t : TypeId} (hs : Slot W N t 2) (hN : b ≤ N) (w : World) (hB : Below b w W) (v0 v1 : Value) : ∃ W', W' = ((W.setCell ⟨N, 0, none⟩ v0).setCell ⟨N, 1, none⟩ v1) ∧ Blk W' N t #[v0, v1] ∧ Below b w W' ∧ (∀ g t' cs, g ≠ N → Blk W g t' cs → Blk W' g t' cs) := by
  obtain ⟨W', h1, h2, h3, h4⟩ := store2k hs hN w hB v0 v1
  exact ⟨W', h1, h2, h3, fun g t' cs hg hb => (h4 g hg).trans hb⟩
set_option maxRecDepth 100000 in
set_option maxHeartbeats 8000000 in
theorem law_fsays (r : Int) (A : Option Addr) (n c : Nat) (ms : List PMr) (B2 : Option Addr) (n2 c2 : Nat) (L : List Lo) (pk : Int × Int) (pp : Int) (w : World) (h : RI CRw 6 w A n ms) (hj : ∀ m ∈ ms, JR w m.A m.p.xs.length m.p.xs) (hn : n ≤ 9223372036854775807) (hx : ∀ m ∈ ms, ∀ x ∈ m.p.xs, I64r x)
    (hl : RI CLo 3 w B2 n2 L) (hlw : ∀ x ∈ L, wfLo x) (hkk : UK pk) :
    Calls Try.prog 3 #[.int .i64 r, .slice A n c, .slice B2 n2 c2, .agg #[.int .u32 pk.1, .int .u32 pk.2, .int .i64 pp]] w fun e w' => e = .returned (.bool true) ∧ Below w.heap.size w w' := by
  obtain ⟨k1, k2⟩ := pk
  have HF := Lib.hid (fun W => first19_any W)
  have HLT := Lib.hid (fun W (hW : Below w.heap.size w W) => lightR_any A n c ms B2 n2 c2 W (h.next hW) hn)
  have HB0 := Lib.hid ((Below.refl w.heap.size w).alloc (Nat.le_refl _) (.cells #[.int .u32 k1, .int .u32 k2, .int .i64 pp] 29))
  have HK := Lib.hid (Blk.new w 29 #[.int .u32 k1, .int .u32 k2, .int .i64 pp])
  have HH := Lib.hid (And.intro h (And.intro hj (And.intro hx (And.intro hl (And.intro hlw hkk)))))
  clear h hj hx hl hlw hkk hn
  go_enter Try.func3, Try.ntmps3
  go_upto_region 1 with fail
  generalize w.alloc (.cells #[.int .u32 k1, .int .u32 k2, .int .i64 pp] 29) = W0 at *
  go_upto_region 4 with (go_at_call 6; refine (HF.out _).mono ?_; rintro e w1 ⟨rfl, hb1⟩; have HB1 := Lib.hid (below_next HB0.out hb1); have HK1 := Lib.hid (HK.out.next hb1); clear hb1)
  have HL1 := Lib.hid (HLT.out w1 HB1.out)
  clear HF HLT
  cases hlt : lightR ms n n2 with
  | false =>
    rw [hlt] at HL1
    go_wp2_with (go_at_call 7; refine HL1.out.mono ?_; rintro e w2 ⟨rfl, hb⟩; have HB2 := Lib.hid (below_next HB1.out hb); clear hb)
    go_ret
    exact ⟨rfl, HB2.out⟩
  | true =>
    rw [hlt] at HL1
    obtain ⟨hq, hn20, hn220⟩ := lightR_parts' hlt
    have HQ := Lib.hid hq
    clear hlt hq
    go_upto_region 6 with (go_at_call 7; refine HL1.out.mono ?_; rintro e w2 ⟨rfl, hb⟩; have HB2 := Lib.hid (below_next HB1.out hb); have HK2 := Lib.hid (HK1.out.next hb); clear hb)
    clear HL1
    have HDO := Lib.hid (do_any A n c ms B2 n2 c2 L r (k1, k2) pp w2 (HH.out.1.next HB2.out) (fun m hm => (HH.out.2.1 m hm).next HB2.out) (by omega) (fun m hm => ⟨Nat.le_trans (HQ.out m hm) (by decide), HH.out.2.2.1 m hm⟩) (HH.out.2.2.2.1.next HB2.out) HH.out.2.2.2.2.1 (by omega) HH.out.2.2.2.2.2)
    have HRO := Lib.hid (fun W (hW : Below w.heap.size w W) => row_any A n c ms r (k1, k2) W (HH.out.1.next hW) (fun m hm => (HH.out.2.1 m hm).next hW) (by omega) (fun m hm => Nat.le_trans (HQ.out m hm) (by decide)))
    have HDD := Lib.hid (fun W (hW : Below w.heap.size w W) (A' : Option Addr) (c' : Nat) (B' : Option Addr) (d' : Nat) (h1 : RI CRw 6 W A' n ms) (h3 : RI CLo 3 W B' n2 L) => ddo_any A' n c' ms B' n2 d' L r k1 k2 pp W h1 (fun m hm => (HH.out.2.1 m hm).next hW) (by omega) (fun m hm => Nat.le_trans (HQ.out m hm) (by decide)) h3 (by omega))
    have HUD := Lib.hid (fun W (A' : Option Addr) (c' : Nat) (h1 : RI CRw 6 W A' n ms) => dused_any A' n c' ms r k1 k2 W h1 (by omega))
    have HOT := Lib.hid (fun W (hW : Below w.heap.size w W) => other8_any A n c ms W (HH.out.1.next hW) hn20)
    have HLO := Lib.hid (fun W (hW : Below w.heap.size w W) => lost8_any B2 n2 c2 L W (HH.out.2.2.2.1.next hW) hn220)
    have HUR := Lib.hid (usedI_R (ms.map PMr.p) r (k1, k2))
    have HRD : Hid (doR (ms.map PMr.p) L r (k1, k2) pp = match rowR (ms.map PMr.p) r (k1, k2) with
      | none => ⟨0, (0, 0), []⟩
      | some p => if p.i = pp then ⟨2, p.k, outL p.xs L (k1, k2) pp⟩ else ⟨1, p.k, []⟩) := Lib.hid rfl
    have HXL : Hid ((doR (ms.map PMr.p) L r (k1, k2) pp).xs.length ≤ 12) := Lib.hid (by
      rw [HRD.out]
      cases hr : rowR (ms.map PMr.p) r (k1, k2) with
      | none => exact Nat.zero_le _
      | some p =>
        obtain ⟨m, hm, rfl⟩ := List.mem_map.1 (rowR_mem hr)
        by_cases e : m.p.i = pp
        · simp only [if_pos e]
          exact Nat.le_trans (List.length_filter_le _ _) (HQ.out m hm)
        · simp only [if_neg e]
          exact Nat.zero_le _)
    clear HRD
    have z0 : w2.cell? ⟨w.heap.size, 0, none⟩ = some (.int .u32 k1) := HK2.out.cell 0
    have z1 : w2.cell? ⟨w.heap.size, 1, none⟩ = some (.int .u32 k2) := HK2.out.cell 1
    have z2 : w2.cell? ⟨w.heap.size, 2, none⟩ = some (.int .i64 pp) := HK2.out.cell 2
    try dsimp only at HRO HDO
    generalize doR (ms.map PMr.p) L r (k1, k2) pp = D at *
    generalize rowR (ms.map PMr.p) r (k1, k2) = R at *
    generalize usedI (ms.map PMr.p) r (k1, k2) = U at *
    obtain ⟨dd, ⟨d1, d2⟩, dx⟩ := D
    go_upto_region 7 with (go_at_call 8; refine HDO.out.mono ?_; rintro e w3 ⟨⟨Ad, cd, rfl, hj3⟩, hb⟩; have HJ3 := Lib.hid hj3; have HB3 := Lib.hid (below_next HB2.out hb); have HQ3 := Lib.hid hb; clear hj3 hb)
    try dsimp only at HJ3 ⊢
    clear z0 z1 z2 HDO
    have HB4 := Lib.hid (HB3.out.alloc HB3.out.size (.cells #[.int .i64 dd, .int .u32 d1, .int .u32 d2, .slice Ad dx.length cd] 34))
    have HV4 := Lib.hid (Blk.new w3 34 #[.int .i64 dd, .int .u32 d1, .int .u32 d2, .slice Ad dx.length cd])
    have HJ4 := Lib.hid (HJ3.out.next ((Below.refl w3.heap.size w3).alloc (Nat.le_refl _) (.cells #[.int .i64 dd, .int .u32 d1, .int .u32 d2, .slice Ad dx.length cd] 34)))
    have HK4 := Lib.hid ((HK2.out.next HQ3.out).alloc (.cells #[.int .i64 dd, .int .u32 d1, .int .u32 d2, .slice Ad dx.length cd] 34))
    generalize w3.alloc (.cells #[.int .i64 dd, .int .u32 d1, .int .u32 d2, .slice Ad dx.length cd] 34) = W4 at *
    generalize w3.heap.size = N10 at *
    have CK := Lib.hid (fun W (hW : Below W4.heap.size W4 W) => HK4.out.next hW)
    refine wp_region_held_drew (S := fun _ => True) (by kernel_rfl) trivial (fun _ => ?_)
    refine wpAnyH_each (md := .any) (m := 0) (rem := [0, 1, 2, 3, 4, 5, 6, 7, 8, 9, 10, 11, 12, 13, 14, 15, 16, 17]) (tail := []) (deps := fun i => match i with | 1 => [0] | 3 => [2] | 6 => [5] | 8 => [7] | 9 => [1, 3, 4, 6, 8] | 10 => [9] | 11 => [10] | 12 => [10] | 13 => [10] | 15 => [11] | 16 => [12, 14] | 17 => [13] | _ => []) (fun _ W => Below W4.heap.size W4 W) (Kt W4.heap.size 16 27 2)
      (fun ix ds v W => match ix with | 0 => v = .slice A n c | 1 => ∃ A' c', v = .slice A' n c' ∧ W.ownsRow 0 57 6 (.slice A' n c') n (ms.flatMap CRw) | 2 => v = .slice B2 n2 c2 | 3 => ∃ A' c', v = .slice A' n2 c' ∧ W.ownsRow 0 59 3 (.slice A' n2 c') n2 (L.flatMap CLo) | 4 => v = .int .i64 r | 5 => v = .pointer (some ⟨w.heap.size, 0, none⟩) | 6 => v = .agg #[.int .u32 k1, .int .u32 k2] | 7 => v = .pointer (some ⟨w.heap.size, 2, none⟩) | 8 => v = .int .i64 pp | 9 => ∃ A' c', v = .tuple #[.int .i64 dd, .agg #[.int .u32 d1, .int .u32 d2], .slice A' dx.length c'] ∧ W.ownsRow 0 3 1 (.slice A' dx.length c') dx.length (I64 dx) | 10 => ∃ A' c', v = .tuple #[.int .i64 dd, .agg #[.int .u32 d1, .int .u32 d2], .slice A' dx.length c'] ∧ W.ownsRow 0 3 1 (.slice A' dx.length c') dx.length (I64 dx) | 11 => v = .int .i64 dd | 12 => v = .agg #[.int .u32 d1, .int .u32 d2] | 13 => ∃ A' c', v = .slice A' dx.length c' ∧ W.ownsRow 0 3 1 (.slice A' dx.length c') dx.length (I64 dx) | 14 => ∃ g, v = .pointer (some ⟨g, 0, none⟩) ∧ W4.heap.size ≤ g ∧ Slot W g 27 2 | 15 => v = .int .i64 dd | 16 => ∃ g, ds.getD 1 undef = .pointer (some ⟨g, 0, none⟩) ∧ Blk W g 27 #[.int .u32 d1, .int .u32 d2] | 17 => ∃ A' c', v = .slice A' dx.length c' ∧ W.ownsRow 0 3 1 (.slice A' dx.length c') dx.length (I64 dx) | _ => True) (eachB_spec (by kernel_rfl)) (fun _ _ _ _ _ _ _ h k => Kt.below h k) (fun _ _ _ => trivial) ?_ (fun _ _ _ _ => True) (fun _ _ _ _ _ _ _ _ _ _ _ _ _ _ => ⟨trivial, trivial⟩) ?_ ?_ (Below.refl _ _).drew
    · intro i hi j _ hij hjd ds v u l W W' _ _ hk h
      simp only [List.mem_cons, List.not_mem_nil, or_false] at hi
      rcases hi with rfl | rfl | rfl | rfl | rfl | rfl | rfl | rfl | rfl | rfl | rfl | rfl | rfl | rfl | rfl | rfl | rfl | rfl
      · exact h
      · obtain ⟨A', c', e, h1⟩ := h; exact ⟨A', c', e, Kt.own hk (by decide) h1⟩
      · exact h
      · obtain ⟨A', c', e, h1⟩ := h; exact ⟨A', c', e, Kt.own hk (by decide) h1⟩
      · exact h
      · exact h
      · exact h
      · exact h
      · exact h
      · obtain ⟨A', c', e, h1⟩ := h; exact ⟨A', c', e, Kt.own hk (by decide) h1⟩
      · obtain ⟨A', c', e, h1⟩ := h; exact ⟨A', c', e, Kt.own hk (by decide) h1⟩
      · exact h
      · exact h
      · obtain ⟨A', c', e, h1⟩ := h; exact ⟨A', c', e, Kt.own hk (by decide) h1⟩
      · obtain ⟨g, e, h1, h2⟩ := h; exact ⟨g, e, h1, Kt.slot hk h2⟩
      · exact h
      · obtain ⟨g, e, h1⟩ := h; exact ⟨g, e, h1.next (Kt.ne hk (Ne.symm hij))⟩
      · obtain ⟨A', c', e, h1⟩ := h; exact ⟨A', c', e, Kt.own hk (by decide) h1⟩
    · refine AllO.cons [] rfl rfl (fun vs l W hl hT hd => ?_) ?_
      · dsimp only [lay, List.foldl, List.map, dstOf]
        go_wp2
        exact ⟨rfl, _, rfl, Kt.mk (by decide) (Below.refl _ _), rfl⟩
      refine AllO.cons [0] rfl rfl (fun vs l W hl hT hd => ?_) ?_
      · have e0 : vs 0 = .slice A n c := hd 0 (by simp)
        have hC := Lib.hid (HOT.out W (below_next HB4.out hT))
        dsimp only [lay, List.foldl, List.map, dstOf]
        rw [e0]
        go_wp2_with (go_at_call 10; refine hC.out.mono ?_; rintro e w1 ⟨A', c', rfl, hr', hb1⟩)
        exact ⟨rfl, _, rfl, hb1, _, _, rfl, hr'⟩
      refine AllO.cons [] rfl rfl (fun vs l W hl hT hd => ?_) ?_
      · dsimp only [lay, List.foldl, List.map, dstOf]
        go_wp2
        exact ⟨rfl, _, rfl, Kt.mk (by decide) (Below.refl _ _), rfl⟩
      refine AllO.cons [2] rfl rfl (fun vs l W hl hT hd => ?_) ?_
      · have e2 : vs 2 = .slice B2 n2 c2 := hd 2 (by simp)
        have hC := Lib.hid (HLO.out W (below_next HB4.out hT))
        dsimp only [lay, List.foldl, List.map, dstOf]
        rw [e2]
        go_wp2_with (go_at_call 11; refine hC.out.mono ?_; rintro e w1 ⟨A', c', rfl, hr', hb1⟩)
        exact ⟨rfl, _, rfl, hb1, _, _, rfl, hr'⟩
      refine AllO.cons [] rfl rfl (fun vs l W hl hT hd => ?_) ?_
      · dsimp only [lay, List.foldl, List.map, dstOf]
        go_wp2
        exact ⟨rfl, _, rfl, Kt.mk (by decide) (Below.refl _ _), rfl⟩
      refine AllO.cons [] rfl rfl (fun vs l W hl hT hd => ?_) ?_
      · dsimp only [lay, List.foldl, List.map, dstOf]
        go_wp2
        exact ⟨rfl, _, rfl, Kt.mk (by decide) (Below.refl _ _), rfl⟩
      refine AllO.cons [5] rfl rfl (fun vs l W hl hT hd => ?_) ?_
      · have e5 : vs 5 = .pointer (some ⟨w.heap.size, 0, none⟩) := hd 5 (by simp)
        have f1 : W.cell? ⟨w.heap.size, 0, none⟩ = some (.int .u32 k1) := (CK.out W hT).cell 0
        have f2 : W.cell? ⟨w.heap.size, 1, none⟩ = some (.int .u32 k2) := (CK.out W hT).cell 1
        dsimp only [lay, List.foldl, List.map, dstOf]
        rw [e5]
        go_wp2
        exact ⟨rfl, _, rfl, Kt.mk (by decide) (Below.refl _ _), rfl⟩
      refine AllO.cons [] rfl rfl (fun vs l W hl hT hd => ?_) ?_
      · dsimp only [lay, List.foldl, List.map, dstOf]
        go_wp2
        exact ⟨rfl, _, rfl, Kt.mk (by decide) (Below.refl _ _), rfl⟩
      refine AllO.cons [7] rfl rfl (fun vs l W hl hT hd => ?_) ?_
      · have e7 : vs 7 = .pointer (some ⟨w.heap.size, 2, none⟩) := hd 7 (by simp)
        have f1 : W.cell? ⟨w.heap.size, 2, none⟩ = some (.int .i64 pp) := (CK.out W hT).cell 2
        dsimp only [lay, List.foldl, List.map, dstOf]
        rw [e7]
        go_wp2
        exact ⟨rfl, _, rfl, Kt.mk (by decide) (Below.refl _ _), rfl⟩
      refine AllO.cons [1, 3, 4, 6, 8] rfl rfl (fun vs l W hl hT hd => ?_) ?_
      · obtain ⟨A1, c1, e1, hr1⟩ := hd 1 (by simp)
        obtain ⟨A3, c3, e3, hr3⟩ := hd 3 (by simp)
        have e4 : vs 4 = .int .i64 r := hd 4 (by simp)
        have e6 : vs 6 = .agg #[.int .u32 k1, .int .u32 k2] := hd 6 (by simp)
        have e8 : vs 8 = .int .i64 pp := hd 8 (by simp)
        have hC := Lib.hid (HDD.out W (below_next HB4.out hT) A1 c1 A3 c3 (own_ri (fun _ => rfl) HH.out.1.len hr1) (own_ri (fun _ => rfl) HH.out.2.2.2.1.len hr3))
        dsimp only [lay, List.foldl, List.map, dstOf]
        rw [e1, e3, e4, e6, e8]
        go_wp2_with (go_at_call 9; refine hC.out.mono ?_; rintro e w1 ⟨⟨A', c', rfl, hj'⟩, hb1⟩)
        exact ⟨rfl, _, rfl, hb1, _, _, rfl, hj'⟩
      refine AllO.cons [9] rfl rfl (fun vs l W hl hT hd => ?_) ?_
      · obtain ⟨A9, c9, e9, hr9⟩ := hd 9 (by simp)
        dsimp only [lay, List.foldl, List.map, dstOf]
        rw [e9]
        go_wp2
        exact ⟨rfl, _, rfl, Kt.mk (by decide) (Below.refl _ _), _, _, rfl, hr9⟩
      refine AllO.cons [10] rfl rfl (fun vs l W hl hT hd => ?_) ?_
      · obtain ⟨A10, c10, e10, hr10⟩ := hd 10 (by simp)
        dsimp only [lay, List.foldl, List.map, dstOf]
        rw [e10]
        go_wp2
        exact ⟨rfl, _, rfl, Kt.mk (by decide) (Below.refl _ _), rfl⟩
      refine AllO.cons [10] rfl rfl (fun vs l W hl hT hd => ?_) ?_
      · obtain ⟨A10, c10, e10, hr10⟩ := hd 10 (by simp)
        dsimp only [lay, List.foldl, List.map, dstOf]
        rw [e10]
        go_wp2
        exact ⟨rfl, _, rfl, Kt.mk (by decide) (Below.refl _ _), rfl⟩
      refine AllO.cons [10] rfl rfl (fun vs l W hl hT hd => ?_) ?_
      · obtain ⟨A10, c10, e10, hr10⟩ := hd 10 (by simp)
        dsimp only [lay, List.foldl, List.map, dstOf]
        rw [e10]
        go_wp2
        exact ⟨rfl, _, rfl, Kt.mk (by decide) (Below.refl _ _), _, _, rfl, hr10⟩
      refine AllO.cons [] rfl rfl (fun vs l W hl hT hd => ?_) ?_
      · dsimp only [lay, List.foldl, List.map, dstOf]
        go_wp2
        exact ⟨rfl, _, rfl, Kt.mk (by decide) ((Below.refl _ _).alloc (Nat.le_refl _) _), _, rfl, hT.size, (Blk.new _ _ _).slot⟩
      refine AllO.cons [11] rfl rfl (fun vs l W hl hT hd => ?_) ?_
      · have e11 : vs 11 = .int .i64 dd := hd 11 (by simp)
        dsimp only [lay, List.foldl, List.map, dstOf]
        rw [e11]
        go_wp2
        exact ⟨rfl, _, rfl, Kt.mk (by decide) (Below.refl _ _), rfl⟩
      refine AllO.cons [12, 14] rfl rfl (fun vs l W hl hT hd => ?_) ?_
      · have e12 : vs 12 = .agg #[.int .u32 d1, .int .u32 d2] := hd 12 (by simp)
        obtain ⟨g14, e14, hg14, hs14⟩ := hd 14 (by simp)
        dsimp only [lay, List.foldl, List.map, dstOf]
        rw [e12, e14]
        obtain ⟨W9, hW9, hk9, hb9, ho9⟩ := store2b hs14 hg14 W (Below.refl _ _) (.int .u32 d1) (.int .u32 d2)
        have z0 := hs14.cell (i := 0) (by decide)
        have z1 := hs14.cell (i := 1) (by decide)
        have f0 := hs14.frozen 0
        have f1 := hs14.frozen 1
        have HW9 := Lib.hid hW9
        clear hW9
        go_wp2
        rw [← HW9.out]
        have hKK := Kt.mks (v := undef) (s := 16) hb9 (fun g' hs' => (by
            by_cases e : g' = g14
            · subst e; exact hk9.slot
            · obtain ⟨cs, hz, hb⟩ := hs'; exact ⟨cs, hz, ho9 g' _ cs e hb⟩)) (fun g' t' cs ht hb => ho9 g' t' cs (blk_ne hs14 hb ht) hb)
        first | exact ⟨rfl, undef, rfl, hKK, hk9⟩ | exact ⟨rfl, undef, rfl, hKK, _, e14, hk9⟩
      refine AllO.cons [13] rfl rfl (fun vs l W hl hT hd => ?_) AllO.nil
      · obtain ⟨A13, c13, e13, hr13⟩ := hd 13 (by simp)
        dsimp only [lay, List.foldl, List.map, dstOf]
        rw [e13]
        go_wp2
        exact ⟨rfl, _, rfl, Kt.mk (by decide) (Below.refl _ _), _, _, rfl, hr13⟩
    · intro vs l W5 hall hT5 hF _ aE LE ha hL
      have e0 : vs 0 = .slice A n c := hF 0 (by simp)
      obtain ⟨A1, c1, e1, hr1⟩ := hF 1 (by simp)
      have e2 : vs 2 = .slice B2 n2 c2 := hF 2 (by simp)
      obtain ⟨A3, c3, e3, hr3⟩ := hF 3 (by simp)
      have e4 : vs 4 = .int .i64 r := hF 4 (by simp)
      have e5 : vs 5 = .pointer (some ⟨w.heap.size, 0, none⟩) := hF 5 (by simp)
      have e6 : vs 6 = .agg #[.int .u32 k1, .int .u32 k2] := hF 6 (by simp)
      have e7 : vs 7 = .pointer (some ⟨w.heap.size, 2, none⟩) := hF 7 (by simp)
      have e8 : vs 8 = .int .i64 pp := hF 8 (by simp)
      obtain ⟨A9, c9, e9, hr9⟩ := hF 9 (by simp)
      obtain ⟨A10, c10, e10, hr10⟩ := hF 10 (by simp)
      have e11 : vs 11 = .int .i64 dd := hF 11 (by simp)
      have e12 : vs 12 = .agg #[.int .u32 d1, .int .u32 d2] := hF 12 (by simp)
      obtain ⟨A13, c13, e13, hr13⟩ := hF 13 (by simp)
      obtain ⟨g14, e14, hg14, hs14⟩ := hF 14 (by simp)
      have e15 : vs 15 = .int .i64 dd := hF 15 (by simp)
      obtain ⟨A17, c17, e17, hr17⟩ := hF 17 (by simp)
      obtain ⟨gS, eS, hkS⟩ := hF 16 (by simp)
      have eS' : vs 14 = .pointer (some ⟨gS, 0, none⟩) := eS
      rw [e14] at eS'
      cases eS'
      have hL' : LE = #[true, true, true, true, true, true, true, true, true, true, true, true, true, true, true, true, true, true] := hL.trans (by kernel_rfl)
      dsimp only [lay, List.foldl, dstOf] at ha
      rw [e0, e1, e2, e3, e4, e5, e6, e7, e8, e9, e10, e11, e12, e13, e14, e15, e17] at ha
      have hgS := hg14
      clear e0 e1 e2 e3 e4 e5 e6 e7 e8 e9 e10 e11 e12 e13 e14 e15 e17 eS hL hF hall hg14 hs14
      subst ha hL'
      refine wpAnyH_done (by kernel_rfl) ?_ _

      have HB5 := Lib.hid (below_next HB4.out hT5)
      have HV5 := Lib.hid (HV4.out.next hT5)
      have HJ5 := Lib.hid (HJ4.out.next hT5)
      have HK5 := Lib.hid (HK4.out.next hT5)
      have HG5 := Lib.hid hkS
      have HX5 : Hid (JR W5 A17 dx.length dx) := Lib.hid (by
        obtain ⟨A', c', he, hj⟩ := own_jr hr17
        cases he
        exact hj)
      clear hT5 hkS hgS hr17 CK HDD HLO
      generalize g14 = N12 at *
      go_upto_region 8 with fail
      have z0 : W5.cell? ⟨w.heap.size, 0, none⟩ = some (.int .u32 k1) := HK5.out.cell 0
      have z1 : W5.cell? ⟨w.heap.size, 1, none⟩ = some (.int .u32 k2) := HK5.out.cell 1
      have HR5 := Lib.hid (HRO.out W5 HB5.out)
      clear HRO
      rcases HUR.out with ⟨hu, hr⟩ | ⟨i, p, hu, hip, hr⟩
      · subst hr
        subst hu
        go_upto_region 9 with (go_at_call 12; refine HR5.out.mono ?_; rintro e w6 ⟨rfl, hb⟩; have HB6 := Lib.hid (below_next HB5.out hb); have HQ6 := Lib.hid hb; clear hb)
        clear z0 z1 HR5
        have HB7 := Lib.hid (HB6.out.alloc HB6.out.size (.cells #[.int .i64 0, .int .i64 0, .int .i64 0, .int .u32 0, .int .u32 0, .slice none 0 0] 43))
        have HQ7 := Lib.hid (HQ6.out.alloc HQ6.out.size (.cells #[.int .i64 0, .int .i64 0, .int .i64 0, .int .u32 0, .int .u32 0, .slice none 0 0] 43))
        generalize w6.alloc (.cells #[.int .i64 0, .int .i64 0, .int .i64 0, .int .u32 0, .int .u32 0, .slice none 0 0] 43) = W7 at *
        generalize w6.heap.size = N14 at *
        have CK7 := Lib.hid (fun W (hW : Below W7.heap.size W7 W) => (HK5.out.next HQ7.out).next hW)
        go_upto_region 9 with fail
        refine wp_region_held_drew (S := fun _ => True) (by kernel_rfl) trivial (fun _ => ?_)
        refine wpAnyH_each (md := .any) (m := 0) (rem := [0, 1, 2, 3, 4, 5, 6]) (tail := []) (deps := fun i => match i with | 1 => [0] | 4 => [3] | 5 => [1, 2, 4] | 6 => [5] | _ => []) (fun _ W => Below W7.heap.size W7 W) (fun _ w _ w' => Below w.heap.size w w')
          (fun ix ds v W => match ix with | 0 => v = .slice A n c | 1 => ∃ A' c', v = .slice A' n c' ∧ W.ownsRow 0 57 6 (.slice A' n c') n (ms.flatMap CRw) | 2 => v = .int .i64 r | 3 => v = .pointer (some ⟨w.heap.size, 0, none⟩) | 4 => v = .agg #[.int .u32 k1, .int .u32 k2] | 5 => v = .int .i64 (-1) | 6 => v = .int .i64 (-1) | _ => True) (eachB_spec (by kernel_rfl)) (fun _ _ _ _ _ _ _ h k => below_next h k) (fun _ _ _ => trivial) ?_ (fun _ _ _ _ => True) (fun _ _ _ _ _ _ _ _ _ _ _ _ _ _ => ⟨trivial, trivial⟩) ?_ ?_ (Below.refl _ _).drew
        · intro i hi j _ hij hjd ds v u l W W' _ _ hk h
          simp only [List.mem_cons, List.not_mem_nil, or_false] at hi
          rcases hi with rfl | rfl | rfl | rfl | rfl | rfl | rfl
          · exact h
          · obtain ⟨A', c', e, h1⟩ := h; exact ⟨A', c', e, own_bel h1 hk⟩
          · exact h
          · exact h
          · exact h
          · exact h
          · exact h
        · refine AllO.cons [] rfl rfl (fun vs l W hl hT hd => ?_) ?_
          · dsimp only [lay, List.foldl, List.map, dstOf]
            go_wp2
            exact ⟨rfl, _, rfl, Below.refl _ _, rfl⟩
          refine AllO.cons [0] rfl rfl (fun vs l W hl hT hd => ?_) ?_
          · have e0 : vs 0 = .slice A n c := hd 0 (by simp)
            have hC := Lib.hid (HOT.out W (below_next HB7.out hT))
            dsimp only [lay, List.foldl, List.map, dstOf]
            rw [e0]
            go_wp2_with (go_at_call 10; refine hC.out.mono ?_; rintro e w1 ⟨A', c', rfl, hr', hb1⟩)
            exact ⟨rfl, _, rfl, hb1, _, _, rfl, hr'⟩
          refine AllO.cons [] rfl rfl (fun vs l W hl hT hd => ?_) ?_
          · dsimp only [lay, List.foldl, List.map, dstOf]
            go_wp2
            exact ⟨rfl, _, rfl, Below.refl _ _, rfl⟩
          refine AllO.cons [] rfl rfl (fun vs l W hl hT hd => ?_) ?_
          · dsimp only [lay, List.foldl, List.map, dstOf]
            go_wp2
            exact ⟨rfl, _, rfl, Below.refl _ _, rfl⟩
          refine AllO.cons [3] rfl rfl (fun vs l W hl hT hd => ?_) ?_
          · have e3 : vs 3 = .pointer (some ⟨w.heap.size, 0, none⟩) := hd 3 (by simp)
            have f1 : W.cell? ⟨w.heap.size, 0, none⟩ = some (.int .u32 k1) := (CK7.out W hT).cell 0
            have f2 : W.cell? ⟨w.heap.size, 1, none⟩ = some (.int .u32 k2) := (CK7.out W hT).cell 1
            dsimp only [lay, List.foldl, List.map, dstOf]
            rw [e3]
            go_wp2
            exact ⟨rfl, _, rfl, Below.refl _ _, rfl⟩
          refine AllO.cons [1, 2, 4] rfl rfl (fun vs l W hl hT hd => ?_) ?_
          · obtain ⟨A1, c1, e1, hr1⟩ := hd 1 (by simp)
            have e2 : vs 2 = .int .i64 r := hd 2 (by simp)
            have e4 : vs 4 = .agg #[.int .u32 k1, .int .u32 k2] := hd 4 (by simp)
            have hC := Lib.hid (HUD.out W A1 c1 (own_ri (fun _ => rfl) HH.out.1.len hr1))
            dsimp only [lay, List.foldl, List.map, dstOf]
            rw [e1, e2, e4]
            go_wp2_with (go_at_call 13; refine hC.out.mono ?_; rintro e w1 ⟨rfl, hb1⟩)
            exact ⟨rfl, _, (by first | rfl | (simp [Act.put]; omega)), hb1, rfl⟩
          refine AllO.cons [5] rfl rfl (fun vs l W hl hT hd => ?_) AllO.nil
          · have e5 : vs 5 = .int .i64 (-1) := hd 5 (by simp)
            dsimp only [lay, List.foldl, List.map, dstOf]
            rw [e5]
            go_wp2
            exact ⟨rfl, _, rfl, Below.refl _ _, rfl⟩
        · intro vs l W9 hall hT9 hF _ aE LE ha hL
          have e0 : vs 0 = .slice A n c := hF 0 (by simp)
          obtain ⟨A1, c1, e1, hr1⟩ := hF 1 (by simp)
          have e2 : vs 2 = .int .i64 r := hF 2 (by simp)
          have e3 : vs 3 = .pointer (some ⟨w.heap.size, 0, none⟩) := hF 3 (by simp)
          have e4 : vs 4 = .agg #[.int .u32 k1, .int .u32 k2] := hF 4 (by simp)
          have e5 : vs 5 = .int .i64 (-1) := hF 5 (by simp)
          have e6 : vs 6 = .int .i64 (-1) := hF 6 (by simp)
          have hL' : LE = #[true, true, true, true, true, true, true] := hL.trans (by kernel_rfl)
          dsimp only [lay, List.foldl, dstOf] at ha
          rw [e0, e1, e2, e3, e4, e5, e6] at ha
          clear e0 e1 e2 e3 e4 e5 e6 hL hF
          subst ha hL'
          refine wpAnyH_done (by kernel_rfl) ?_ _
          have HB9 := Lib.hid (below_next HB7.out hT9)
          have HQ9 := Lib.hid (below_next HQ7.out hT9)
          have HV9 := Lib.hid (HV5.out.next HQ9.out)
          have HG9 := Lib.hid (HG5.out.next HQ9.out)
          have HJ9 := Lib.hid (HJ5.out.next HQ9.out)
          have HX9 := Lib.hid (HX5.out.next HQ9.out)
          clear CK7 HUD HOT
          go_wp2_with fail
          simp only [List.getElem?_toArray, List.getElem?_cons_zero, List.getElem?_cons_succ, Option.bind_some, Act.put, List.setIfInBounds_toArray, List.set_cons_zero, List.set_cons_succ]
          have a0 : ∀ s : Snc W9, s.W.cell? ⟨N10, 0, none⟩ = some (.int .i64 dd) := fun s => (HV9.out.next s.b).cell 0
          have a1 : ∀ s : Snc W9, s.W.cell? ⟨N10, 1, none⟩ = some (.int .u32 d1) := fun s => (HV9.out.next s.b).cell 1
          have a2 : ∀ s : Snc W9, s.W.cell? ⟨N10, 2, none⟩ = some (.int .u32 d2) := fun s => (HV9.out.next s.b).cell 2
          have a3 : ∀ s : Snc W9, s.W.cell? ⟨N10, 3, none⟩ = some (.slice Ad dx.length cd) := fun s => (HV9.out.next s.b).cell 3
          have g0 : ∀ s : Snc W9, s.W.cell? ⟨N12, 0, none⟩ = some (.int .u32 d1) := fun s => (HG9.out.next s.b).cell 0
          have g1 : ∀ s : Snc W9, s.W.cell? ⟨N12, 1, none⟩ = some (.int .u32 d2) := fun s => (HG9.out.next s.b).cell 1
          have e0 : (dd == dd) = true := by simp
          have R1 : ∀ P : Snc W9, Calls Try.prog 14 #[.agg #[.int .u32 d1, .int .u32 d2], .agg #[.int .u32 d1, .int .u32 d2]] P.W fun e w' => e = .returned (.bool true) ∧ ∃ Q : Snc W9, w' = Q.W := fun P => Calls.since (by
            have h1 := skey_any d1 d2 d1 d2 P.W
            rw [show ((d1 == d1) && (d2 == d2)) = true by simp] at h1
            exact h1)
          have R2 : ∀ P : Snc W9, Calls Try.prog 15 #[.slice Ad dx.length cd, .slice A17 dx.length c17] P.W fun e w' => e = .returned (.bool true) ∧ ∃ Q : Snc W9, w' = Q.W := fun P => Calls.since (by
            have h1 := jsame_any Ad A17 dx.length dx.length cd c17 dx dx P.W (HJ9.out.next P.b) (HX9.out.next P.b) (by have := HXL.out; omega) (by have := HXL.out; omega)
            rw [show decide (dx = dx) = true by simp] at h1
            exact h1)
          have e1 : decide ((0 : Int) ≤ -1) = false := by decide
          have R3 := R1
          refine wp_region_since (by kernel_rfl) (by kernel_rfl) ?_
          try simp only [List.append_eq, List.cons_append, List.nil_append]
          repeat (go_big_quiet_step (first
            | (go_at_call 14; with_reducible exact R1 _)
            | (go_at_call 15; with_reducible exact R2 _)
            | (go_at_call 16; with_reducible exact R3 _)))
          refine wpQuiet_nil ?_
          rintro w10_ ⟨P10_, rfl⟩
          have HBZ := Lib.hid (below_next HB9.out P10_.b)
          go_wp2_with fail
          go_ret
          exact ⟨rfl, HBZ.out⟩
      · subst hr
        subst hu
        obtain ⟨m, hm, hmp⟩ : ∃ m, ms[i]? = some m ∧ m.p = p := by
          rw [List.getElem?_map] at hip
          cases hmi : ms[i]? with
          | none => rw [hmi] at hip; cases hip
          | some m => rw [hmi] at hip; cases hip; exact ⟨m, rfl, rfl⟩
        have hil : i < n := by have := (List.getElem?_eq_some_iff.1 hm).1; have := HH.out.1.len; omega
        obtain ⟨b5, o5, m', rfl, hbl, hm', hcl⟩ := HH.out.1.at_ hil
        obtain rfl : m = m' := by rw [hm] at hm'; cases hm'; rfl
        have HJM := Lib.hid (HH.out.2.1 m (List.mem_of_getElem? hm))
        have HLX := Lib.hid (HQ.out m (List.mem_of_getElem? hm))
        subst hmp
        obtain ⟨⟨pr, ri, ru, ⟨ks, kg⟩, px⟩, xA, xc⟩ := m
        dsimp only at HJM HLX
        have CC : Hid (∀ W, Below w.heap.size w W → W.cell? ⟨b5, o5 + i * 6, none⟩ = some (.int .i64 pr) ∧ W.cell? ⟨b5, o5 + i * 6 + 1, none⟩ = some (.int .i64 ri) ∧ W.cell? ⟨b5, o5 + i * 6 + 2, none⟩ = some (.int .i64 ru) ∧ W.cell? ⟨b5, o5 + i * 6 + 3, none⟩ = some (.int .u32 ks) ∧ W.cell? ⟨b5, o5 + i * 6 + 4, none⟩ = some (.int .u32 kg) ∧ W.cell? ⟨b5, o5 + i * 6 + 5, none⟩ = some (.slice xA px.length xc)) := Lib.hid (fun W hW =>
          ⟨(hW.cell (p := ⟨b5, o5 + i * 6, none⟩) hbl).trans (hcl 0 _ rfl), (hW.cell (p := ⟨b5, o5 + i * 6 + 1, none⟩) hbl).trans (hcl 1 _ rfl), (hW.cell (p := ⟨b5, o5 + i * 6 + 2, none⟩) hbl).trans (hcl 2 _ rfl), (hW.cell (p := ⟨b5, o5 + i * 6 + 3, none⟩) hbl).trans (hcl 3 _ rfl), (hW.cell (p := ⟨b5, o5 + i * 6 + 4, none⟩) hbl).trans (hcl 4 _ rfl), (hW.cell (p := ⟨b5, o5 + i * 6 + 5, none⟩) hbl).trans (hcl 5 _ rfl)⟩)
        have hi0 : (i : Int) < (n : Int) := by omega
        clear hip hm hm' hcl hbl HUR
        go_upto_region 9 with (go_at_call 12; refine HR5.out.mono ?_; rintro e w6 ⟨⟨A6, c6, rfl, hown⟩, hb⟩; have HO6 := Lib.hid hown; have HB6 := Lib.hid (below_next HB5.out hb); have HQ6 := Lib.hid hb; clear hb hown)
        try dsimp only at HO6 ⊢
        clear z0 z1 HR5
        have HB7 := Lib.hid (HB6.out.alloc HB6.out.size (.cells #[.int .i64 pr, .int .i64 ri, .int .i64 ru, .int .u32 ks, .int .u32 kg, .slice A6 px.length c6] 43))
        have HQ7 := Lib.hid (HQ6.out.alloc HQ6.out.size (.cells #[.int .i64 pr, .int .i64 ri, .int .i64 ru, .int .u32 ks, .int .u32 kg, .slice A6 px.length c6] 43))
        have HV7 := Lib.hid (Blk.new w6 43 #[.int .i64 pr, .int .i64 ri, .int .i64 ru, .int .u32 ks, .int .u32 kg, .slice A6 px.length c6])
        obtain ⟨A6', c6', hA6, hp6⟩ := own_jr HO6.out
        cases hA6
        have HP7 := Lib.hid (hp6.next ((Below.refl w6.heap.size w6).alloc (Nat.le_refl _) (.cells #[.int .i64 pr, .int .i64 ri, .int .i64 ru, .int .u32 ks, .int .u32 kg, .slice A6 px.length c6] 43)))
        clear hp6
        generalize w6.alloc (.cells #[.int .i64 pr, .int .i64 ri, .int .i64 ru, .int .u32 ks, .int .u32 kg, .slice A6 px.length c6] 43) = W7 at *
        generalize w6.heap.size = N14 at *
        have CK7 := Lib.hid (fun W (hW : Below W7.heap.size W7 W) => (HK5.out.next HQ7.out).next hW)
        go_upto_region 9 with fail
        refine wp_region_held_drew (S := fun _ => True) (by kernel_rfl) trivial (fun _ => ?_)
        refine wpAnyH_each (md := .any) (m := 0) (rem := [0, 1, 2, 3, 4, 5, 6]) (tail := []) (deps := fun i => match i with | 1 => [0] | 4 => [3] | 5 => [1, 2, 4] | 6 => [5] | _ => []) (fun _ W => Below W7.heap.size W7 W) (fun _ w _ w' => Below w.heap.size w w')
          (fun ix ds v W => match ix with | 0 => v = .slice (some ⟨b5, o5, none⟩) n c | 1 => ∃ A' c', v = .slice A' n c' ∧ W.ownsRow 0 57 6 (.slice A' n c') n (ms.flatMap CRw) | 2 => v = .int .i64 r | 3 => v = .pointer (some ⟨w.heap.size, 0, none⟩) | 4 => v = .agg #[.int .u32 k1, .int .u32 k2] | 5 => v = .int .i64 (i : Int) | 6 => v = .int .i64 (i : Int) | _ => True) (eachB_spec (by kernel_rfl)) (fun _ _ _ _ _ _ _ h k => below_next h k) (fun _ _ _ => trivial) ?_ (fun _ _ _ _ => True) (fun _ _ _ _ _ _ _ _ _ _ _ _ _ _ => ⟨trivial, trivial⟩) ?_ ?_ (Below.refl _ _).drew
        · intro i hi j _ hij hjd ds v u l W W' _ _ hk h
          simp only [List.mem_cons, List.not_mem_nil, or_false] at hi
          rcases hi with rfl | rfl | rfl | rfl | rfl | rfl | rfl
          · exact h
          · obtain ⟨A', c', e, h1⟩ := h; exact ⟨A', c', e, own_bel h1 hk⟩
          · exact h
          · exact h
          · exact h
          · exact h
          · exact h
        · refine AllO.cons [] rfl rfl (fun vs l W hl hT hd => ?_) ?_
          · dsimp only [lay, List.foldl, List.map, dstOf]
            go_wp2
            exact ⟨rfl, _, rfl, Below.refl _ _, rfl⟩
          refine AllO.cons [0] rfl rfl (fun vs l W hl hT hd => ?_) ?_
          · have e0 : vs 0 = .slice (some ⟨b5, o5, none⟩) n c := hd 0 (by simp)
            have hC := Lib.hid (HOT.out W (below_next HB7.out hT))
            dsimp only [lay, List.foldl, List.map, dstOf]
            rw [e0]
            go_wp2_with (go_at_call 10; refine hC.out.mono ?_; rintro e w1 ⟨A', c', rfl, hr', hb1⟩)
            exact ⟨rfl, _, rfl, hb1, _, _, rfl, hr'⟩
          refine AllO.cons [] rfl rfl (fun vs l W hl hT hd => ?_) ?_
          · dsimp only [lay, List.foldl, List.map, dstOf]
            go_wp2
            exact ⟨rfl, _, rfl, Below.refl _ _, rfl⟩
          refine AllO.cons [] rfl rfl (fun vs l W hl hT hd => ?_) ?_
          · dsimp only [lay, List.foldl, List.map, dstOf]
            go_wp2
            exact ⟨rfl, _, rfl, Below.refl _ _, rfl⟩
          refine AllO.cons [3] rfl rfl (fun vs l W hl hT hd => ?_) ?_
          · have e3 : vs 3 = .pointer (some ⟨w.heap.size, 0, none⟩) := hd 3 (by simp)
            have f1 : W.cell? ⟨w.heap.size, 0, none⟩ = some (.int .u32 k1) := (CK7.out W hT).cell 0
            have f2 : W.cell? ⟨w.heap.size, 1, none⟩ = some (.int .u32 k2) := (CK7.out W hT).cell 1
            dsimp only [lay, List.foldl, List.map, dstOf]
            rw [e3]
            go_wp2
            exact ⟨rfl, _, rfl, Below.refl _ _, rfl⟩
          refine AllO.cons [1, 2, 4] rfl rfl (fun vs l W hl hT hd => ?_) ?_
          · obtain ⟨A1, c1, e1, hr1⟩ := hd 1 (by simp)
            have e2 : vs 2 = .int .i64 r := hd 2 (by simp)
            have e4 : vs 4 = .agg #[.int .u32 k1, .int .u32 k2] := hd 4 (by simp)
            have hC := Lib.hid (HUD.out W A1 c1 (own_ri (fun _ => rfl) HH.out.1.len hr1))
            dsimp only [lay, List.foldl, List.map, dstOf]
            rw [e1, e2, e4]
            go_wp2_with (go_at_call 13; refine hC.out.mono ?_; rintro e w1 ⟨rfl, hb1⟩)
            exact ⟨rfl, _, (by first | rfl | (simp [Act.put]; omega)), hb1, rfl⟩
          refine AllO.cons [5] rfl rfl (fun vs l W hl hT hd => ?_) AllO.nil
          · have e5 : vs 5 = .int .i64 (i : Int) := hd 5 (by simp)
            dsimp only [lay, List.foldl, List.map, dstOf]
            rw [e5]
            go_wp2
            exact ⟨rfl, _, rfl, Below.refl _ _, rfl⟩
        · intro vs l W9 hall hT9 hF _ aE LE ha hL
          have e0 : vs 0 = .slice (some ⟨b5, o5, none⟩) n c := hF 0 (by simp)
          obtain ⟨A1, c1, e1, hr1⟩ := hF 1 (by simp)
          have e2 : vs 2 = .int .i64 r := hF 2 (by simp)
          have e3 : vs 3 = .pointer (some ⟨w.heap.size, 0, none⟩) := hF 3 (by simp)
          have e4 : vs 4 = .agg #[.int .u32 k1, .int .u32 k2] := hF 4 (by simp)
          have e5 : vs 5 = .int .i64 (i : Int) := hF 5 (by simp)
          have e6 : vs 6 = .int .i64 (i : Int) := hF 6 (by simp)
          have hL' : LE = #[true, true, true, true, true, true, true] := hL.trans (by kernel_rfl)
          dsimp only [lay, List.foldl, dstOf] at ha
          rw [e0, e1, e2, e3, e4, e5, e6] at ha
          clear e0 e1 e2 e3 e4 e5 e6 hL hF
          subst ha hL'
          refine wpAnyH_done (by kernel_rfl) ?_ _
          have HB9 := Lib.hid (below_next HB7.out hT9)
          have HQ9 := Lib.hid (below_next HQ7.out hT9)
          have HV9 := Lib.hid (HV5.out.next HQ9.out)
          have HG9 := Lib.hid (HG5.out.next HQ9.out)
          have HJ9 := Lib.hid (HJ5.out.next HQ9.out)
          have HX9 := Lib.hid (HX5.out.next HQ9.out)
          clear CK7 HUD HOT
          go_wp2_with fail
          simp only [List.getElem?_toArray, List.getElem?_cons_zero, List.getElem?_cons_succ, Option.bind_some, Act.put, List.setIfInBounds_toArray, List.set_cons_zero, List.set_cons_succ]
          have a0 : ∀ s : Snc W9, s.W.cell? ⟨N10, 0, none⟩ = some (.int .i64 dd) := fun s => (HV9.out.next s.b).cell 0
          have a1 : ∀ s : Snc W9, s.W.cell? ⟨N10, 1, none⟩ = some (.int .u32 d1) := fun s => (HV9.out.next s.b).cell 1
          have a2 : ∀ s : Snc W9, s.W.cell? ⟨N10, 2, none⟩ = some (.int .u32 d2) := fun s => (HV9.out.next s.b).cell 2
          have a3 : ∀ s : Snc W9, s.W.cell? ⟨N10, 3, none⟩ = some (.slice Ad dx.length cd) := fun s => (HV9.out.next s.b).cell 3
          have g0 : ∀ s : Snc W9, s.W.cell? ⟨N12, 0, none⟩ = some (.int .u32 d1) := fun s => (HG9.out.next s.b).cell 0
          have g1 : ∀ s : Snc W9, s.W.cell? ⟨N12, 1, none⟩ = some (.int .u32 d2) := fun s => (HG9.out.next s.b).cell 1
          have e0 : (dd == dd) = true := by simp
          have R1 : ∀ P : Snc W9, Calls Try.prog 14 #[.agg #[.int .u32 d1, .int .u32 d2], .agg #[.int .u32 d1, .int .u32 d2]] P.W fun e w' => e = .returned (.bool true) ∧ ∃ Q : Snc W9, w' = Q.W := fun P => Calls.since (by
            have h1 := skey_any d1 d2 d1 d2 P.W
            rw [show ((d1 == d1) && (d2 == d2)) = true by simp] at h1
            exact h1)
          have R2 : ∀ P : Snc W9, Calls Try.prog 15 #[.slice Ad dx.length cd, .slice A17 dx.length c17] P.W fun e w' => e = .returned (.bool true) ∧ ∃ Q : Snc W9, w' = Q.W := fun P => Calls.since (by
            have h1 := jsame_any Ad A17 dx.length dx.length cd c17 dx dx P.W (HJ9.out.next P.b) (HX9.out.next P.b) (by have := HXL.out; omega) (by have := HXL.out; omega)
            rw [show decide (dx = dx) = true by simp] at h1
            exact h1)
          have e1 : decide ((0 : Int) ≤ (i : Int)) = true := by simp
          have HM9 := Lib.hid (HJM.out.next HB9.out)
          have HP9 := Lib.hid (HP7.out.next hT9)
          have v0 : ∀ s : Snc W9, s.W.cell? ⟨N14, 0, none⟩ = some (.int .i64 pr) := fun s => ((HV7.out.next hT9).next s.b).cell 0
          have v1 : ∀ s : Snc W9, s.W.cell? ⟨N14, 1, none⟩ = some (.int .i64 ri) := fun s => ((HV7.out.next hT9).next s.b).cell 1
          have v2 : ∀ s : Snc W9, s.W.cell? ⟨N14, 2, none⟩ = some (.int .i64 ru) := fun s => ((HV7.out.next hT9).next s.b).cell 2
          have v3 : ∀ s : Snc W9, s.W.cell? ⟨N14, 3, none⟩ = some (.int .u32 ks) := fun s => ((HV7.out.next hT9).next s.b).cell 3
          have v4 : ∀ s : Snc W9, s.W.cell? ⟨N14, 4, none⟩ = some (.int .u32 kg) := fun s => ((HV7.out.next hT9).next s.b).cell 4
          have v5 : ∀ s : Snc W9, s.W.cell? ⟨N14, 5, none⟩ = some (.slice A6 px.length c6) := fun s => ((HV7.out.next hT9).next s.b).cell 5
          have u0 : ∀ s : Snc W9, s.W.cell? ⟨b5, o5 + i * 6, none⟩ = some (.int .i64 pr) := fun s => (CC.out s.W (below_next HB9.out s.b)).1
          have u1 : ∀ s : Snc W9, s.W.cell? ⟨b5, o5 + i * 6 + 1, none⟩ = some (.int .i64 ri) := fun s => (CC.out s.W (below_next HB9.out s.b)).2.1
          have u2 : ∀ s : Snc W9, s.W.cell? ⟨b5, o5 + i * 6 + 2, none⟩ = some (.int .i64 ru) := fun s => (CC.out s.W (below_next HB9.out s.b)).2.2.1
          have u3 : ∀ s : Snc W9, s.W.cell? ⟨b5, o5 + i * 6 + 3, none⟩ = some (.int .u32 ks) := fun s => (CC.out s.W (below_next HB9.out s.b)).2.2.2.1
          have u4 : ∀ s : Snc W9, s.W.cell? ⟨b5, o5 + i * 6 + 4, none⟩ = some (.int .u32 kg) := fun s => (CC.out s.W (below_next HB9.out s.b)).2.2.2.2.1
          have u5 : ∀ s : Snc W9, s.W.cell? ⟨b5, o5 + i * 6 + 5, none⟩ = some (.slice xA px.length xc) := fun s => (CC.out s.W (below_next HB9.out s.b)).2.2.2.2.2
          have R3 : ∀ P : Snc W9, Calls Try.prog 16 #[.agg #[.int .i64 pr, .int .i64 ri, .int .i64 ru, .int .u32 ks, .int .u32 kg, .slice A6 px.length c6], .agg #[.int .i64 pr, .int .i64 ri, .int .i64 ru, .int .u32 ks, .int .u32 kg, .slice xA px.length xc]] P.W fun e w' => e = .returned (.bool true) ∧ ∃ Q : Snc W9, w' = Q.W := fun P => Calls.since (by
            have h1 := wsame_any ⟨pr, ri, ru, (ks, kg), px⟩ ⟨pr, ri, ru, (ks, kg), px⟩ A6 xA c6 xc P.W (HP9.out.next P.b) (HM9.out.next P.b) (Nat.le_trans HLX.out (by decide)) (Nat.le_trans HLX.out (by decide))
            rw [show sameR ⟨pr, ri, ru, (ks, kg), px⟩ ⟨pr, ri, ru, (ks, kg), px⟩ = true by simp [sameR]] at h1
            exact h1)
          refine wp_region_since (by kernel_rfl) (by kernel_rfl) ?_
          try simp only [List.append_eq, List.cons_append, List.nil_append]
          repeat (go_big_quiet_step (first
            | (go_at_call 14; with_reducible exact R1 _)
            | (go_at_call 15; with_reducible exact R2 _)
            | (go_at_call 16; with_reducible exact R3 _)))
          refine wpQuiet_nil ?_
          rintro w10_ ⟨P10_, rfl⟩
          have HBZ := Lib.hid (below_next HB9.out P10_.b)
          go_wp2_with fail
          go_ret
          exact ⟨rfl, HBZ.out⟩
end Go.Proofs.Yteibmegeoojleaa

