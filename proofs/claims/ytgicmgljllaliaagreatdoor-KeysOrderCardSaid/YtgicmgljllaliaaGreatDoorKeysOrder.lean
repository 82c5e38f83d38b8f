/- Sorted keys rise, each once, all that were there; a key of any source ahead of all others of its group; walked. -/
import Derived.Test.YtgicmgljllaliaaGreatDoorKy
namespace Go.Proofs.YtgicmgljllaliaaGreatDoor
open Go.RowKit Lx Sm Go.Maps
set_option maxHeartbeats 16000000 in
set_option maxRecDepth 100000 in
theorem law_korder (ads : List Addr) (A : Option Addr) (n c : Nat) (xs : List (Int × Int)) (a b : Int × Int) (w : World) (hE : EnvC ads w) (h : RI CKy 2 w A n xs) (hw : ∀ x ∈ xs, U32 x.1 ∧ U32 x.2) (ha : U32 a.1 ∧ U32 a.2) :
    Calls Tryz.prog 5 #[.slice A n c, .agg #[.int .u32 a.1, .int .u32 a.2], .agg #[.int .u32 b.1, .int .u32 b.2]] w fun e w' => e = .returned (.bool true) ∧ Below w.heap.size w w' := by
  have HB0 := Lib.hid (((Below.refl w.heap.size w).alloc (Nat.le_refl _) (.cells #[.int .u32 a.1, .int .u32 a.2] 44)).alloc (by simp) (.cells #[.int .u32 b.1, .int .u32 b.2] 44))
  have HKa : Hid (Blk ((w.alloc (.cells #[.int .u32 a.1, .int .u32 a.2] 44)).alloc (.cells #[.int .u32 b.1, .int .u32 b.2] 44)) w.heap.size 44 #[.int .u32 a.1, .int .u32 a.2]) := Lib.hid ((Blk.new _ _ _).alloc _)
  have HKb : Hid (Blk ((w.alloc (.cells #[.int .u32 a.1, .int .u32 a.2] 44)).alloc (.cells #[.int .u32 b.1, .int .u32 b.2] 44)) (w.heap.size + 1) 44 #[.int .u32 b.1, .int .u32 b.2]) := Lib.hid (by
    have := Blk.new (w.alloc (.cells #[.int .u32 a.1, .int .u32 a.2] 44)) 44 #[.int .u32 b.1, .int .u32 b.2]
    simpa using this)
  have HF := Lib.hid (first16_any ads _ (hE.below HB0.out))
  have HR0 := Lib.hid (h.next HB0.out)
  have HN := Lib.hid h.len
  have HW := Lib.hid hw
  have HA := Lib.hid ha
  clear h hw hE ha
  go_enter Tryz.func5, Tryz.ntmps5
  go_upto_region 1 with fail
  generalize (w.alloc (.cells #[.int .u32 a.1, .int .u32 a.2] 44)).alloc (.cells #[.int .u32 b.1, .int .u32 b.2] 44) = W0 at *
  go_wp2_with fail
  refine HF.out.mono ?_
  rintro e w1 ⟨rfl, hb1⟩
  have HB1 := Lib.hid (below_next HB0.out hb1)
  have HR1 := Lib.hid (HR0.out.next hb1)
  have HKa1 := Lib.hid (HKa.out.next hb1)
  have HKb1 := Lib.hid (HKb.out.next hb1)
  clear hb1 HF HB0 HR0 HKa HKb
  by_cases hn : n ≤ 30
  · have hn1 : decide ((30 : Int) < (n : Int)) = false := by simp; omega
    have HS := Lib.hid (ksort_any A n c xs w1 HR1.out HW.out (by omega))
    have HMEM := Lib.hid (keysS_mem xs)
    have HRISE := Lib.hid (keysS_rises xs)
    have hm : (keysS xs).length ≤ 30 := Nat.le_trans (keysS_len xs) (by rw [HN.out]; exact hn)
    generalize keysS xs = ks at *
    go_wp2_with fail
    refine HS.out.mono ?_
    rintro e w2 ⟨A2, c2, rfl, hri, hb2⟩
    have HR2 := Lib.hid hri
    have HB2 := Lib.hid (below_next HB1.out hb2)
    have HRx := Lib.hid (HR1.out.next hb2)
    have HKa2 := Lib.hid (HKa1.out.next hb2)
    have HKb2 := Lib.hid (HKb1.out.next hb2)
    clear hri hb2 HS HB1 HR1 HKa1 HKb1 hn1
    generalize hmm : ks.length = m at *
    go_wp2_with fail
    go_loopw [9] (fun iv wr => ∃ i : Nat, i ≤ m ∧ iv = .int .i64 i ∧ Hid (Below w2.heap.size w2 wr)) (fun iv _ => m - (intOf iv).toNat)
    case atStart => exact ⟨0, Nat.zero_le _, rfl, Lib.hid (Below.refl _ _)⟩
    case round =>
      obtain ⟨i, hi, rfl, HB⟩ := hrel
      rcases Nat.lt_or_ge i m with hlt | hge
      · obtain ⟨bx, ox, y, rfl, hx, _⟩ := key_cells (HR2.out.next HB.out) hlt
        have HX := Lib.hid hx
        have hi0 : (i : Int) < (m : Int) := by omega
        have hi1 : (0 : Int) ≤ (i : Int) := by omega
        clear hx
        go_wp2_with fail
        go_loopw [10, 11] (fun sv kv wr => ∃ (k : Nat) (B : Bool), k ≤ n ∧ kv = .int .i64 k ∧ sv = .bool B ∧ Hid (B = (xs.take k).any (fun z => (z.1 == y.1) && (z.2 == y.2))) ∧ Hid (Below w2.heap.size w2 wr)) (fun _ kv _ => n - (intOf kv).toNat)
        case atStart => exact ⟨0, false, Nat.zero_le _, rfl, rfl, Lib.hid rfl, HB⟩
        case round =>
          clear HB
          obtain ⟨k, B, hk, rfl, rfl, HV, HB⟩ := hrel
          obtain ⟨bx', ox', y', hA', hx', hy⟩ := key_cells (HR2.out.next HB.out) hlt
          cases hA'
          obtain rfl : y = y' := Option.some.inj (HX.out.symm.trans hx')
          clear hx'
          have q0 := fun p => (hy p).1
          have q1 := fun p => (hy p).2
          clear hy
          rcases Nat.lt_or_ge k n with hlk | hgk
          · obtain ⟨bl, ol, z, rfl, hz, hzc⟩ := key_cells (HRx.out.next HB.out) hlk
            have q2 := fun p => (hzc p).1
            have q3 := fun p => (hzc p).2
            have hk0 : (k : Int) < (n : Int) := by omega
            have hk1 : (0 : Int) ≤ (k : Int) := by omega
            have HV2 := Lib.hid (any_take1 (p := fun z : Int × Int => (z.1 == y.1) && (z.2 == y.2)) hz)
            rw [← HV.out] at HV2
            have G1 : ∀ p : Snc wr, Calls Tryz.prog 12 #[.agg #[.int .u32 z.1, .int .u32 z.2], .agg #[.int .u32 y.1, .int .u32 y.2]] p.W fun e w' => e = .returned (.bool ((z.1 == y.1) && (z.2 == y.2))) ∧ ∃ Q : Snc wr, w' = Q.W := fun p => Calls.since (skeyV z y rfl p.W)
            generalize ((z.1 == y.1) && (z.2 == y.2)) = S at *
            clear hzc hz
            cases B with
            | true =>
              go_upto_region 14 with fail
              refine wp_region_since (by kernel_rfl) (by kernel_rfl) ?_
              repeat (go_big_quiet_step (first | (go_at_call 12; first | (with_reducible exact G1 _))))
              refine wpQuiet_nil ?_
              rintro w5 ⟨P5, rfl⟩
              have HB5 := Lib.hid (HB.out.trans (P5.b.mono HB.out.size))
              clear q0 q1 q2 q3 G1 HB
              generalize P5.W = W5 at *
              go_wp2
              go_roundw
              case rel => exact ⟨k + 1, true, hlk, by go_num, rfl, Lib.hid (by have := HV2.out; simpa using this.symm), HB5⟩
              case measure => simp [intOf]; omega
            | false =>
              go_upto_region 14 with fail
              refine wp_region_since (by kernel_rfl) (by kernel_rfl) ?_
              repeat (go_big_quiet_step (first | (go_at_call 12; first | (with_reducible exact G1 _))))
              refine wpQuiet_nil ?_
              rintro w5 ⟨P5, rfl⟩
              have HB5 := Lib.hid (HB.out.trans (P5.b.mono HB.out.size))
              clear q0 q1 q2 q3 G1 HB
              generalize P5.W = W5 at *
              go_wp2
              go_roundw
              case rel => exact ⟨k + 1, S, hlk, by go_num, rfl, Lib.hid (by have := HV2.out; simpa using this.symm), HB5⟩
              case measure => simp [intOf]; omega
          · obtain rfl : k = n := by omega
            have hd : decide ((k : Int) < (k : Int)) = false := by simp
            obtain rfl : B = true := by
              rw [HV.out, any_full HN.out, List.any_eq_true]
              exact ⟨y, (HMEM.out y).1 (List.mem_of_getElem? HX.out), by simp⟩
            rcases Nat.eq_zero_or_pos i with hz | hp
            · have hg : decide (0 < i) = false := by simp; omega
              have hg' : decide ((0 : Int) < (i : Int)) = false := by simp; omega
              clear hz
              have G2 : ∀ p : Snc wr, Calls Tryz.prog 14 #[.agg #[.int .u32 y.1, .int .u32 y.2], .agg #[.int .u32 y.1, .int .u32 y.2]] p.W fun e w' => e = .returned (.bool false) ∧ ∃ Q : Snc wr, w' = Q.W := fun p => Calls.since (klessV y y (by rw [decide_eq_false_iff_not]; exact ltPK_irrefl y) p.W)
              go_upto_region 15 with fail
              refine wp_region_since (by kernel_rfl) (by kernel_rfl) ?_
              repeat (go_big_quiet_step (first | (go_at_call 14; first | (with_reducible exact G2 _))))
              refine wpQuiet_nil ?_
              rintro w5 ⟨P5, rfl⟩
              have HB5 := Lib.hid (HB.out.trans (P5.b.mono HB.out.size))
              clear q0 q1 G2 HB hd
              generalize P5.W = W5 at *
              go_wp2_with fail
              go_roundw
              case rel => exact ⟨i + 1, hlt, by go_num, HB5⟩
              case measure => simp [intOf]; omega
            · obtain ⟨ip, hip, hip2⟩ := pred_up hp
              obtain ⟨bx2, ox2, u, hA2, hu, huc⟩ := key_cells (HR2.out.next HB.out) (show ip < m by omega)
              cases hA2
              have q2 := fun p => (huc p).1
              have q3 := fun p => (huc p).2
              have hless : decide (ltPK u y) = true := by
                rw [decide_eq_true_eq]
                have := List.pairwise_iff_getElem.1 HRISE.out ip i (by omega) (by omega) (by omega)
                rw [(List.getElem?_eq_some_iff.1 hu).2, (List.getElem?_eq_some_iff.1 HX.out).2] at this
                exact this
              have G2 : ∀ p : Snc wr, Calls Tryz.prog 14 #[.agg #[.int .u32 u.1, .int .u32 u.2], .agg #[.int .u32 y.1, .int .u32 y.2]] p.W fun e w' => e = .returned (.bool true) ∧ ∃ Q : Snc wr, w' = Q.W := fun p => Calls.since (klessV u y hless p.W)
              have hg : decide (0 < i) = true := by simp; omega
              have hg' : decide ((0 : Int) < (i : Int)) = true := by simp; omega
              have hip0 : (ip : Int) < (m : Int) := by omega
              have hip1 : (0 : Int) ≤ (ip : Int) := by omega
              clear huc hu hless hip2 hp
              go_upto_region 15 with fail
              refine wp_region_since (by kernel_rfl) (by kernel_rfl) ?_
              repeat (go_big_quiet_step (first | (go_at_call 14; first | (with_reducible exact G2 _))))
              refine wpQuiet_nil ?_
              rintro w5 ⟨P5, rfl⟩
              have HB5 := Lib.hid (HB.out.trans (P5.b.mono HB.out.size))
              clear q0 q1 q2 q3 G2 HB hip hd
              generalize P5.W = W5 at *
              go_wp2_with fail
              go_roundw
              case rel => exact ⟨i + 1, hlt, by go_num, HB5⟩
              case measure => simp [intOf]; omega
      · obtain rfl : i = m := by omega
        have hd : decide ((i : Int) < (i : Int)) = false := by simp
        go_wp2_with fail
        clear hd hi hge
        go_loopw [12] (fun kv wr => ∃ k : Nat, k ≤ n ∧ kv = .int .i64 k ∧ Hid (Below w2.heap.size w2 wr)) (fun kv _ => n - (intOf kv).toNat)
        case atStart => exact ⟨0, Nat.zero_le _, rfl, HB⟩
        case round =>
          clear HB
          obtain ⟨k, hk, rfl, HB⟩ := hrel
          rcases Nat.lt_or_ge k n with hlk | hgk
          · obtain ⟨bl, ol, z, rfl, hz, _⟩ := key_cells (HRx.out.next HB.out) hlk
            have HZ := Lib.hid hz
            have hk0 : (k : Int) < (n : Int) := by omega
            have hk1 : (0 : Int) ≤ (k : Int) := by omega
            clear hz
            go_wp2_with fail
            go_loopw [13, 14] (fun sv jv wr => ∃ (j : Nat) (B : Bool), j ≤ i ∧ jv = .int .i64 j ∧ sv = .bool B ∧ Hid (B = (ks.take j).any (fun y => (z.1 == y.1) && (z.2 == y.2))) ∧ Hid (Below w2.heap.size w2 wr)) (fun _ jv _ => i - (intOf jv).toNat)
            case atStart => exact ⟨0, false, Nat.zero_le _, rfl, rfl, Lib.hid rfl, HB⟩
            case round =>
              clear HB
              obtain ⟨j, B, hj, rfl, rfl, HV, HB⟩ := hrel
              rcases Nat.lt_or_ge j i with hlj | hgj
              · obtain ⟨bl', ol', z', hA', hz', hzc⟩ := key_cells (HRx.out.next HB.out) hlk
                cases hA'
                obtain rfl : z = z' := Option.some.inj (HZ.out.symm.trans hz')
                obtain ⟨bx, ox, y, rfl, hx, hy⟩ := key_cells (HR2.out.next HB.out) hlj
                have q0 := fun p => (hy p).1
                have q1 := fun p => (hy p).2
                have q2 := fun p => (hzc p).1
                have q3 := fun p => (hzc p).2
                have hj0 : (j : Int) < (i : Int) := by omega
                have hj1 : (0 : Int) ≤ (j : Int) := by omega
                have HV2 := Lib.hid (any_take1 (p := fun y : Int × Int => (z.1 == y.1) && (z.2 == y.2)) hx)
                rw [← HV.out] at HV2
                have G1 : ∀ p : Snc wr, Calls Tryz.prog 12 #[.agg #[.int .u32 z.1, .int .u32 z.2], .agg #[.int .u32 y.1, .int .u32 y.2]] p.W fun e w' => e = .returned (.bool ((z.1 == y.1) && (z.2 == y.2))) ∧ ∃ Q : Snc wr, w' = Q.W := fun p => Calls.since (skeyV z y rfl p.W)
                generalize ((z.1 == y.1) && (z.2 == y.2)) = S at *
                clear hzc hz' hy hx
                cases B with
                | true =>
                  go_upto_region 24 with fail
                  refine wp_region_since (by kernel_rfl) (by kernel_rfl) ?_
                  repeat (go_big_quiet_step (first | (go_at_call 12; first | (with_reducible exact G1 _))))
                  refine wpQuiet_nil ?_
                  rintro w5 ⟨P5, rfl⟩
                  have HB5 := Lib.hid (HB.out.trans (P5.b.mono HB.out.size))
                  clear q0 q1 q2 q3 G1 HB
                  generalize P5.W = W5 at *
                  go_wp2
                  go_roundw
                  case rel => exact ⟨j + 1, true, hlj, by go_num, rfl, Lib.hid (by have := HV2.out; simpa using this.symm), HB5⟩
                  case measure => simp [intOf]; omega
                | false =>
                  go_upto_region 24 with fail
                  refine wp_region_since (by kernel_rfl) (by kernel_rfl) ?_
                  repeat (go_big_quiet_step (first | (go_at_call 12; first | (with_reducible exact G1 _))))
                  refine wpQuiet_nil ?_
                  rintro w5 ⟨P5, rfl⟩
                  have HB5 := Lib.hid (HB.out.trans (P5.b.mono HB.out.size))
                  clear q0 q1 q2 q3 G1 HB
                  generalize P5.W = W5 at *
                  go_wp2
                  go_roundw
                  case rel => exact ⟨j + 1, S, hlj, by go_num, rfl, Lib.hid (by have := HV2.out; simpa using this.symm), HB5⟩
                  case measure => simp [intOf]; omega
              · obtain rfl : j = i := by omega
                have hd : decide ((j : Int) < (j : Int)) = false := by simp
                obtain rfl : B = true := by
                  rw [HV.out, any_full hmm, List.any_eq_true]
                  exact ⟨z, (HMEM.out z).2 (List.mem_of_getElem? HZ.out), by simp⟩
                go_wp2_with fail
                clear hd
                go_roundw
                case rel => exact ⟨k + 1, hlk, by go_num, HB⟩
                case measure => simp [intOf]; omega
          · obtain rfl : k = n := by omega
            have hd : decide ((k : Int) < (k : Int)) = false := by simp
            have za1 : wr.cell? ⟨w.heap.size, 1, none⟩ = some (.int .u32 a.2) := (HKa2.out.next HB.out).cell 1
            have za0 : wr.cell? ⟨w.heap.size, 0, none⟩ = some (.int .u32 a.1) := (HKa2.out.next HB.out).cell 0
            have zb0 : wr.cell? ⟨w.heap.size + 1, 0, none⟩ = some (.int .u32 b.1) := (HKb2.out.next HB.out).cell 0
            have zb1 : wr.cell? ⟨w.heap.size + 1, 1, none⟩ = some (.int .u32 b.2) := (HKb2.out.next HB.out).cell 1
            go_upto_region 28 with fail
            have HKc := Blk.new wr 44 #[.int .u32 0, .int .u32 a.2]
            have HBc := (Below.refl wr.heap.size wr).alloc (Nat.le_refl _) (.cells #[.int .u32 0, .int .u32 a.2] 44)
            have HKac := (HKa2.out.next HB.out).next HBc
            have HKbc := (HKb2.out.next HB.out).next HBc
            have HBwc := Lib.hid ((HB2.out.trans (HB.out.mono HB2.out.size)).trans (HBc.mono (Nat.le_trans HB2.out.size HB.out.size)))
            clear za0 za1 zb0 zb1 hd HBc
            generalize hnr : wr.heap.size = R at *
            generalize wr.alloc (.cells #[.int .u32 0, .int .u32 a.2] 44) = W7 at *
            have ya0 : W7.cell? ⟨w.heap.size, 0, none⟩ = some (.int .u32 a.1) := HKac.cell 0
            have ya1 : W7.cell? ⟨w.heap.size, 1, none⟩ = some (.int .u32 a.2) := HKac.cell 1
            have yb0 : W7.cell? ⟨w.heap.size + 1, 0, none⟩ = some (.int .u32 b.1) := HKbc.cell 0
            have yb1 : W7.cell? ⟨w.heap.size + 1, 1, none⟩ = some (.int .u32 b.2) := HKbc.cell 1
            have hany : decide (ltPK (0, a.2) a) = (a.1 != 0) := by
              have h0 := HA.out.1.1
              rw [Bool.eq_iff_iff, decide_eq_true_eq, bne_iff_ne]
              exact ⟨fun h e => by unfold ltPK at h; simp only at h; omega, fun h => Or.inr ⟨rfl, by show 0 < a.1; omega⟩⟩
            have hany2 : decide (ltPK a (0, a.2)) = false := by
              have := HA.out.1.1
              rw [decide_eq_false_iff_not]; unfold ltPK; simp only; omega
            obtain ⟨V, hV⟩ : ∃ V, (a.1 != 0) = V := ⟨_, rfl⟩
            rw [hV] at hany
            obtain ⟨L, R', S, hL, hR, hS, hlrs⟩ : ∃ L R' S : Bool, decide (ltPK a b) = L ∧ decide (ltPK b a) = R' ∧ ((a.1 == b.1) && (a.2 == b.2)) = S ∧ ((L = true ∧ R' = false ∧ S = false) ∨ (L = false ∧ R' = true ∧ S = false) ∨ (L = false ∧ R' = false ∧ S = true)) := ⟨_, _, _, rfl, rfl, rfl, key_tri a b⟩
            have HSK := Lib.hid (skeyV a b hS W7)
            go_upto_region 29 with (go_at_call 12; refine HSK.out.mono ?_; rintro e w8 ⟨rfl, hb8⟩)
            have HB8 := Lib.hid (HBwc.out.trans (hb8.mono HBwc.out.size))
            have HKa8 := HKac.next hb8
            have HKb8 := HKbc.next hb8
            have HKc8 := HKc.next hb8
            have q0 : ∀ p : Snc w8, p.W.cell? ⟨w.heap.size, 0, none⟩ = some (.int .u32 a.1) := fun p => (HKa8.next p.b).cell 0
            have q1 : ∀ p : Snc w8, p.W.cell? ⟨w.heap.size, 1, none⟩ = some (.int .u32 a.2) := fun p => (HKa8.next p.b).cell 1
            have q2 : ∀ p : Snc w8, p.W.cell? ⟨w.heap.size + 1, 0, none⟩ = some (.int .u32 b.1) := fun p => (HKb8.next p.b).cell 0
            have q3 : ∀ p : Snc w8, p.W.cell? ⟨w.heap.size + 1, 1, none⟩ = some (.int .u32 b.2) := fun p => (HKb8.next p.b).cell 1
            have q4 : ∀ p : Snc w8, p.W.cell? ⟨R, 0, none⟩ = some (.int .u32 0) := fun p => (HKc8.next p.b).cell 0
            have q5 : ∀ p : Snc w8, p.W.cell? ⟨R, 1, none⟩ = some (.int .u32 a.2) := fun p => (HKc8.next p.b).cell 1
            have G2 : ∀ p : Snc w8, Calls Tryz.prog 14 #[.agg #[.int .u32 0, .int .u32 a.2], .agg #[.int .u32 a.1, .int .u32 a.2]] p.W fun e w' => e = .returned (.bool V) ∧ ∃ Q : Snc w8, w' = Q.W := fun p => Calls.since (klessV (0, a.2) a hany p.W)
            have G3 : ∀ p : Snc w8, Calls Tryz.prog 14 #[.agg #[.int .u32 a.1, .int .u32 a.2], .agg #[.int .u32 0, .int .u32 a.2]] p.W fun e w' => e = .returned (.bool false) ∧ ∃ Q : Snc w8, w' = Q.W := fun p => Calls.since (klessV a (0, a.2) hany2 p.W)
            have G4 : ∀ p : Snc w8, Calls Tryz.prog 14 #[.agg #[.int .u32 a.1, .int .u32 a.2], .agg #[.int .u32 b.1, .int .u32 b.2]] p.W fun e w' => e = .returned (.bool L) ∧ ∃ Q : Snc w8, w' = Q.W := fun p => Calls.since (klessV a b hL p.W)
            have G5 : ∀ p : Snc w8, Calls Tryz.prog 14 #[.agg #[.int .u32 b.1, .int .u32 b.2], .agg #[.int .u32 a.1, .int .u32 a.2]] p.W fun e w' => e = .returned (.bool R') ∧ ∃ Q : Snc w8, w' = Q.W := fun p => Calls.since (klessV b a hR p.W)
            clear hL hR hS HKa8 HKb8 HKc8 hb8 ya0 ya1 yb0 yb1 HKac HKbc HKc hany hany2 HSK
            cases V
            all_goals
              rcases hlrs with ⟨rfl, rfl, rfl⟩ | ⟨rfl, rfl, rfl⟩ | ⟨rfl, rfl, rfl⟩
              all_goals
                refine wp_region_since (by kernel_rfl) (by kernel_rfl) ?_
                repeat (go_big_quiet_step (first | (go_at_call 14; first | (with_reducible exact G2 _) | (with_reducible exact G3 _) | (with_reducible exact G4 _) | (with_reducible exact G5 _))))
                refine wpQuiet_nil ?_
                rintro w5 ⟨P5, rfl⟩
                have HB9 := Lib.hid (HB8.out.trans (P5.b.mono HB8.out.size))
                go_wp2
                go_ret
                exact ⟨rfl, HB9.out⟩
  · have hn1 : decide ((30 : Int) < (n : Int)) = true := by simp; omega
    go_wp2
    go_ret
    exact ⟨rfl, HB1.out⟩
end Go.Proofs.YtgicmgljllaliaaGreatDoor

