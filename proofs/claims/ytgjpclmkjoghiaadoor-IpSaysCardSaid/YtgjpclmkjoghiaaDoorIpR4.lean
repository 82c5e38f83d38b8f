/- Contract of the document's own header reader: the last two ways. -/
import Derived.Test.YtgjpclmkjoghiaaDoorIpR3
namespace Go.Proofs.YtgjpclmkjoghiaaDoor
open Go.RowKit Sm
theorem chain6 {W : World} {N : Nat} {t : TypeId} (h : Slot W N t 6) (v0 v1 v2 v3 v4 v5 : Value) : ((((((W.setCell ⟨N, 0, none⟩ v0).setCell ⟨N, 1, none⟩ v1).setCell ⟨N, 2, none⟩ v2).setCell ⟨N, 3, none⟩ v3).setCell ⟨N, 4, none⟩ v4).setCell ⟨N, 5, none⟩ v5).cell? ⟨N, 0, none⟩ = some v0 ∧ ((((((W.setCell ⟨N, 0, none⟩ v0).setCell ⟨N, 1, none⟩ v1).setCell ⟨N, 2, none⟩ v2).setCell ⟨N, 3, none⟩ v3).setCell ⟨N, 4, none⟩ v4).setCell ⟨N, 5, none⟩ v5).cell? ⟨N, 1, none⟩ = some v1 ∧ ((((((W.setCell ⟨N, 0, none⟩ v0).setCell ⟨N, 1, none⟩ v1).setCell ⟨N, 2, none⟩ v2).setCell ⟨N, 3, none⟩ v3).setCell ⟨N, 4, none⟩ v4).setCell ⟨N, 5, none⟩ v5).cell? ⟨N, 2, none⟩ = some v2 ∧ ((((((W.setCell ⟨N, 0, none⟩ v0).setCell ⟨N, 1, none⟩ v1).setCell ⟨N, 2, none⟩ v2).setCell ⟨N, 3, none⟩ v3).setCell ⟨N, 4, none⟩ v4).setCell ⟨N, 5, none⟩ v5).cell? ⟨N, 3, none⟩ = some v3 ∧ ((((((W.setCell ⟨N, 0, none⟩ v0).setCell ⟨N, 1, none⟩ v1).setCell ⟨N, 2, none⟩ v2).setCell ⟨N, 3, none⟩ v3).setCell ⟨N, 4, none⟩ v4).setCell ⟨N, 5, none⟩ v5).cell? ⟨N, 4, none⟩ = some v4 ∧ ((((((W.setCell ⟨N, 0, none⟩ v0).setCell ⟨N, 1, none⟩ v1).setCell ⟨N, 2, none⟩ v2).setCell ⟨N, 3, none⟩ v3).setCell ⟨N, 4, none⟩ v4).setCell ⟨N, 5, none⟩ v5).cell? ⟨N, 5, none⟩ = some v5 := by
  obtain ⟨⟨t0, t1, t2, t3, t4, t5⟩, _⟩ := slot6 h
  refine ⟨?_, ?_, ?_, ?_, ?_, ?_⟩ <;> simp [go_sem, t0, t1, t2, t3, t4, t5]
theorem alloc_of {W : World} {p : Addr} {v : Value} (h : W.cell? p = some v) (o : Obj) : (W.alloc o).cell? p = some v := (World.cell?_alloc_some W p o (by rw [h]; rfl)).trans h
theorem chain6a {W : World} {N : Nat} {t : TypeId} (h : Slot W N t 6) : (∀ (v0 v1 v2 v3 v4 v5 : Value) (o : Obj), (((((((W.setCell ⟨N, 0, none⟩ v0).setCell ⟨N, 1, none⟩ v1).setCell ⟨N, 2, none⟩ v2).setCell ⟨N, 3, none⟩ v3).setCell ⟨N, 4, none⟩ v4).setCell ⟨N, 5, none⟩ v5).alloc o).cell? ⟨N, 0, none⟩ = some v0) ∧ (∀ (v0 v1 v2 v3 v4 v5 : Value) (o : Obj), (((((((W.setCell ⟨N, 0, none⟩ v0).setCell ⟨N, 1, none⟩ v1).setCell ⟨N, 2, none⟩ v2).setCell ⟨N, 3, none⟩ v3).setCell ⟨N, 4, none⟩ v4).setCell ⟨N, 5, none⟩ v5).alloc o).cell? ⟨N, 1, none⟩ = some v1) ∧ (∀ (v0 v1 v2 v3 v4 v5 : Value) (o : Obj), (((((((W.setCell ⟨N, 0, none⟩ v0).setCell ⟨N, 1, none⟩ v1).setCell ⟨N, 2, none⟩ v2).setCell ⟨N, 3, none⟩ v3).setCell ⟨N, 4, none⟩ v4).setCell ⟨N, 5, none⟩ v5).alloc o).cell? ⟨N, 2, none⟩ = some v2) ∧ (∀ (v0 v1 v2 v3 v4 v5 : Value) (o : Obj), (((((((W.setCell ⟨N, 0, none⟩ v0).setCell ⟨N, 1, none⟩ v1).setCell ⟨N, 2, none⟩ v2).setCell ⟨N, 3, none⟩ v3).setCell ⟨N, 4, none⟩ v4).setCell ⟨N, 5, none⟩ v5).alloc o).cell? ⟨N, 3, none⟩ = some v3) ∧ (∀ (v0 v1 v2 v3 v4 v5 : Value) (o : Obj), (((((((W.setCell ⟨N, 0, none⟩ v0).setCell ⟨N, 1, none⟩ v1).setCell ⟨N, 2, none⟩ v2).setCell ⟨N, 3, none⟩ v3).setCell ⟨N, 4, none⟩ v4).setCell ⟨N, 5, none⟩ v5).alloc o).cell? ⟨N, 4, none⟩ = some v4) ∧ (∀ (v0 v1 v2 v3 v4 v5 : Value) (o : Obj), (((((((W.setCell ⟨N, 0, none⟩ v0).setCell ⟨N, 1, none⟩ v1).setCell ⟨N, 2, none⟩ v2).setCell ⟨N, 3, none⟩ v3).setCell ⟨N, 4, none⟩ v4).setCell ⟨N, 5, none⟩ v5).alloc o).cell? ⟨N, 5, none⟩ = some v5) :=
  ⟨fun v0 v1 v2 v3 v4 v5 o => alloc_of (chain6 h v0 v1 v2 v3 v4 v5).1 o, fun v0 v1 v2 v3 v4 v5 o => alloc_of (chain6 h v0 v1 v2 v3 v4 v5).2.1 o, fun v0 v1 v2 v3 v4 v5 o => alloc_of (chain6 h v0 v1 v2 v3 v4 v5).2.2.1 o, fun v0 v1 v2 v3 v4 v5 o => alloc_of (chain6 h v0 v1 v2 v3 v4 v5).2.2.2.1 o, fun v0 v1 v2 v3 v4 v5 o => alloc_of (chain6 h v0 v1 v2 v3 v4 v5).2.2.2.2.1 o, fun v0 v1 v2 v3 v4 v5 o => alloc_of (chain6 h v0 v1 v2 v3 v4 v5).2.2.2.2.2 o⟩
theorem ret_rh (tm : Array Value) (N : Nat) (W : World) (v0 v1 v2 v3 v4 v5 x : Value) (h2 : tm.getD 2 undef = .pointer (some ⟨N, 0, none⟩)) (h3 : tm.getD 3 undef = x) (c0 : W.cell? ⟨N, 0, none⟩ = some v0) (c1 : W.cell? ⟨N, 1, none⟩ = some v1) (c2 : W.cell? ⟨N, 2, none⟩ = some v2) (c3 : W.cell? ⟨N, 3, none⟩ = some v3) (c4 : W.cell? ⟨N, 4, none⟩ = some v4) (c5 : W.cell? ⟨N, 5, none⟩ = some v5) :
    (results Tryd.f12 tm).run Tryd.prog W = .ok (.tuple #[.agg #[v0, v1, v2, v3, v4, v5], x]) W := by
  have h2' : tm[2]?.getD undef = .pointer (some ⟨N, 0, none⟩) := by simpa using h2
  have h3' : tm[3]?.getD undef = x := by simpa using h3
  simp [results, Tryd.results12, go_sem, h2', h3', c0, c1, c2, c3, c4, c5]
theorem keepBelow {w W : World} {t : TypeId} {k : Nat} (h : Keep w t k W) : Below w.heap.size w W := h.1
section
variable (A : Option Addr) (n c : Nat) (xs : List Int) (w : World)
set_option maxHeartbeats 40000000 in
theorem rread_last (h : BR w A n xs) (hn : 20 ≤ n) (hc : n ≤ c) (hs : rsh xs = true) (ho : oc (tot (xs.take 20)) = 65535)
    (V : Value) (hV1 : rn xs 2 < 20 → V = .tuple #[hz, .int .i64 103]) (hV2 : 20 ≤ rn xs 2 → V = .tuple #[hv (rn xs 2) (rn xs 4) (xs.getD 8 0) (xs.getD 9 0) (ra xs 12) (ra xs 16), .int .i64 0]) :
    Calls Tryd.prog 12 #[.slice A n c] w fun e w' => e = .returned V ∧ Below w.heap.size w w' := by
  obtain ⟨b, o, rfl, HBR, HC⟩ := rread_c A n xs w h hn hs
  have hk : Keep w 34 6 (w.alloc (.cells #[.int .i64 0, .int .i64 0, .int .i64 0, .int .i64 0, .int .u32 0, .int .u32 0] 34)) := Keep.new _ _ _
  have hS := rsum_any _ 20 c _ _ (HBR _ hk.1) (by omega)
  have hd : (sum (xs.take 20) != 0) = false := by rw [sum_zero]; simp [ho]
  obtain ⟨c0, c1, c6, c7⟩ := HC _ hk.1
  obtain ⟨b', o', he, _, hcell⟩ := h.2.2 (by omega)
  cases he
  have k2 := fun (W : World) (hW : Keep w 34 6 W) => hW.old (hcell 2 (by omega))
  have k3 := fun (W : World) (hW : Keep w 34 6 W) => hW.old (hcell (2 + 1) (by omega))
  have k4 := fun (W : World) (hW : Keep w 34 6 W) => hW.old (hcell 4 (by omega))
  have k5 := fun (W : World) (hW : Keep w 34 6 W) => hW.old (hcell (4 + 1) (by omega))
  have k8 := fun (W : World) (hW : Keep w 34 6 W) => hW.old (hcell 8 (by omega))
  have k9 := fun (W : World) (hW : Keep w 34 6 W) => hW.old (hcell 9 (by omega))
  have B2 := h.isB.at_ 2
  have B3 := h.isB.at_ (2 + 1)
  have B4 := h.isB.at_ 4
  have B5 := h.isB.at_ (4 + 1)
  have B8 := h.isB.at_ 8
  have B9 := h.isB.at_ 9
  have o1 := or_i64 _ _ B2.1 B2.2 B3.1 B3.2
  have o2 := or_i64 _ _ B4.1 B4.2 B5.1 B5.2
  have hi : ¬ (n : Int) < 20 := by omega
  have hi2 : (20 : Int) ≤ (c : Int) := by omega
  have HK := Lib.hid hk
  have HBR := Lib.hid HBR
  have e12 := ra_take xs (k := 12) (by omega)
  have e16 := ra_take16 xs
  unfold rn hv hz at *
  rw [← e12, ← e16] at hV2
  clear hs ho hk HC h hcell e12 e16
  generalize (xs.take 20) = X at *
  generalize sum X = S at *
  generalize xs.getD 2 0 = u2 at *
  generalize xs.getD (2 + 1) 0 = u3 at *
  generalize xs.getD 4 0 = u4 at *
  generalize xs.getD (4 + 1) 0 = u5 at *
  generalize xs.getD 8 0 = u8 at *
  generalize xs.getD 9 0 = u9 at *
  have w2 : IntKind.i64.wrap u2 = u2 := IntWalk.i64_in _ (by omega)
  have w3 : IntKind.i64.wrap u3 = u3 := IntWalk.i64_in _ (by omega)
  have w4 : IntKind.i64.wrap u4 = u4 := IntWalk.i64_in _ (by omega)
  have w5 : IntKind.i64.wrap u5 = u5 := IntWalk.i64_in _ (by omega)
  have v2 : IntKind.i64.wrap (u2 * 256) = u2 * 256 := IntWalk.i64_in _ (by omega)
  have v4 : IntKind.i64.wrap (u4 * 256) = u4 * 256 := IntWalk.i64_in _ (by omega)
  have w8 : IntKind.i64.wrap u8 = u8 := IntWalk.i64_in _ (by omega)
  have w9 : IntKind.i64.wrap u9 = u9 := IntWalk.i64_in _ (by omega)
  go_enter Tryd.func12, Tryd.ntmps12
  go_wp2_with (go_at_call 30; refine hS.mono ?_; rintro e w1 ⟨rfl, hb⟩
               have hk1 := HK.out.next hb
               have hkd := hk1.drew
               have hl1 := hk1.lt
               have hn1 := Nat.ne_of_lt hl1
               have hn1' := hn1.symm
               clear hb)
  go_region_held3 (fun w' => Keep w 34 6 w')
    (first | with_reducible assumption | with_reducible exact Keep.alloc (by assumption) _ | with_reducible exact (Keep.alloc (by assumption) _).drew | with_reducible exact Keep.far6 (by assumption) (by assumption) _ _ _ _ _ _)
    (first
    | (go_at_call 20
       refine (at_at _ 20 _ _ _ _ _ (by first | exact K12 | exact K16) (HBR.out _ (And.left (show Keep w 34 6 _ by with_reducible assumption))) (by omega) (by omega)).mono ?_
       rintro e w3 ⟨rfl, hb⟩
       have hk3 := Keep.next (w := w) (t := 34) (k := 6) (by with_reducible assumption) hb
       have hl3 := hk3.lt
       have hn3 := Nat.ne_of_lt hl3
       have hn3' := hn3.symm
       obtain ⟨⟨r0, r1, r2, r3, r4, r5⟩, g0, g1, g2, g3, g4, g5⟩ := keep6 hk3
       first
       | (with_reducible have hs3 := slot_newd (by simp) hb (by simp)
          obtain ⟨⟨t0, t1, t2, t3, t4, t5⟩, f0, f1, f2, f3, f4, f5⟩ := slot6 hs3)
       | (with_reducible have hs3 := slot_new (by simp) hb (by simp)
          obtain ⟨⟨t0, t1, t2, t3, t4, t5⟩, f0, f1, f2, f3, f4, f5⟩ := slot6 hs3)
       | (with_reducible have hs3 := Slot.next (t := 34) (k := 6) (by with_reducible assumption) hb
          obtain ⟨⟨t0, t1, t2, t3, t4, t5⟩, f0, f1, f2, f3, f4, f5⟩ := slot6 hs3)
       | skip))
  all_goals
    rename_i hS
    obtain ⟨q0, q1, q2, q3, q4, q5⟩ := chain6a hk3.2
    have HS := Lib.hid hS
    clear hS
    have hq0 := fun v0 v1 v2 v3 v4 v5 => (chain6 HS.out.2 v0 v1 v2 v3 v4 v5).1
    have hq1 := fun v0 v1 v2 v3 v4 v5 => (chain6 HS.out.2 v0 v1 v2 v3 v4 v5).2.1
    have hq2 := fun v0 v1 v2 v3 v4 v5 => (chain6 HS.out.2 v0 v1 v2 v3 v4 v5).2.2.1
    have hq3 := fun v0 v1 v2 v3 v4 v5 => (chain6 HS.out.2 v0 v1 v2 v3 v4 v5).2.2.2.1
    have hq4 := fun v0 v1 v2 v3 v4 v5 => (chain6 HS.out.2 v0 v1 v2 v3 v4 v5).2.2.2.2.1
    have hq5 := fun v0 v1 v2 v3 v4 v5 => (chain6 HS.out.2 v0 v1 v2 v3 v4 v5).2.2.2.2.2
    have hKA := fun v0 v1 v2 v3 v4 v5 => keepBelow (Keep.all6 HS.out v0 v1 v2 v3 v4 v5)
    have hKB := fun v0 v1 v2 v3 v4 v5 o => keepBelow (Keep.alloc (Keep.all6 hk3 v0 v1 v2 v3 v4 v5) o)
    have HK9 := Lib.hid (And.intro hKA hKB)
    clear hKA hKB
    have Hq := Lib.hid (And.intro hq0 (And.intro hq1 (And.intro hq2 (And.intro hq3 (And.intro hq4 hq5)))))
    have Qq := Lib.hid (And.intro q0 (And.intro q1 (And.intro q2 (And.intro q3 (And.intro q4 q5)))))
    clear hq0 hq1 hq2 hq3 hq4 hq5 q0 q1 q2 q3 q4 q5 k2 k3 k4 k5 k8 k9 o1 o2 c0 c1 c6 c7
    rcases Int.lt_or_le (u2 * 256 + u3) 20 with hl | hl
    · have HV := Lib.hid (hV1 hl)
      clear hV1 hV2
      go_wp2
      obtain ⟨hq0, hq1, hq2, hq3, hq4, hq5⟩ := Hq.out
      obtain ⟨q0, q1, q2, q3, q4, q5⟩ := Qq.out
      refine bodyPost_ret (ret_rh _ w.heap.size _ (.int .i64 0) (.int .i64 0) (.int .i64 0) (.int .i64 0) (.int .u32 0) (.int .u32 0) (.int .i64 103) rfl rfl ?_ ?_ ?_ ?_ ?_ ?_) rfl ⟨by rw [HV.out], ?_⟩
      · first | with_reducible exact hq0 _ _ _ _ _ _ | with_reducible exact q0 _ _ _ _ _ _ _
      · first | with_reducible exact hq1 _ _ _ _ _ _ | with_reducible exact q1 _ _ _ _ _ _ _
      · first | with_reducible exact hq2 _ _ _ _ _ _ | with_reducible exact q2 _ _ _ _ _ _ _
      · first | with_reducible exact hq3 _ _ _ _ _ _ | with_reducible exact q3 _ _ _ _ _ _ _
      · first | with_reducible exact hq4 _ _ _ _ _ _ | with_reducible exact q4 _ _ _ _ _ _ _
      · first | with_reducible exact hq5 _ _ _ _ _ _ | with_reducible exact q5 _ _ _ _ _ _ _
      · obtain ⟨hKA, hKB⟩ := HK9.out
        first | with_reducible exact hKA _ _ _ _ _ _ | with_reducible exact hKB _ _ _ _ _ _ _
    · have HV := Lib.hid (hV2 hl)
      clear hV1 hV2
      go_wp2
      obtain ⟨hq0, hq1, hq2, hq3, hq4, hq5⟩ := Hq.out
      obtain ⟨q0, q1, q2, q3, q4, q5⟩ := Qq.out
      refine bodyPost_ret (ret_rh _ w.heap.size _ (.int .i64 (u2 * 256 + u3)) (.int .i64 (u4 * 256 + u5)) (.int .i64 u8) (.int .i64 u9) (.int .u32 (ra X 12)) (.int .u32 (ra X 16)) (.int .i64 0) rfl rfl ?_ ?_ ?_ ?_ ?_ ?_) rfl ⟨by rw [HV.out], ?_⟩
      · first | with_reducible exact hq0 _ _ _ _ _ _ | with_reducible exact q0 _ _ _ _ _ _ _
      · first | with_reducible exact hq1 _ _ _ _ _ _ | with_reducible exact q1 _ _ _ _ _ _ _
      · first | with_reducible exact hq2 _ _ _ _ _ _ | with_reducible exact q2 _ _ _ _ _ _ _
      · first | with_reducible exact hq3 _ _ _ _ _ _ | with_reducible exact q3 _ _ _ _ _ _ _
      · first | with_reducible exact hq4 _ _ _ _ _ _ | with_reducible exact q4 _ _ _ _ _ _ _
      · first | with_reducible exact hq5 _ _ _ _ _ _ | with_reducible exact q5 _ _ _ _ _ _ _
      · obtain ⟨hKA, hKB⟩ := HK9.out
        first | with_reducible exact hKA _ _ _ _ _ _ | with_reducible exact hKB _ _ _ _ _ _ _
end
end Go.Proofs.YtgjpclmkjoghiaaDoor
