/- rib's cheapest: the first route of the least cost of some; over the seat's program. -/
import Derived.Test.YtahnnaagpeinkaaGreatDoorRb2
namespace Go.Proofs.YtahnnaagpeinkaaGreatDoor
open Go.RowKit Lx Sm
theorem store5 {W : World} {N b : Nat} {t : TypeId} (hs : Slot W N t 5) (hN : b ≤ N) (w : World) (hB : Below b w W) (v0 v1 v2 v3 v4 : Value) : ∃ W', W' = ((((W.setCell ⟨N, 0, none⟩ v0).setCell ⟨N, 1, none⟩ v1).setCell ⟨N, 2, none⟩ v2).setCell ⟨N, 3, none⟩ v3).setCell ⟨N, 4, none⟩ v4 ∧ Blk W' N t #[v0, v1, v2, v3, v4] ∧ Below b w W' ∧ (∀ g t' cs, g ≠ N → Blk W g t' cs → Blk W' g t' cs) := by
  obtain ⟨cs, hz, hb⟩ := hs
  refine ⟨_, rfl, ?_, (((((hB.setCell (by simpa using hN) v0).setCell (by simpa using hN) v1).setCell (by simpa using hN) v2).setCell (by simpa using hN) v3).setCell (by simpa using hN) v4), fun g t' cs hn hg => (((((hg.far hn v0).far hn v1).far hn v2).far hn v3).far hn v4)⟩
  have h := (((((hb.set_ 0 v0).set_ 1 v1).set_ 2 v2).set_ 3 v3).set_ 4 v4)
  have e : (((((cs.setIfInBounds 0 v0).setIfInBounds 1 v1).setIfInBounds 2 v2).setIfInBounds 3 v3).setIfInBounds 4 v4) = #[v0, v1, v2, v3, v4] := by
    apply Array.ext_getElem?
    intro i
    rcases i with _ | _ | _ | _ | _ | i <;> simp [hz]
  rw [e] at h
  exact h
theorem store9 {W : World} {N b : Nat} {t : TypeId} (hs : Slot W N t 9) (hN : b ≤ N) (w : World) (hB : Below b w W) (v0 v1 v2 v3 v4 v5 v6 v7 v8 : Value) : ∃ W', W' = ((((((((W.setCell ⟨N, 0, none⟩ v0).setCell ⟨N, 1, none⟩ v1).setCell ⟨N, 2, none⟩ v2).setCell ⟨N, 3, none⟩ v3).setCell ⟨N, 4, none⟩ v4).setCell ⟨N, 5, none⟩ v5).setCell ⟨N, 6, none⟩ v6).setCell ⟨N, 7, none⟩ v7).setCell ⟨N, 8, none⟩ v8 ∧ Blk W' N t #[v0, v1, v2, v3, v4, v5, v6, v7, v8] ∧ Below b w W' ∧ (∀ g t' cs, g ≠ N → Blk W g t' cs → Blk W' g t' cs) := by
  obtain ⟨cs, hz, hb⟩ := hs
  refine ⟨_, rfl, ?_, (((((((((hB.setCell (by simpa using hN) v0).setCell (by simpa using hN) v1).setCell (by simpa using hN) v2).setCell (by simpa using hN) v3).setCell (by simpa using hN) v4).setCell (by simpa using hN) v5).setCell (by simpa using hN) v6).setCell (by simpa using hN) v7).setCell (by simpa using hN) v8), fun g t' cs hn hg => (((((((((hg.far hn v0).far hn v1).far hn v2).far hn v3).far hn v4).far hn v5).far hn v6).far hn v7).far hn v8)⟩
  have h := (((((((((hb.set_ 0 v0).set_ 1 v1).set_ 2 v2).set_ 3 v3).set_ 4 v4).set_ 5 v5).set_ 6 v6).set_ 7 v7).set_ 8 v8)
  have e : (((((((((cs.setIfInBounds 0 v0).setIfInBounds 1 v1).setIfInBounds 2 v2).setIfInBounds 3 v3).setIfInBounds 4 v4).setIfInBounds 5 v5).setIfInBounds 6 v6).setIfInBounds 7 v7).setIfInBounds 8 v8) = #[v0, v1, v2, v3, v4, v5, v6, v7, v8] := by
    apply Array.ext_getElem?
    intro i
    rcases i with _ | _ | _ | _ | _ | _ | _ | _ | _ | i <;> simp [hz]
  rw [e] at h
  exact h
theorem store3 {W : World} {N b : Nat} {t : TypeId} (hs : Slot W N t 3) (hN : b ≤ N) (w : World) (hB : Below b w W) (v0 v1 v2 : Value) : ∃ W', W' = ((W.setCell ⟨N, 0, none⟩ v0).setCell ⟨N, 1, none⟩ v1).setCell ⟨N, 2, none⟩ v2 ∧ Blk W' N t #[v0, v1, v2] ∧ Below b w W' ∧ (∀ g t' cs, g ≠ N → Blk W g t' cs → Blk W' g t' cs) := by
  obtain ⟨cs, hz, hb⟩ := hs
  refine ⟨_, rfl, ?_, (((hB.setCell (by simpa using hN) v0).setCell (by simpa using hN) v1).setCell (by simpa using hN) v2), fun g t' cs hn hg => (((hg.far hn v0).far hn v1).far hn v2)⟩
  have h := (((hb.set_ 0 v0).set_ 1 v1).set_ 2 v2)
  have e : (((cs.setIfInBounds 0 v0).setIfInBounds 1 v1).setIfInBounds 2 v2) = #[v0, v1, v2] := by
    apply Array.ext_getElem?
    intro i
    rcases i with _ | _ | _ | i <;> simp [hz]
  rw [e] at h
  exact h
theorem ret_cheap (tm : Array Value) (N : Nat) (W : World) (v0 v1 v2 v3 v4 : Value) (h2 : tm.getD 4 undef = .pointer (some ⟨N, 0, none⟩)) (c0 : W.cell? ⟨N, 0, none⟩ = some v0) (c1 : W.cell? ⟨N, 1, none⟩ = some v1) (c2 : W.cell? ⟨N, 2, none⟩ = some v2) (c3 : W.cell? ⟨N, 3, none⟩ = some v3) (c4 : W.cell? ⟨N, 4, none⟩ = some v4) :
    (results Tryz.f32 tm).run Tryz.prog W = .ok (.agg #[v0, v1, v2, v3, v4]) W := by
  have h2' : tm[4]?.getD undef = .pointer (some ⟨N, 0, none⟩) := by simpa using h2
  simp [results, Tryz.results32, go_sem, h2', c0, c1, c2, c3, c4]

theorem cheap_snoc (os : List (Int × Int × Int × Int × Int)) : ∀ (L : List Int) (b : Int × Int × Int × Int × Int) (q : Int), cheapR os b (L ++ [q]) = if (routeAt os q).2.2.2.2 < (cheapR os b L).2.2.2.2 then routeAt os q else cheapR os b L
  | [], b, q => rfl
  | i :: L, b, q => by
    simp only [List.cons_append, cheapR]
    exact cheap_snoc os L _ q
set_option maxHeartbeats 8000000 in
set_option maxRecDepth 100000 in
theorem cheapest_any (M : Cm) (A B C : Option Addr) (n c m d k cc : Nat) (x : Cfg) (L : List Int) (w : World) (hC : CW w M x) (hj : JR w C k L) (h0 : 0 < k) (hk : k ≤ 1000000) (hkc : k ≤ cc) (hL : ∀ q ∈ L, ∃ j : Nat, j < x.os.length ∧ q = j) :
    Calls Tryz.prog 32 #[.agg #[.slice M.r.A M.r.n M.r.c, .slice M.l.A M.l.n M.l.c, .slice M.p.A M.p.n M.p.c, .slice M.o.A M.o.n M.o.c, .slice M.g.A M.g.n M.g.c, .slice M.s.A M.s.n M.s.c, .slice M.m.A M.m.n M.m.c, .slice A n c, .slice B m d], .slice C k cc] w fun e w' => e = .returned (VRoute (cheap x.os L)) ∧ Below w.heap.size w w' := by
  have hkl := hj.1
  obtain ⟨q0, L1, rfl⟩ : ∃ q L', L = q :: L' := by
    cases L with
    | nil => simp at hkl; omega
    | cons q L' => exact ⟨q, L', rfl⟩
  obtain ⟨j0, hj0, rfl⟩ := hL _ (List.mem_cons_self ..)
  obtain ⟨bo, oo, ⟨r0, a0, b0, v0, c0⟩, hA, hbo, hx, d0, d1, d2, d3, d4⟩ := IRoute.cells hC.o (i := j0) (by have := hC.o.1; omega)
  obtain ⟨bc, oc, hCa, hbc, l0⟩ := hj.at_ h0
  have HR0 : Hid (routeAt x.os (j0 : Int) = (r0, a0, b0, v0, c0)) := Lib.hid (by unfold routeAt; simp [hx])
  have HB1 := Lib.hid (((Below.refl w.heap.size w).alloc (Nat.le_refl _) (.cells #[.slice M.r.A M.r.n M.r.c, .slice M.l.A M.l.n M.l.c, .slice M.p.A M.p.n M.p.c, .slice M.o.A M.o.n M.o.c, .slice M.g.A M.g.n M.g.c, .slice M.s.A M.s.n M.s.c, .slice M.m.A M.m.n M.m.c, .slice A n c, .slice B m d] 87)).alloc (by simp) (.cells #[.int .i64 0, .int .u32 0, .int .i64 0, .int .u32 0, .int .i64 0] 64))
  have HK := Lib.hid ((Blk.new w 87 #[.slice M.r.A M.r.n M.r.c, .slice M.l.A M.l.n M.l.c, .slice M.p.A M.p.n M.p.c, .slice M.o.A M.o.n M.o.c, .slice M.g.A M.g.n M.g.c, .slice M.s.A M.s.n M.s.c, .slice M.m.A M.m.n M.m.c, .slice A n c, .slice B m d]).alloc (.cells #[.int .i64 0, .int .u32 0, .int .i64 0, .int .u32 0, .int .i64 0] 64))
  have HS : Hid (Blk ((w.alloc (.cells #[.slice M.r.A M.r.n M.r.c, .slice M.l.A M.l.n M.l.c, .slice M.p.A M.p.n M.p.c, .slice M.o.A M.o.n M.o.c, .slice M.g.A M.g.n M.g.c, .slice M.s.A M.s.n M.s.c, .slice M.m.A M.m.n M.m.c, .slice A n c, .slice B m d] 87)).alloc (.cells #[.int .i64 0, .int .u32 0, .int .i64 0, .int .u32 0, .int .i64 0] 64)) (w.heap.size + 1) 64 #[.int .i64 0, .int .u32 0, .int .i64 0, .int .u32 0, .int .i64 0]) := Lib.hid (by simpa using Blk.new (w.alloc (.cells #[.slice M.r.A M.r.n M.r.c, .slice M.l.A M.l.n M.l.c, .slice M.p.A M.p.n M.p.c, .slice M.o.A M.o.n M.o.c, .slice M.g.A M.g.n M.g.c, .slice M.s.A M.s.n M.s.c, .slice M.m.A M.m.n M.m.c, .slice A n c, .slice B m d] 87)) 64 #[.int .i64 0, .int .u32 0, .int .i64 0, .int .u32 0, .int .i64 0])
  replace l0 := cell_up l0 HB1.out
  replace d0 := cell_up d0 HB1.out
  replace d1 := cell_up d1 HB1.out
  replace d2 := cell_up d2 HB1.out
  replace d3 := cell_up d3 HB1.out
  replace d4 := cell_up d4 HB1.out
  have hi0 : (j0 : Int) < (M.o.n : Int) := by have := hC.o.1; omega
  have hi1 : (0 : Int) < (k : Int) := by omega
  have HC := Lib.hid hC
  have HJ := Lib.hid hj
  have HL := Lib.hid hL
  have HA := Lib.hid hA
  subst hCa
  clear hC hj hL hA hx hj0
  simp only [List.getD_cons_zero, Nat.add_zero] at l0
  go_enter Tryz.func32, Tryz.ntmps32
  go_upto_region 1 with fail
  have hl0 := HK.out.lt
  have HW1 := Lib.hid hl0
  have hl1 := Nat.lt_of_lt_of_le hbo HB1.out.size
  have hl2 := Nat.lt_of_lt_of_le hbc HB1.out.size
  generalize (w.alloc (.cells #[.slice M.r.A M.r.n M.r.c, .slice M.l.A M.l.n M.l.c, .slice M.p.A M.p.n M.p.c, .slice M.o.A M.o.n M.o.c, .slice M.g.A M.g.n M.g.c, .slice M.s.A M.s.n M.s.c, .slice M.m.A M.m.n M.m.c, .slice A n c, .slice B m d] 87)).alloc (.cells #[.int .i64 0, .int .u32 0, .int .i64 0, .int .u32 0, .int .i64 0] 64) = W1 at *
  have k3 : W1.cell? ⟨w.heap.size, 3, none⟩ = some (.slice (some ⟨bo, oo, none⟩) M.o.n M.o.c) := by rw [← HA.out]; exact HK.out.cell 3
  go_region
  have HB2 := Lib.hid (HB1.out.trans (((Below.refl W1.heap.size W1).alloc (Nat.le_refl _) (.cells #[.int .i64 r0, .int .u32 a0, .int .i64 b0, .int .u32 v0, .int .i64 c0] 64)).drew.mono HB1.out.size))
  have HB12 := Lib.hid ((Below.refl W1.heap.size W1).alloc (Nat.le_refl _) (.cells #[.int .i64 r0, .int .u32 a0, .int .i64 b0, .int .u32 v0, .int .i64 c0] 64)).drew
  have HN := Lib.hid (Blk.new W1 64 #[.int .i64 r0, .int .u32 a0, .int .i64 b0, .int .u32 v0, .int .i64 c0]).drew
  have HK2 := Lib.hid (HK.out.next HB12.out)
  have HS2 := Lib.hid (HS.out.next HB12.out)
  have HSl := Lib.hid HS.out.lt
  clear k3 l0 d0 d1 d2 d3 d4 hl1 hl2
  generalize (W1.alloc (.cells #[.int .i64 r0, .int .u32 a0, .int .i64 b0, .int .u32 v0, .int .i64 c0] 64)).drew = W2 at *
  have hkk : (k : Int) - 1 = ((k - 1 : Nat) : Int) := by omega
  have HT : Hid (L1.length = k - 1) := Lib.hid (by simp at hkl; omega)
  have hk1 : k - 1 ≤ 1000000 := by omega
  by_cases hcc : cc = 1
  · subst hcc
    obtain rfl : k = 1 := by omega
    go_wp2
    go_loopw [20] (fun i wr => ∃ (q : Nat) (rr ra rb rv rc : Int), q ≤ 1 - 1 ∧ i = .int .i64 q ∧ Hid (cheapR x.os (r0, a0, b0, v0, c0) (L1.take q) = (rr, ra, rb, rv, rc)) ∧ Hid (Blk wr W1.heap.size 64 #[.int .i64 rr, .int .u32 ra, .int .i64 rb, .int .u32 rv, .int .i64 rc]) ∧ Hid (Blk wr w.heap.size 87 #[.slice M.r.A M.r.n M.r.c, .slice M.l.A M.l.n M.l.c, .slice M.p.A M.p.n M.p.c, .slice M.o.A M.o.n M.o.c, .slice M.g.A M.g.n M.g.c, .slice M.s.A M.s.n M.s.c, .slice M.m.A M.m.n M.m.c, .slice A n c, .slice B m d]) ∧ Hid (Blk wr (w.heap.size + 1) 64 #[.int .i64 0, .int .u32 0, .int .i64 0, .int .u32 0, .int .i64 0]) ∧ Hid (Below w.heap.size w wr)) (fun i _ => 1 - 1 - (intOf i).toNat)
    case atStart => exact ⟨0, r0, a0, b0, v0, c0, Nat.zero_le _, rfl, rfl, HN, HK2, HS2, HB2⟩
    case round =>
      obtain ⟨q, rr, ra, rb, rv, rc, hq, rfl, HF, HN, HK, HS, HB⟩ := hrel
      rcases Nat.lt_or_ge q (1 - 1) with hlt | hge
      · omega
      · obtain rfl : q = 1 - 1 := by omega
        have hi3 : ¬ (((1 - 1 : Nat) : Int) < ((1 - 1 : Nat) : Int)) := by omega
        have hlk : L1.take (1 - 1) = L1 := List.take_of_length_le (by have := HT.out; omega)
        rw [hlk] at HF
        clear hlk
        have f0 : wr.cell? ⟨W1.heap.size, 0, none⟩ = some (.int .i64 rr) := HN.out.cell 0
        have f1 : wr.cell? ⟨W1.heap.size, 1, none⟩ = some (.int .u32 ra) := HN.out.cell 1
        have f2 : wr.cell? ⟨W1.heap.size, 2, none⟩ = some (.int .i64 rb) := HN.out.cell 2
        have f3 : wr.cell? ⟨W1.heap.size, 3, none⟩ = some (.int .u32 rv) := HN.out.cell 3
        have f4 : wr.cell? ⟨W1.heap.size, 4, none⟩ = some (.int .i64 rc) := HN.out.cell 4
        have s0 : wr.cell? ⟨w.heap.size + 1, 0, none⟩ = some (.int .i64 0) := HS.out.cell 0
        have s1 : wr.cell? ⟨w.heap.size + 1, 1, none⟩ = some (.int .u32 0) := HS.out.cell 1
        have s2 : wr.cell? ⟨w.heap.size + 1, 2, none⟩ = some (.int .i64 0) := HS.out.cell 2
        have s3 : wr.cell? ⟨w.heap.size + 1, 3, none⟩ = some (.int .u32 0) := HS.out.cell 3
        have s4 : wr.cell? ⟨w.heap.size + 1, 4, none⟩ = some (.int .i64 0) := HS.out.cell 4
        have z0 : wr.frozen? ⟨w.heap.size + 1, 0, none⟩ = false := HS.out.frozen 0
        have z1 : wr.frozen? ⟨w.heap.size + 1, 1, none⟩ = false := HS.out.frozen 1
        have z2 : wr.frozen? ⟨w.heap.size + 1, 2, none⟩ = false := HS.out.frozen 2
        have z3 : wr.frozen? ⟨w.heap.size + 1, 3, none⟩ = false := HS.out.frozen 3
        have z4 : wr.frozen? ⟨w.heap.size + 1, 4, none⟩ = false := HS.out.frozen 4
        go_wp2
        obtain ⟨W', hW', hk', hB', _⟩ := store5 HS.out.slot (Nat.le_succ _) w HB.out (.int .i64 rr) (.int .u32 ra) (.int .i64 rb) (.int .u32 rv) (.int .i64 rc)
        rw [← hW']
        clear hW' f0 f1 f2 f3 f4 s0 s1 s2 s3 s4 z0 z1 z2 z3 z4
        refine bodyPost_ret (ret_cheap _ (w.heap.size + 1) _ _ _ _ _ _ rfl (hk'.cell 0) (hk'.cell 1) (hk'.cell 2) (hk'.cell 3) (hk'.cell 4)) rfl ?_
        refine ⟨?_, hB'⟩
        show _ = Ending.returned (VRoute (cheapR x.os (routeAt x.os (j0 : Int)) L1))
        rw [HR0.out, HF.out]
        rfl
  · have hcc' : ¬ (1 = cc) := fun e => hcc e.symm
    go_wp2
    go_loopw [20] (fun i wr => ∃ (q : Nat) (rr ra rb rv rc : Int), q ≤ k - 1 ∧ i = .int .i64 q ∧ Hid (cheapR x.os (r0, a0, b0, v0, c0) (L1.take q) = (rr, ra, rb, rv, rc)) ∧ Hid (Blk wr W1.heap.size 64 #[.int .i64 rr, .int .u32 ra, .int .i64 rb, .int .u32 rv, .int .i64 rc]) ∧ Hid (Blk wr w.heap.size 87 #[.slice M.r.A M.r.n M.r.c, .slice M.l.A M.l.n M.l.c, .slice M.p.A M.p.n M.p.c, .slice M.o.A M.o.n M.o.c, .slice M.g.A M.g.n M.g.c, .slice M.s.A M.s.n M.s.c, .slice M.m.A M.m.n M.m.c, .slice A n c, .slice B m d]) ∧ Hid (Blk wr (w.heap.size + 1) 64 #[.int .i64 0, .int .u32 0, .int .i64 0, .int .u32 0, .int .i64 0]) ∧ Hid (Below w.heap.size w wr)) (fun i _ => k - 1 - (intOf i).toNat)
    case atStart => exact ⟨0, r0, a0, b0, v0, c0, Nat.zero_le _, rfl, rfl, HN, HK2, HS2, HB2⟩
    case round =>
      obtain ⟨q, rr, ra, rb, rv, rc, hq, rfl, HF, HN, HK, HS, HB⟩ := hrel
      rcases Nat.lt_or_ge q (k - 1) with hlt | hge
      · obtain ⟨b9, o9, hC9, hb9, l9⟩ := (HJ.out.next HB.out).at_ (k := q + 1) (by omega)
        cases hC9
        obtain ⟨j, hj, hjq⟩ := HL.out (L1.getD q 0) (List.mem_cons_of_mem _ (by
          have : q < L1.length := by have := HT.out; omega
          rw [List.getD_eq_getElem?_getD, List.getElem?_eq_getElem this]
          exact List.getElem_mem this))
        rw [List.getD_cons_succ, hjq, show oc + (q + 1) = oc + 1 + q by omega] at l9
        obtain ⟨b8, o8, ⟨sr, sa, sb, sv, sc⟩, hA8, hb8, hx8, d0, d1, d2, d3, d4⟩ := IRoute.cells (HC.out.next HB.out).o (i := j) (by have := HC.out.o.1; omega)
        have hcs : Hid (cheapR x.os (r0, a0, b0, v0, c0) (L1.take (q + 1)) = if sc < rc then (sr, sa, sb, sv, sc) else (rr, ra, rb, rv, rc)) := Lib.hid (by
          rw [take_next (by have := HT.out; omega), cheap_snoc, HF.out, hjq]
          have : routeAt x.os (j : Int) = (sr, sa, sb, sv, sc) := by unfold routeAt; simp [hx8]
          rw [this])
        rw [HA.out] at hA8
        cases hA8
        have k3 : wr.cell? ⟨w.heap.size, 3, none⟩ = some (.slice (some ⟨bo, oo, none⟩) M.o.n M.o.c) := by rw [← HA.out]; exact HK.out.cell 3
        have hi2 : (j : Int) < (M.o.n : Int) := by have := HC.out.o.1; omega
        have hi3 : (q : Int) < ((k - 1 : Nat) : Int) := by omega
        clear hjq hx8 hj
        go_upto_region 6 with fail
        have HBa := Lib.hid ((Below.refl wr.heap.size wr).alloc (Nat.le_refl _) (.cells #[.int .i64 sr, .int .u32 sa, .int .i64 sb, .int .u32 sv, .int .i64 sc] 64))
        have f0 : (wr.alloc (.cells #[.int .i64 sr, .int .u32 sa, .int .i64 sb, .int .u32 sv, .int .i64 sc] 64)).cell? ⟨wr.heap.size, 0, none⟩ = some (.int .i64 sr) := by go_simp
        have f1 : (wr.alloc (.cells #[.int .i64 sr, .int .u32 sa, .int .i64 sb, .int .u32 sv, .int .i64 sc] 64)).cell? ⟨wr.heap.size, 1, none⟩ = some (.int .u32 sa) := by go_simp
        have f2 : (wr.alloc (.cells #[.int .i64 sr, .int .u32 sa, .int .i64 sb, .int .u32 sv, .int .i64 sc] 64)).cell? ⟨wr.heap.size, 2, none⟩ = some (.int .i64 sb) := by go_simp
        have f3 : (wr.alloc (.cells #[.int .i64 sr, .int .u32 sa, .int .i64 sb, .int .u32 sv, .int .i64 sc] 64)).cell? ⟨wr.heap.size, 3, none⟩ = some (.int .u32 sv) := by go_simp
        have f4 : (wr.alloc (.cells #[.int .i64 sr, .int .u32 sa, .int .i64 sb, .int .u32 sv, .int .i64 sc] 64)).cell? ⟨wr.heap.size, 4, none⟩ = some (.int .i64 sc) := by go_simp
        have HNa := Lib.hid (HN.out.next HBa.out)
        have HKa := Lib.hid (HK.out.next HBa.out)
        have HSa := Lib.hid (HS.out.next HBa.out)
        have HBb := Lib.hid (HB.out.trans (HBa.out.mono HB.out.size))
        clear k3 d0 d1 d2 d3 d4 l9 HBa HN HK HS HB
        generalize wr.alloc (.cells #[.int .i64 sr, .int .u32 sa, .int .i64 sb, .int .u32 sv, .int .i64 sc] 64) = Wa at *
        have s0 : Wa.cell? ⟨W1.heap.size, 0, none⟩ = some (.int .i64 rr) := HNa.out.cell 0
        have s1 : Wa.cell? ⟨W1.heap.size, 1, none⟩ = some (.int .u32 ra) := HNa.out.cell 1
        have s2 : Wa.cell? ⟨W1.heap.size, 2, none⟩ = some (.int .i64 rb) := HNa.out.cell 2
        have s3 : Wa.cell? ⟨W1.heap.size, 3, none⟩ = some (.int .u32 rv) := HNa.out.cell 3
        have s4 : Wa.cell? ⟨W1.heap.size, 4, none⟩ = some (.int .i64 rc) := HNa.out.cell 4
        have z0 : Wa.frozen? ⟨W1.heap.size, 0, none⟩ = false := HNa.out.frozen 0
        have z1 : Wa.frozen? ⟨W1.heap.size, 1, none⟩ = false := HNa.out.frozen 1
        have z2 : Wa.frozen? ⟨W1.heap.size, 2, none⟩ = false := HNa.out.frozen 2
        have z3 : Wa.frozen? ⟨W1.heap.size, 3, none⟩ = false := HNa.out.frozen 3
        have z4 : Wa.frozen? ⟨W1.heap.size, 4, none⟩ = false := HNa.out.frozen 4
        by_cases hsc : sc < rc
        · rw [if_pos hsc] at hcs
          go_wp2
          obtain ⟨W', hW', hk', hB', hfar⟩ := store5 HNa.out.slot (Nat.le_of_lt HW1.out) w HBb.out (.int .i64 sr) (.int .u32 sa) (.int .i64 sb) (.int .u32 sv) (.int .i64 sc)
          have HK' := Lib.hid (hfar _ _ _ (by have := HW1.out; omega) HKa.out)
          have HS' := Lib.hid (hfar _ _ _ (by have := HSl.out; omega) HSa.out)
          rw [← hW']
          clear hW' f0 f1 f2 f3 f4 s0 s1 s2 s3 s4 z0 z1 z2 z3 z4 hfar
          go_roundw
          case rel => exact ⟨q + 1, sr, sa, sb, sv, sc, by omega, by go_num, hcs, Lib.hid hk', HK', HS', Lib.hid hB'⟩
          case measure => simp [intOf]; omega
        · rw [if_neg hsc] at hcs
          go_wp2
          clear f0 f1 f2 f3 f4 s0 s1 s2 s3 s4 z0 z1 z2 z3 z4
          go_roundw
          case rel => exact ⟨q + 1, rr, ra, rb, rv, rc, by omega, by go_num, hcs, HNa, HKa, HSa, HBb⟩
          case measure => simp [intOf]; omega
      · obtain rfl : q = k - 1 := by omega
        have hi3 : ¬ (((k - 1 : Nat) : Int) < ((k - 1 : Nat) : Int)) := by omega
        have hlk : L1.take (k - 1) = L1 := List.take_of_length_le (by have := HT.out; omega)
        rw [hlk] at HF
        clear hlk
        have f0 : wr.cell? ⟨W1.heap.size, 0, none⟩ = some (.int .i64 rr) := HN.out.cell 0
        have f1 : wr.cell? ⟨W1.heap.size, 1, none⟩ = some (.int .u32 ra) := HN.out.cell 1
        have f2 : wr.cell? ⟨W1.heap.size, 2, none⟩ = some (.int .i64 rb) := HN.out.cell 2
        have f3 : wr.cell? ⟨W1.heap.size, 3, none⟩ = some (.int .u32 rv) := HN.out.cell 3
        have f4 : wr.cell? ⟨W1.heap.size, 4, none⟩ = some (.int .i64 rc) := HN.out.cell 4
        have s0 : wr.cell? ⟨w.heap.size + 1, 0, none⟩ = some (.int .i64 0) := HS.out.cell 0
        have s1 : wr.cell? ⟨w.heap.size + 1, 1, none⟩ = some (.int .u32 0) := HS.out.cell 1
        have s2 : wr.cell? ⟨w.heap.size + 1, 2, none⟩ = some (.int .i64 0) := HS.out.cell 2
        have s3 : wr.cell? ⟨w.heap.size + 1, 3, none⟩ = some (.int .u32 0) := HS.out.cell 3
        have s4 : wr.cell? ⟨w.heap.size + 1, 4, none⟩ = some (.int .i64 0) := HS.out.cell 4
        have z0 : wr.frozen? ⟨w.heap.size + 1, 0, none⟩ = false := HS.out.frozen 0
        have z1 : wr.frozen? ⟨w.heap.size + 1, 1, none⟩ = false := HS.out.frozen 1
        have z2 : wr.frozen? ⟨w.heap.size + 1, 2, none⟩ = false := HS.out.frozen 2
        have z3 : wr.frozen? ⟨w.heap.size + 1, 3, none⟩ = false := HS.out.frozen 3
        have z4 : wr.frozen? ⟨w.heap.size + 1, 4, none⟩ = false := HS.out.frozen 4
        go_wp2
        obtain ⟨W', hW', hk', hB', _⟩ := store5 HS.out.slot (Nat.le_succ _) w HB.out (.int .i64 rr) (.int .u32 ra) (.int .i64 rb) (.int .u32 rv) (.int .i64 rc)
        rw [← hW']
        clear hW' f0 f1 f2 f3 f4 s0 s1 s2 s3 s4 z0 z1 z2 z3 z4
        refine bodyPost_ret (ret_cheap _ (w.heap.size + 1) _ _ _ _ _ _ rfl (hk'.cell 0) (hk'.cell 1) (hk'.cell 2) (hk'.cell 3) (hk'.cell 4)) rfl ?_
        refine ⟨?_, hB'⟩
        show _ = Ending.returned (VRoute (cheapR x.os (routeAt x.os (j0 : Int)) L1))
        rw [HR0.out, HF.out]
        rfl
end Go.Proofs.YtahnnaagpeinkaaGreatDoor

