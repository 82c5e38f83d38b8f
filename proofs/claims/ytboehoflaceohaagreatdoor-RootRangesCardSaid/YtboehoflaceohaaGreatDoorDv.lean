/- The document's check of a network, item by item; over the seat's program. -/
import Derived.Test.YtboehoflaceohaaGreatDoorCw
import Derived.Test.YtboehoflaceohaaGreatDoorRef
import Derived.Test.YtboehoflaceohaaGreatDoorRName
import Derived.Test.YtboehoflaceohaaGreatDoorQb
import Derived.Deep.Cut
namespace Go.Proofs.YtboehoflaceohaaGreatDoor
open Go.RowKit Lx Sm
theorem lay1 (w : World) (cs : Array Value) (t : TypeId) : ∃ W1, W1 = w.alloc (.cells cs t) ∧ Below w.heap.size w W1 ∧ Blk W1 w.heap.size t cs := ⟨_, rfl, (Below.refl _ _).alloc (Nat.le_refl _) _, Blk.new w t cs⟩
theorem dcell_up {w W : World} {b o : Nat} {v : Value} (h : w.cell? ⟨b, o, none⟩ = some v) (hB : Below w.heap.size w W) : W.cell? ⟨b, o, none⟩ = some v := by
  have := World.block_lt_of_cell? _ _ h
  exact (hB.cell (p := ⟨b, o, none⟩) this).trans h
theorem place_any (i : Int) (n : Nat) (w : World) : Calls Tryz.prog 97 #[.int .i64 i, .int .i64 (n : Int)] w fun e w' => e = .returned (.bool (plOk i n)) ∧ w = w' := by
  have HE : Hid (plOk i n = (decide (0 ≤ i) && decide (i < (n : Int)))) := Lib.hid (by unfold plOk; by_cases h1 : 0 ≤ i <;> by_cases h2 : i < (n : Int) <;> simp [h1, h2])
  rw [HE.out]
  go_enter Tryz.func97, Tryz.ntmps97
  by_cases h : 0 ≤ i
  · have h' : decide (0 ≤ i) = true := by simpa using h
    go_wp2
    go_ret
    exact ⟨by first | rfl | simp [h'], rfl⟩
  · have h' : decide (0 ≤ i) = false := by simpa using h
    go_wp2
    go_ret
    exact ⟨by first | rfl | simp [h'], rfl⟩
theorem ret_rgroups (tm : Array Value) (N : Nat) (W : World) (v0 v1 : Value) (h2 : tm.getD 0 undef = .pointer (some ⟨N, 0, none⟩)) (c0 : W.cell? ⟨N, 0, none⟩ = some v0) (c1 : W.cell? ⟨N, 1, none⟩ = some v1) :
    (results Tryz.f17 tm).run Tryz.prog W = .ok (.agg #[v0, v1]) W := by
  have h2' : tm[0]?.getD undef = .pointer (some ⟨N, 0, none⟩) := by simpa using h2
  simp [results, Tryz.results17, go_sem, h2', c0, c1]
theorem rgroups_any (w : World) : Calls Tryz.prog 17 #[] w fun e w' => e = .returned (.agg #[.int .u32 3758096384, .int .i64 4]) ∧ Below w.heap.size w w' := by
  go_enter Tryz.func17, Tryz.ntmps17
  go_wp2
  refine bodyPost_ret (ret_rgroups _ w.heap.size _ (.int .u32 3758096384) (.int .i64 4) rfl ((Blk.new w _ _).cell 0) ((Blk.new w _ _).cell 1)) rfl ?_
  exact ⟨rfl, (Below.refl _ _).alloc (Nat.le_refl _) _⟩
set_option maxRecDepth 100000 in
set_option maxHeartbeats 4000000 in
theorem droute_any (M : Cm) (x : Cfg) (i : Nat) (w : World) (h : CW w M x) (hi : i < x.os.length) :
    Calls Tryz.prog 48 #[.agg #[.slice M.r.A M.r.n M.r.c, .slice M.l.A M.l.n M.l.c, .slice M.p.A M.p.n M.p.c, .slice M.o.A M.o.n M.o.c, .slice M.g.A M.g.n M.g.c, .slice M.s.A M.s.n M.s.c, .slice M.m.A M.m.n M.m.c], .int .i64 (i : Int)] w fun e w' => e = .returned (.int .i64 (atC (fun y _ => ocode x.rs.length y) x.os i)) ∧ Below w.heap.size w w' := by
  obtain ⟨b, o, ⟨r1, a1, b1, v1, q1⟩, hA, hb, hx, e0, e1, e2, e3, e4⟩ := IRoute.cells h.o (i := i) (by have := h.o.1; omega)
  have HC := Lib.hid (atC_at (f := fun y _ => ocode x.rs.length y) hx)
  have HX := Lib.hid hx
  have hi0 : (i : Int) < (M.o.n : Int) := by have := h.o.1; omega
  have hi1 : (0 : Int) ≤ (i : Int) := by omega
  have H := Lib.hid h
  have HA := Lib.hid hA
  clear hA
  obtain ⟨W0, hW0, hb0, hk0⟩ := lay1 w #[.slice M.r.A M.r.n M.r.c, .slice M.l.A M.l.n M.l.c, .slice M.p.A M.p.n M.p.c, .slice M.o.A M.o.n M.o.c, .slice M.g.A M.g.n M.g.c, .slice M.s.A M.s.n M.s.c, .slice M.m.A M.m.n M.m.c] 32
  obtain ⟨W1, hW1, hb1, hk1⟩ := lay1 W0 #[.int .i64 r1, .int .u32 a1, .int .i64 b1, .int .u32 v1, .int .i64 q1] 65
  have HB0 := Lib.hid hb0
  have HB1 := Lib.hid (below_next hb0 hb1)
  have HK0 := Lib.hid (hk0.next hb1)
  have HK1 := Lib.hid hk1
  have HW1 := Lib.hid hW1
  rw [HC.out]
  clear h hx hb1 hk1 hW1
  go_enter Tryz.func48, Tryz.ntmps48
  go_upto_region 1 with fail
  rw [← hW0]
  have y0 : W0.cell? ⟨w.heap.size, 3, none⟩ = some (.slice M.o.A M.o.n M.o.c) := hk0.cell 3
  rw [HA.out] at y0
  replace e0 := dcell_up e0 hb0
  replace e1 := dcell_up e1 hb0
  replace e2 := dcell_up e2 hb0
  replace e3 := dcell_up e3 hb0
  replace e4 := dcell_up e4 hb0
  clear hW0 hb0 hk0
  go_upto_region 2 with fail
  rw [← HW1.out]
  clear y0 e0 e1 e2 e3 e4 HW1 hb
  have hr := Below.refl W1.heap.size W1
  have k0 : ∀ W, Below W1.heap.size W1 W → W.cell? ⟨W0.heap.size, 0, none⟩ = some (.int .i64 r1) := fun W hW => (HK1.out.next hW).cell 0
  have k1 : ∀ W, Below W1.heap.size W1 W → W.cell? ⟨W0.heap.size, 1, none⟩ = some (.int .u32 a1) := fun W hW => (HK1.out.next hW).cell 1
  have k2 : ∀ W, Below W1.heap.size W1 W → W.cell? ⟨W0.heap.size, 2, none⟩ = some (.int .i64 b1) := fun W hW => (HK1.out.next hW).cell 2
  have k3 : ∀ W, Below W1.heap.size W1 W → W.cell? ⟨W0.heap.size, 3, none⟩ = some (.int .u32 v1) := fun W hW => (HK1.out.next hW).cell 3
  have k4 : ∀ W, Below W1.heap.size W1 W → W.cell? ⟨W0.heap.size, 4, none⟩ = some (.int .i64 q1) := fun W hW => (HK1.out.next hW).cell 4
  have cr : ∀ W, Below W1.heap.size W1 W → W.cell? ⟨w.heap.size, 0, none⟩ = some (.slice M.r.A M.r.n M.r.c) := fun W hW => (HK0.out.next hW).cell 0
  have hn : x.rs.length = M.r.n := H.out.r.1
  have ho := H.out.ok.2.2.1 _ (List.mem_of_getElem? HX.out)
  have ha : 0 ≤ a1 ∧ a1 ≤ 4294967295 := ho.1
  have hv : 0 ≤ v1 ∧ v1 ≤ 4294967295 := ho.2
  have HN := Lib.hid hn
  have HU := Lib.hid (And.intro ha hv)
  clear ho hn ha hv hi
  cases hP : plOk r1 M.r.n with
  | false =>
    have HR : Hid (ocode x.rs.length (r1, a1, b1, v1, q1) = 111) := Lib.hid (by simp [ocode, HN.out, hP])
    go_wp2_with (go_at_call 97; (with_reducible refine (place_any _ _ _).mono ?_); rintro e w2 ⟨rfl, hw2⟩; obtain rfl := hw2; rw [hP])
    go_ret
    exact ⟨by rw [HR.out]; rfl, HB1.out⟩
  | true =>
    cases hV : Ad.valid a1 b1 with
    | false =>
      have HR : Hid (ocode x.rs.length (r1, a1, b1, v1, q1) = 103) := Lib.hid (by simp [ocode, HN.out, hP, hV])
      go_wp2_with (first
    | (go_at_call 97; (with_reducible refine (place_any _ _ _).mono ?_); rintro e w2 ⟨rfl, hw2⟩; obtain rfl := hw2; rw [hP])
    | (go_at_call 95; (with_reducible refine (rvalid_any _ _ _ HU.out.1.1 HU.out.1.2).mono ?_); rintro e w4 ⟨rfl, hb4⟩; rw [hV]; have hr4 := below_next hr hb4; clear hb4))
      go_ret
      exact ⟨by rw [HR.out]; rfl, below_next HB1.out hr4⟩
    | true =>
      by_cases hq : 0 ≤ q1 ∧ q1 ≤ 65535
      · have hq0 : ¬ q1 < 0 := by omega
        have hq1 : ¬ 65535 < q1 := by omega
        have hq2 : q1 ≤ 65535 := hq.2
        have hco : costOk q1 = true := by simp [costOk, hq]
        cases hG : Ad.group v1 with
        | true =>
          have HR : Hid (ocode x.rs.length (r1, a1, b1, v1, q1) = 113) := Lib.hid (by simp [ocode, HN.out, hP, hV, hco, oneA, hG])
          clear hco
          go_wp2_with (first
    | (go_at_call 97; (with_reducible refine (place_any _ _ _).mono ?_); rintro e w2 ⟨rfl, hw2⟩; obtain rfl := hw2; rw [hP])
    | (go_at_call 95; (with_reducible refine (rvalid_any _ _ _ HU.out.1.1 HU.out.1.2).mono ?_); rintro e w4 ⟨rfl, hb4⟩; rw [hV]; have hr4 := below_next hr hb4; clear hb4)
    | (go_at_call 99; (with_reducible refine (rgroup_any _ _ HU.out.2.1 HU.out.2.2).mono ?_); rintro e w3 ⟨rfl, hw3⟩; obtain rfl := hw3; rw [hG]))
          go_ret
          exact ⟨by rw [HR.out]; rfl, below_next HB1.out hr4⟩
        | false =>
          by_cases hz : v1 = 0
          · have HR : Hid (ocode x.rs.length (r1, a1, b1, v1, q1) = 113) := Lib.hid (by simp [ocode, HN.out, hP, hV, hco, oneA, hz])
            have hz' : (v1 == 0) = true := by simp [hz]
            clear hco hz
            go_wp2_with (first
    | (go_at_call 97; (with_reducible refine (place_any _ _ _).mono ?_); rintro e w2 ⟨rfl, hw2⟩; obtain rfl := hw2; rw [hP])
    | (go_at_call 95; (with_reducible refine (rvalid_any _ _ _ HU.out.1.1 HU.out.1.2).mono ?_); rintro e w4 ⟨rfl, hb4⟩; rw [hV]; have hr4 := below_next hr hb4; clear hb4)
    | (go_at_call 99; (with_reducible refine (rgroup_any _ _ HU.out.2.1 HU.out.2.2).mono ?_); rintro e w3 ⟨rfl, hw3⟩; obtain rfl := hw3; rw [hG]))
            go_ret
            exact ⟨by rw [HR.out]; rfl, below_next HB1.out hr4⟩
          · have HR : Hid (ocode x.rs.length (r1, a1, b1, v1, q1) = 0) := Lib.hid (by simp [ocode, HN.out, hP, hV, hco, oneA, hG, hz])
            have hz' : (v1 == 0) = false := by simp [hz]
            clear hco hz
            go_wp2_with (first
    | (go_at_call 97; (with_reducible refine (place_any _ _ _).mono ?_); rintro e w2 ⟨rfl, hw2⟩; obtain rfl := hw2; rw [hP])
    | (go_at_call 95; (with_reducible refine (rvalid_any _ _ _ HU.out.1.1 HU.out.1.2).mono ?_); rintro e w4 ⟨rfl, hb4⟩; rw [hV]; have hr4 := below_next hr hb4; clear hb4)
    | (go_at_call 99; (with_reducible refine (rgroup_any _ _ HU.out.2.1 HU.out.2.2).mono ?_); rintro e w3 ⟨rfl, hw3⟩; obtain rfl := hw3; rw [hG]))
            go_ret
            exact ⟨by rw [HR.out]; rfl, below_next HB1.out hr4⟩
      · have hco : costOk q1 = false := by simp [costOk]; omega
        have HR : Hid (ocode x.rs.length (r1, a1, b1, v1, q1) = 103) := Lib.hid (by simp [ocode, HN.out, hP, hV, hco])
        clear hco
        by_cases hq0 : q1 < 0
        · clear hq
          go_wp2_with (first
    | (go_at_call 97; (with_reducible refine (place_any _ _ _).mono ?_); rintro e w2 ⟨rfl, hw2⟩; obtain rfl := hw2; rw [hP])
    | (go_at_call 95; (with_reducible refine (rvalid_any _ _ _ HU.out.1.1 HU.out.1.2).mono ?_); rintro e w4 ⟨rfl, hb4⟩; rw [hV]; have hr4 := below_next hr hb4; clear hb4))
          go_ret
          exact ⟨by rw [HR.out]; rfl, below_next HB1.out hr4⟩
        · have hq1 : 65535 < q1 := by omega
          clear hq
          go_wp2_with (first
    | (go_at_call 97; (with_reducible refine (place_any _ _ _).mono ?_); rintro e w2 ⟨rfl, hw2⟩; obtain rfl := hw2; rw [hP])
    | (go_at_call 95; (with_reducible refine (rvalid_any _ _ _ HU.out.1.1 HU.out.1.2).mono ?_); rintro e w4 ⟨rfl, hb4⟩; rw [hV]; have hr4 := below_next hr hb4; clear hb4))
          go_ret
          exact ⟨by rw [HR.out]; rfl, below_next HB1.out hr4⟩
theorem any_next {α : Type} {p : α → Bool} {xs : List α} {k : Nat} {y : α} (h : xs[k]? = some y) : (xs.take (k + 1)).any p = ((xs.take k).any p || p y) := by rw [List.take_add_one, h]; simp
theorem any_hit {α : Type} {p : α → Bool} {xs : List α} {k i : Nat} {y : α} (h : xs[k]? = some y) (hk : k < i) (hp : p y = true) : (xs.take i).any p = true := by
  rw [List.any_eq_true]
  refine ⟨y, ?_, hp⟩
  rw [List.mem_iff_getElem?]
  exact ⟨k, by rw [List.getElem?_take, if_pos hk]; exact h⟩
set_option maxRecDepth 100000 in
set_option maxHeartbeats 4000000 in
theorem drouter_any (M : Cm) (x : Cfg) (i : Nat) (w : World) (h : CW w M x) (hi : i < x.rs.length) (hs : ∀ y ∈ x.rs, (str y.1).size ≤ 281474976710656) :
    Calls Tryz.prog 45 #[.agg #[.slice M.r.A M.r.n M.r.c, .slice M.l.A M.l.n M.l.c, .slice M.p.A M.p.n M.p.c, .slice M.o.A M.o.n M.o.c, .slice M.g.A M.g.n M.g.c, .slice M.s.A M.s.n M.s.c, .slice M.m.A M.m.n M.m.c], .int .i64 (i : Int)] w fun e w' => e = .returned (.int .i64 (atC (rcode) x.rs i)) ∧ Below w.heap.size w w' := by
  obtain ⟨b, o, ⟨s1, r1⟩, hA, hb, hx, e0, e1⟩ := IRouter.cells h.r (i := i) (by have := h.r.1; omega)
  have HC := Lib.hid (atC_at (f := rcode) hx)
  have HX := Lib.hid hx
  have hi0 : (i : Int) < (M.r.n : Int) := by have := h.r.1; omega
  have hi1 : (0 : Int) ≤ (i : Int) := by omega
  have H := Lib.hid h
  have HA := Lib.hid hA
  clear hA
  obtain ⟨W0, hW0, hb0, hk0⟩ := lay1 w #[.slice M.r.A M.r.n M.r.c, .slice M.l.A M.l.n M.l.c, .slice M.p.A M.p.n M.p.c, .slice M.o.A M.o.n M.o.c, .slice M.g.A M.g.n M.g.c, .slice M.s.A M.s.n M.s.c, .slice M.m.A M.m.n M.m.c] 32
  obtain ⟨W1, hW1, hb1, hk1⟩ := lay1 W0 #[.string (str s1), .int .i64 r1] 60
  have HB0 := Lib.hid hb0
  have HB1 := Lib.hid (below_next hb0 hb1)
  have HK0 := Lib.hid (hk0.next hb1)
  have HK1 := Lib.hid hk1
  have HW1 := Lib.hid hW1
  rw [HC.out]
  clear h hx hb1 hk1 hW1
  go_enter Tryz.func45, Tryz.ntmps45
  go_upto_region 1 with fail
  rw [← hW0]
  have y0 : W0.cell? ⟨w.heap.size, 0, none⟩ = some (.slice M.r.A M.r.n M.r.c) := hk0.cell 0
  rw [HA.out] at y0
  replace e0 := dcell_up e0 hb0
  replace e1 := dcell_up e1 hb0
  clear hW0 hb0 hk0
  go_upto_region 2 with fail
  rw [← HW1.out]
  clear y0 e0 e1 HW1 hb
  have hr := Below.refl W1.heap.size W1
  have k0 : ∀ W, Below W1.heap.size W1 W → W.cell? ⟨W0.heap.size, 0, none⟩ = some (.string (str s1)) := fun W hW => (HK1.out.next hW).cell 0
  have k1 : ∀ W, Below W1.heap.size W1 W → W.cell? ⟨W0.heap.size, 1, none⟩ = some (.int .i64 r1) := fun W hW => (HK1.out.next hW).cell 1
  have cr : ∀ W, Below W1.heap.size W1 W → W.cell? ⟨w.heap.size, 0, none⟩ = some (.slice M.r.A M.r.n M.r.c) := fun W hW => (HK0.out.next hW).cell 0
  have HS := Lib.hid (hs _ (List.mem_of_getElem? HX.out))
  have hin : i ≤ M.r.n := by have := H.out.r.1; omega
  have hib : i ≤ 1000000 := by have := H.out.rok.2; omega
  dsimp only at HS
  clear hs hi
  cases hM : nameOk s1 with
  | false =>
    have HR : Hid (rcode (s1, r1) (x.rs.take i) = 109) := Lib.hid (by simp [rcode, hM])
    have hN : nmC (nameOk (str s1).data.toList) = 109 := by rw [str_data, hM]; rfl
    clear hM
    go_wp2_with (go_at_call 94; (with_reducible refine (rname_big _ _ HS.out).mono ?_); rintro e w2 ⟨rfl, hw2⟩; obtain rfl := hw2; rw [hN])
    go_ret
    exact ⟨by rw [HR.out]; rfl, HB1.out⟩
  | true =>
    have hN : nmC (nameOk (str s1).data.toList) = 0 := by rw [str_data, hM]; rfl
    have HM := Lib.hid hM
    clear hM
    go_wp2_with (go_at_call 94; (with_reducible refine (rname_big _ _ HS.out).mono ?_); rintro e w2 ⟨rfl, hw2⟩; obtain rfl := hw2; rw [hN])
    go_loopw [6] (fun iv wr => ∃ k : Nat, k ≤ i ∧ iv = .int .i64 k ∧ Hid (((x.rs.take k).any fun y => y.1 == s1) = false) ∧ Hid (Below W1.heap.size W1 wr)) (fun iv _ => i - (intOf iv).toNat)
    case atStart => exact ⟨0, by omega, rfl, Lib.hid rfl, Lib.hid (Below.refl _ _)⟩
    case round =>
      obtain ⟨k, hk, rfl, HN, HB⟩ := hrel
      rcases Nat.lt_or_ge k i with hlt | hge
      · obtain ⟨bk, ok, ⟨s2, r2⟩, hA2, hbk, hxk, f0, f1⟩ := IRouter.cells (IR.next H.out.r (below_next HB1.out HB.out)) (i := k) (by omega)
        have HXK := Lib.hid hxk
        have crp : ∀ p : Snc wr, p.W.cell? ⟨w.heap.size, 0, none⟩ = some (.slice (some ⟨bk, ok, none⟩) M.r.n M.r.c) := fun p => by rw [← hA2]; exact cr _ (below_next HB.out p.b)
        have k0p : ∀ p : Snc wr, p.W.cell? ⟨W0.heap.size, 0, none⟩ = some (.string (str s1)) := fun p => k0 _ (below_next HB.out p.b)
        have f0p := Snc.all fun W (hW : Below wr.heap.size wr W) => (hW.cell (p := ⟨bk, ok + k * 2, none⟩) hbk).trans f0
        have l1 : (k : Int) < (i : Int) := by omega
        have l2 : (k : Int) < (M.r.n : Int) := by omega
        have l3 : (0 : Int) ≤ (k : Int) := by omega
        clear hxk hA2 f0 f1 hbk hr k0 k1 cr
        cases hV : (s2 == s1) with
        | true =>
          have he : ((str s2).toList == (str s1).toList) = true := by rw [str_beq]; exact hV
          have HR : Hid (rcode (s1, r1) (x.rs.take i) = 110) := Lib.hid (by
            have h2 := any_hit (p := fun y => y.1 == s1) HXK.out hlt hV
            simp only [rcode, HM.out, h2, if_true, Bool.true_eq_false, if_false])
          clear hV
          go_upto_region 7 with fail
          refine wp_region_since (by kernel_rfl) (by kernel_rfl) ?_
          repeat (go_big_quiet_step (fail))
          refine wpQuiet_nil ?_
          rintro w5 ⟨P5, rfl⟩
          have HB5 := Lib.hid (below_next HB.out P5.b)
          clear crp k0p f0p he
          go_wp2
          first | go_ret2 | go_ret
          exact ⟨by rw [HR.out]; rfl, below_next HB1.out HB5.out⟩
        | false =>
          have he : ((str s2).toList == (str s1).toList) = false := by rw [str_beq]; exact hV
          have HN2 : Hid (((x.rs.take (k + 1)).any fun y => y.1 == s1) = false) := Lib.hid (by rw [any_next HXK.out, HN.out]; exact hV)
          clear hV
          go_upto_region 7 with fail
          refine wp_region_since (by kernel_rfl) (by kernel_rfl) ?_
          repeat (go_big_quiet_step (fail))
          refine wpQuiet_nil ?_
          rintro w5 ⟨P5, rfl⟩
          have HB5 := Lib.hid (below_next HB.out P5.b)
          clear crp k0p f0p he
          go_wp2
          go_roundw
          case rel => exact ⟨k + 1, by omega, by go_num, HN2, HB5⟩
          case measure => simp [intOf]; omega
      · obtain rfl : i = k := by omega
        have hd : decide ((i : Int) < (i : Int)) = false := by simp
        have hr := HB.out
        by_cases hq : 0 ≤ r1 ∧ r1 ≤ 65535
        · have hq0 : ¬ r1 < 0 := by omega
          have hq1 : ¬ 65535 < r1 := by omega
          have HR : Hid (rcode (s1, r1) (x.rs.take i) = 0) := Lib.hid (by simp only [rcode, HM.out, HN.out, costOk]; simp [hq])
          clear hq
          go_wp2
          first | go_ret2 | go_ret
          exact ⟨by rw [HR.out]; rfl, below_next HB1.out HB.out⟩
        · have HR : Hid (rcode (s1, r1) (x.rs.take i) = 103) := Lib.hid (by simp only [rcode, HM.out, HN.out, costOk]; simp [hq])
          by_cases hq0 : r1 < 0
          · clear hq
            go_wp2
            first | go_ret2 | go_ret
            exact ⟨by rw [HR.out]; rfl, below_next HB1.out HB.out⟩
          · have hq1 : 65535 < r1 := by omega
            clear hq
            go_wp2
            first | go_ret2 | go_ret
            exact ⟨by rw [HR.out]; rfl, below_next HB1.out HB.out⟩
set_option maxRecDepth 100000 in
set_option maxHeartbeats 4000000 in
theorem dlink_any (M : Cm) (x : Cfg) (i : Nat) (w : World) (h : CW w M x) (hi : i < x.ls.length) (hs : ∀ y ∈ x.ls, (str y.1).size ≤ 281474976710656) :
    Calls Tryz.prog 46 #[.agg #[.slice M.r.A M.r.n M.r.c, .slice M.l.A M.l.n M.l.c, .slice M.p.A M.p.n M.p.c, .slice M.o.A M.o.n M.o.c, .slice M.g.A M.g.n M.g.c, .slice M.s.A M.s.n M.s.c, .slice M.m.A M.m.n M.m.c], .int .i64 (i : Int)] w fun e w' => e = .returned (.int .i64 (atC (lcode) x.ls i)) ∧ Below w.heap.size w w' := by
  obtain ⟨b, o, ⟨s1, a1, b1⟩, hA, hb, hx, e0, e1, e2⟩ := ILink.cells h.l (i := i) (by have := h.l.1; omega)
  have HC := Lib.hid (atC_at (f := lcode) hx)
  have HX := Lib.hid hx
  have hi0 : (i : Int) < (M.l.n : Int) := by have := h.l.1; omega
  have hi1 : (0 : Int) ≤ (i : Int) := by omega
  have H := Lib.hid h
  have HA := Lib.hid hA
  clear hA
  obtain ⟨W0, hW0, hb0, hk0⟩ := lay1 w #[.slice M.r.A M.r.n M.r.c, .slice M.l.A M.l.n M.l.c, .slice M.p.A M.p.n M.p.c, .slice M.o.A M.o.n M.o.c, .slice M.g.A M.g.n M.g.c, .slice M.s.A M.s.n M.s.c, .slice M.m.A M.m.n M.m.c] 32
  obtain ⟨W1, hW1, hb1, hk1⟩ := lay1 W0 #[.string (str s1), .int .u32 a1, .int .i64 b1] 56
  have HB0 := Lib.hid hb0
  have HB1 := Lib.hid (below_next hb0 hb1)
  have HK0 := Lib.hid (hk0.next hb1)
  have HK1 := Lib.hid hk1
  have HW1 := Lib.hid hW1
  rw [HC.out]
  clear h hx hb1 hk1 hW1
  go_enter Tryz.func46, Tryz.ntmps46
  go_upto_region 1 with fail
  rw [← hW0]
  have y0 : W0.cell? ⟨w.heap.size, 1, none⟩ = some (.slice M.l.A M.l.n M.l.c) := hk0.cell 1
  rw [HA.out] at y0
  replace e0 := dcell_up e0 hb0
  replace e1 := dcell_up e1 hb0
  replace e2 := dcell_up e2 hb0
  clear hW0 hb0 hk0
  go_upto_region 2 with fail
  rw [← HW1.out]
  clear y0 e0 e1 e2 HW1 hb
  have hr := Below.refl W1.heap.size W1
  have k0 : ∀ W, Below W1.heap.size W1 W → W.cell? ⟨W0.heap.size, 0, none⟩ = some (.string (str s1)) := fun W hW => (HK1.out.next hW).cell 0
  have k1 : ∀ W, Below W1.heap.size W1 W → W.cell? ⟨W0.heap.size, 1, none⟩ = some (.int .u32 a1) := fun W hW => (HK1.out.next hW).cell 1
  have k2 : ∀ W, Below W1.heap.size W1 W → W.cell? ⟨W0.heap.size, 2, none⟩ = some (.int .i64 b1) := fun W hW => (HK1.out.next hW).cell 2
  have cl : ∀ W, Below W1.heap.size W1 W → W.cell? ⟨w.heap.size, 1, none⟩ = some (.slice M.l.A M.l.n M.l.c) := fun W hW => (HK0.out.next hW).cell 1
  have HS := Lib.hid (hs _ (List.mem_of_getElem? HX.out))
  have hin : i ≤ M.l.n := by have := H.out.l.1; omega
  have hib : i ≤ 1000000 := by have := H.out.lok.2; omega
  dsimp only at HS
  clear hs hi
  cases hM : nameOk s1 with
  | false =>
    have HR : Hid (lcode (s1, a1, b1) (x.ls.take i) = 109) := Lib.hid (by simp [lcode, hM])
    have hN : nmC (nameOk (str s1).data.toList) = 109 := by rw [str_data, hM]; rfl
    clear hM
    go_wp2_with (go_at_call 94; (with_reducible refine (rname_big _ _ HS.out).mono ?_); rintro e w2 ⟨rfl, hw2⟩; obtain rfl := hw2; rw [hN])
    go_ret
    exact ⟨by rw [HR.out]; rfl, HB1.out⟩
  | true =>
    have hN : nmC (nameOk (str s1).data.toList) = 0 := by rw [str_data, hM]; rfl
    have HM := Lib.hid hM
    clear hM
    go_wp2_with (go_at_call 94; (with_reducible refine (rname_big _ _ HS.out).mono ?_); rintro e w2 ⟨rfl, hw2⟩; obtain rfl := hw2; rw [hN])
    go_loopw [6] (fun iv wr => ∃ k : Nat, k ≤ i ∧ iv = .int .i64 k ∧ Hid (((x.ls.take k).any fun y => y.1 == s1) = false) ∧ Hid (Below W1.heap.size W1 wr)) (fun iv _ => i - (intOf iv).toNat)
    case atStart => exact ⟨0, by omega, rfl, Lib.hid rfl, Lib.hid (Below.refl _ _)⟩
    case round =>
      obtain ⟨k, hk, rfl, HN, HB⟩ := hrel
      rcases Nat.lt_or_ge k i with hlt | hge
      · obtain ⟨bk, ok, ⟨s2, r2, u2⟩, hA2, hbk, hxk, f0, f1, f2⟩ := ILink.cells (IR.next H.out.l (below_next HB1.out HB.out)) (i := k) (by omega)
        have HXK := Lib.hid hxk
        have crp : ∀ p : Snc wr, p.W.cell? ⟨w.heap.size, 1, none⟩ = some (.slice (some ⟨bk, ok, none⟩) M.l.n M.l.c) := fun p => by rw [← hA2]; exact cl _ (below_next HB.out p.b)
        have k0p : ∀ p : Snc wr, p.W.cell? ⟨W0.heap.size, 0, none⟩ = some (.string (str s1)) := fun p => k0 _ (below_next HB.out p.b)
        have f0p := Snc.all fun W (hW : Below wr.heap.size wr W) => (hW.cell (p := ⟨bk, ok + k * 3, none⟩) hbk).trans f0
        have l1 : (k : Int) < (i : Int) := by omega
        have l2 : (k : Int) < (M.l.n : Int) := by omega
        have l3 : (0 : Int) ≤ (k : Int) := by omega
        clear hxk hA2 f0 f1 f2 hbk hr k0 k1 k2 cl
        cases hV : (s2 == s1) with
        | true =>
          have he : ((str s2).toList == (str s1).toList) = true := by rw [str_beq]; exact hV
          have HR : Hid (lcode (s1, a1, b1) (x.ls.take i) = 110) := Lib.hid (by
            have h2 := any_hit (p := fun y => y.1 == s1) HXK.out hlt hV
            simp only [lcode, HM.out, h2, if_true, Bool.true_eq_false, if_false])
          clear hV
          go_upto_region 7 with fail
          refine wp_region_since (by kernel_rfl) (by kernel_rfl) ?_
          repeat (go_big_quiet_step (fail))
          refine wpQuiet_nil ?_
          rintro w5 ⟨P5, rfl⟩
          have HB5 := Lib.hid (below_next HB.out P5.b)
          clear crp k0p f0p he
          go_wp2
          first | go_ret2 | go_ret
          exact ⟨by rw [HR.out]; rfl, below_next HB1.out HB5.out⟩
        | false =>
          have he : ((str s2).toList == (str s1).toList) = false := by rw [str_beq]; exact hV
          have HN2 : Hid (((x.ls.take (k + 1)).any fun y => y.1 == s1) = false) := Lib.hid (by rw [any_next HXK.out, HN.out]; exact hV)
          clear hV
          go_upto_region 7 with fail
          refine wp_region_since (by kernel_rfl) (by kernel_rfl) ?_
          repeat (go_big_quiet_step (fail))
          refine wpQuiet_nil ?_
          rintro w5 ⟨P5, rfl⟩
          have HB5 := Lib.hid (below_next HB.out P5.b)
          clear crp k0p f0p he
          go_wp2
          go_roundw
          case rel => exact ⟨k + 1, by omega, by go_num, HN2, HB5⟩
          case measure => simp [intOf]; omega
      · obtain rfl : i = k := by omega
        have hd : decide ((i : Int) < (i : Int)) = false := by simp
        have hr := HB.out
        have HU : Hid (0 ≤ a1 ∧ a1 ≤ 4294967295) := Lib.hid (H.out.ok.1 _ (List.mem_of_getElem? HX.out))
        cases hV : Ad.valid a1 b1 with
        | false =>
          have HR : Hid (lcode (s1, a1, b1) (x.ls.take i) = 103) := Lib.hid (by simp only [lcode, HM.out, HN.out, hV]; simp)
          go_wp2_with (go_at_call 95; (with_reducible refine (rvalid_any _ _ _ HU.out.1 HU.out.2).mono ?_); rintro e w4 ⟨rfl, hb4⟩; rw [hV]; have hr4 := below_next hr hb4; clear hb4)
          first | go_ret2 | go_ret
          exact ⟨by rw [HR.out]; rfl, below_next HB1.out hr4⟩
        | true =>
          have HV := Lib.hid hV
          go_upto_region 11 with (go_at_call 95; (with_reducible refine (rvalid_any _ _ _ HU.out.1 HU.out.2).mono ?_); rintro e w4 ⟨rfl, hb4⟩; rw [hV]; have hr4 := below_next hr hb4; clear hb4)
          have HB4 := Lib.hid (below_next HB1.out hr4)
          have k1p : ∀ p : Snc w4, p.W.cell? ⟨W0.heap.size, 1, none⟩ = some (.int .u32 a1) := fun p => k1 _ (below_next hr4 p.b)
          have k2p : ∀ p : Snc w4, p.W.cell? ⟨W0.heap.size, 2, none⟩ = some (.int .i64 b1) := fun p => k2 _ (below_next hr4 p.b)
          have G0 : ∀ p : Snc w4, Calls Tryz.prog 17 #[] p.W fun e w' => e = .returned (.agg #[.int .u32 3758096384, .int .i64 4]) ∧ ∃ q : Snc w4, w' = q.W := fun p => Calls.since (rgroups_any p.W)
          have G1 : ∀ p : Snc w4, Calls Tryz.prog 96 #[.agg #[.int .u32 a1, .int .i64 b1], .agg #[.int .u32 3758096384, .int .i64 4]] p.W fun e w' => e = .returned (.bool (Ad.within a1 b1 3758096384 4)) ∧ ∃ q : Snc w4, w' = q.W := fun p => Calls.since (rwithin_any a1 b1 3758096384 4 p.W HU.out.1 HU.out.2 (by decide) (by decide))
          have G2 : ∀ p : Snc w4, Calls Tryz.prog 96 #[.agg #[.int .u32 3758096384, .int .i64 4], .agg #[.int .u32 a1, .int .i64 b1]] p.W fun e w' => e = .returned (.bool (Ad.within 3758096384 4 a1 b1)) ∧ ∃ q : Snc w4, w' = q.W := fun p => Calls.since (rwithin_any 3758096384 4 a1 b1 p.W (by decide) (by decide) HU.out.1 HU.out.2)
          have HR0 : Hid (lcode (s1, a1, b1) (x.ls.take i) = if Ad.within a1 b1 3758096384 4 then 113 else if Ad.within 3758096384 4 a1 b1 then 113 else 0) := Lib.hid (by simp only [lcode, HM.out, HN.out, HV.out]; simp)
          clear k0 k1 k2 hV hr hd
          cases hw1 : Ad.within a1 b1 3758096384 4 with
          | true =>
            rw [hw1] at G1 HR0
            have HR : Hid (lcode (s1, a1, b1) (x.ls.take i) = 113) := Lib.hid (by rw [HR0.out]; rfl)
            clear hw1
            refine wp_region_since (by kernel_rfl) (by kernel_rfl) ?_
            repeat (go_big_quiet_step (first | (go_at_call 17; exact G0 _) | (go_at_call 96; (first | with_reducible exact G1 _ | with_reducible exact G2 _))))
            refine wpQuiet_nil ?_
            rintro w5 ⟨P5, rfl⟩
            have HB5 := Lib.hid (below_next HB4.out P5.b)
            clear G0 G1 G2 k1p k2p
            go_wp2
            first | go_ret2 | go_ret
            exact ⟨by rw [HR.out]; rfl, HB5.out⟩
          | false =>
            rw [hw1] at G1 HR0
            cases hw2 : Ad.within 3758096384 4 a1 b1 with
            | true =>
              rw [hw2] at G2 HR0
              have HR : Hid (lcode (s1, a1, b1) (x.ls.take i) = 113) := Lib.hid (by rw [HR0.out]; rfl)
              clear hw1 hw2
              refine wp_region_since (by kernel_rfl) (by kernel_rfl) ?_
              repeat (go_big_quiet_step (first | (go_at_call 17; exact G0 _) | (go_at_call 96; (first | with_reducible exact G1 _ | with_reducible exact G2 _))))
              refine wpQuiet_nil ?_
              rintro w5 ⟨P5, rfl⟩
              have HB5 := Lib.hid (below_next HB4.out P5.b)
              clear G0 G1 G2 k1p k2p
              go_wp2
              first | go_ret2 | go_ret
              exact ⟨by rw [HR.out]; rfl, HB5.out⟩
            | false =>
              rw [hw2] at G2 HR0
              have HR : Hid (lcode (s1, a1, b1) (x.ls.take i) = 0) := Lib.hid (by rw [HR0.out]; rfl)
              clear hw1 hw2
              refine wp_region_since (by kernel_rfl) (by kernel_rfl) ?_
              repeat (go_big_quiet_step (first | (go_at_call 17; exact G0 _) | (go_at_call 96; (first | with_reducible exact G1 _ | with_reducible exact G2 _))))
              refine wpQuiet_nil ?_
              rintro w5 ⟨P5, rfl⟩
              have HB5 := Lib.hid (below_next HB4.out P5.b)
              clear G0 G1 G2 k1p k2p
              go_wp2
              first | go_ret2 | go_ret
              exact ⟨by rw [HR.out]; rfl, HB5.out⟩
set_option maxRecDepth 100000 in
set_option maxHeartbeats 4000000 in
theorem dgroups_any (M : Cm) (x : Cfg) (i : Nat) (w : World) (h : CW w M x) (hi : i < x.gs.length) :
    Calls Tryz.prog 49 #[.agg #[.slice M.r.A M.r.n M.r.c, .slice M.l.A M.l.n M.l.c, .slice M.p.A M.p.n M.p.c, .slice M.o.A M.o.n M.o.c, .slice M.g.A M.g.n M.g.c, .slice M.s.A M.s.n M.s.c, .slice M.m.A M.m.n M.m.c], .int .i64 (i : Int)] w fun e w' => e = .returned (.int .i64 (atC (gcode) x.gs i)) ∧ Below w.heap.size w w' := by
  obtain ⟨b, o, ⟨a1, b1, r1⟩, hA, hb, hx, e0, e1, e2⟩ := IRange.cells h.g (i := i) (by have := h.g.1; omega)
  have HC := Lib.hid (atC_at (f := gcode) hx)
  have HX := Lib.hid hx
  have hi0 : (i : Int) < (M.g.n : Int) := by have := h.g.1; omega
  have hi1 : (0 : Int) ≤ (i : Int) := by omega
  have H := Lib.hid h
  have HA := Lib.hid hA
  clear hA
  obtain ⟨W0, hW0, hb0, hk0⟩ := lay1 w #[.slice M.r.A M.r.n M.r.c, .slice M.l.A M.l.n M.l.c, .slice M.p.A M.p.n M.p.c, .slice M.o.A M.o.n M.o.c, .slice M.g.A M.g.n M.g.c, .slice M.s.A M.s.n M.s.c, .slice M.m.A M.m.n M.m.c] 32
  obtain ⟨W1, hW1, hb1, hk1⟩ := lay1 W0 #[.int .u32 a1, .int .i64 b1, .int .u32 r1] 40
  have HB0 := Lib.hid hb0
  have HB1 := Lib.hid (below_next hb0 hb1)
  have HK0 := Lib.hid (hk0.next hb1)
  have HK1 := Lib.hid hk1
  have HW1 := Lib.hid hW1
  rw [HC.out]
  clear h hx hb1 hk1 hW1
  go_enter Tryz.func49, Tryz.ntmps49
  go_upto_region 1 with fail
  rw [← hW0]
  have y0 : W0.cell? ⟨w.heap.size, 4, none⟩ = some (.slice M.g.A M.g.n M.g.c) := hk0.cell 4
  rw [HA.out] at y0
  replace e0 := dcell_up e0 hb0
  replace e1 := dcell_up e1 hb0
  replace e2 := dcell_up e2 hb0
  clear hW0 hb0 hk0
  go_upto_region 2 with fail
  rw [← HW1.out]
  clear y0 e0 e1 e2 HW1 hb
  have hr := Below.refl W1.heap.size W1
  have k0 : ∀ W, Below W1.heap.size W1 W → W.cell? ⟨W0.heap.size, 0, none⟩ = some (.int .u32 a1) := fun W hW => (HK1.out.next hW).cell 0
  have k1 : ∀ W, Below W1.heap.size W1 W → W.cell? ⟨W0.heap.size, 1, none⟩ = some (.int .i64 b1) := fun W hW => (HK1.out.next hW).cell 1
  have k2 : ∀ W, Below W1.heap.size W1 W → W.cell? ⟨W0.heap.size, 2, none⟩ = some (.int .u32 r1) := fun W hW => (HK1.out.next hW).cell 2
  have cg : ∀ W, Below W1.heap.size W1 W → W.cell? ⟨w.heap.size, 4, none⟩ = some (.slice M.g.A M.g.n M.g.c) := fun W hW => (HK0.out.next hW).cell 4
  have HU0 := Lib.hid (H.out.ok.2.2.2.1 _ (List.mem_of_getElem? HX.out))
  have HU : Hid (0 ≤ a1 ∧ a1 ≤ 4294967295) := Lib.hid HU0.out.1
  have HU2 : Hid (0 ≤ r1 ∧ r1 ≤ 4294967295) := Lib.hid HU0.out.2
  have hin : i ≤ M.g.n := by have := H.out.g.1; omega
  have hib : i ≤ 1000000 := by have := H.out.gok.2; omega
  clear hi
  cases hV : Ad.valid a1 b1 with
  | false =>
    have HR : Hid (gcode (a1, b1, r1) (x.gs.take i) = 103) := Lib.hid (by simp [gcode, hV])
    go_wp2_with (go_at_call 95; (with_reducible refine (rvalid_any _ _ _ HU.out.1 HU.out.2).mono ?_); rintro e w4 ⟨rfl, hb4⟩; rw [hV]; have hr4 := below_next hr hb4; clear hb4)
    go_ret
    exact ⟨by rw [HR.out]; rfl, below_next HB1.out hr4⟩
  | true =>
    have HV := Lib.hid hV
    go_upto_region 4 with (go_at_call 95; (with_reducible refine (rvalid_any _ _ _ HU.out.1 HU.out.2).mono ?_); rintro e w4 ⟨rfl, hb4⟩; rw [hV]; have hr4 := below_next hr hb4; clear hb4)
    have HB4 := Lib.hid (below_next HB1.out hr4)
    have HR4 := Lib.hid hr4
    have k0p : ∀ p : Snc w4, p.W.cell? ⟨W0.heap.size, 0, none⟩ = some (.int .u32 a1) := fun p => k0 _ (below_next hr4 p.b)
    have k1p : ∀ p : Snc w4, p.W.cell? ⟨W0.heap.size, 1, none⟩ = some (.int .i64 b1) := fun p => k1 _ (below_next hr4 p.b)
    have k2p : ∀ p : Snc w4, p.W.cell? ⟨W0.heap.size, 2, none⟩ = some (.int .u32 r1) := fun p => k2 _ (below_next hr4 p.b)
    have G0 : ∀ p : Snc w4, Calls Tryz.prog 17 #[] p.W fun e w' => e = .returned (.agg #[.int .u32 3758096384, .int .i64 4]) ∧ ∃ q : Snc w4, w' = q.W := fun p => Calls.since (rgroups_any p.W)
    have G1 : ∀ p : Snc w4, Calls Tryz.prog 96 #[.agg #[.int .u32 a1, .int .i64 b1], .agg #[.int .u32 3758096384, .int .i64 4]] p.W fun e w' => e = .returned (.bool (Ad.within a1 b1 3758096384 4)) ∧ ∃ q : Snc w4, w' = q.W := fun p => Calls.since (rwithin_any a1 b1 3758096384 4 p.W HU.out.1 HU.out.2 (by decide) (by decide))
    have G3 : ∀ p : Snc w4, Calls Tryz.prog 99 #[.int .u32 r1] p.W fun e w' => e = .returned (.bool (Ad.group r1)) ∧ ∃ q : Snc w4, w' = q.W := fun p => Calls.since_same (rgroup_any r1 p.W HU2.out.1 HU2.out.2)
    have KK := Lib.hid (And.intro k0 (And.intro k1 cg))
    clear k0 k1 k2 cg hr hr4 hV
    cases hw : Ad.within a1 b1 3758096384 4 with
    | false =>
      rw [hw] at G1
      have HR : Hid (gcode (a1, b1, r1) (x.gs.take i) = 113) := Lib.hid (by simp [gcode, HV.out, hw])
      clear hw
      refine wp_region_since (by kernel_rfl) (by kernel_rfl) ?_
      repeat (go_big_quiet_step (first | (go_at_call 17; exact G0 _) | (go_at_call 96; with_reducible exact G1 _) | (go_at_call 99; with_reducible exact G3 _)))
      refine wpQuiet_nil ?_
      rintro w5 ⟨P5, rfl⟩
      have HB5 := Lib.hid (below_next HB4.out P5.b)
      clear G0 G1 G3 k0p k1p k2p
      go_wp2
      first | go_ret2 | go_ret
      exact ⟨by rw [HR.out]; rfl, HB5.out⟩
    | true =>
      rw [hw] at G1
      have HW := Lib.hid hw
      clear hw
      cases hG : Ad.group r1 with
      | true =>
        rw [hG] at G3
        have HR : Hid (gcode (a1, b1, r1) (x.gs.take i) = 113) := Lib.hid (by simp [gcode, HV.out, HW.out, oneA, hG])
        clear hG
        refine wp_region_since (by kernel_rfl) (by kernel_rfl) ?_
        repeat (go_big_quiet_step (first | (go_at_call 17; exact G0 _) | (go_at_call 96; with_reducible exact G1 _) | (go_at_call 99; with_reducible exact G3 _)))
        refine wpQuiet_nil ?_
        rintro w5 ⟨P5, rfl⟩
        have HB5 := Lib.hid (below_next HB4.out P5.b)
        clear G0 G1 G3 k0p k1p k2p
        go_wp2
        first | go_ret2 | go_ret
        exact ⟨by rw [HR.out]; rfl, HB5.out⟩
      | false =>
        rw [hG] at G3
        have HG := Lib.hid hG
        clear hG
        by_cases hz : r1 = 0
        · have HR : Hid (gcode (a1, b1, r1) (x.gs.take i) = 113) := Lib.hid (by simp [gcode, HV.out, HW.out, oneA, hz])
          have hz' : (r1 == 0) = true := by simp [hz]
          clear hz
          refine wp_region_since (by kernel_rfl) (by kernel_rfl) ?_
          repeat (go_big_quiet_step (first | (go_at_call 17; exact G0 _) | (go_at_call 96; with_reducible exact G1 _) | (go_at_call 99; with_reducible exact G3 _)))
          refine wpQuiet_nil ?_
          rintro w5 ⟨P5, rfl⟩
          have HB5 := Lib.hid (below_next HB4.out P5.b)
          clear G0 G1 G3 k0p k1p k2p hz'
          go_wp2
          first | go_ret2 | go_ret
          exact ⟨by rw [HR.out]; rfl, HB5.out⟩
        · have hz' : (r1 == 0) = false := by simp [hz]
          have HR0 : Hid (gcode (a1, b1, r1) (x.gs.take i) = if (x.gs.take i).any (fun y => y.1 == a1 && y.2.1 == b1) then 110 else 0) := Lib.hid (by simp [gcode, HV.out, HW.out, oneA, HG.out, hz])
          clear hz
          refine wp_region_since (by kernel_rfl) (by kernel_rfl) ?_
          repeat (go_big_quiet_step (first | (go_at_call 17; exact G0 _) | (go_at_call 96; with_reducible exact G1 _) | (go_at_call 99; with_reducible exact G3 _)))
          refine wpQuiet_nil ?_
          rintro w5 ⟨P5, rfl⟩
          have HB5 := Lib.hid (below_next HB4.out P5.b)
          have HB6 := Lib.hid (below_next HR4.out P5.b)
          clear G0 G1 G3 k0p k1p k2p hz'
          generalize P5.W = w5 at *
          go_wp2_with fail
          go_loopw [6] (fun iv wr => ∃ k : Nat, k ≤ i ∧ iv = .int .i64 k ∧ Hid (((x.gs.take k).any fun y => y.1 == a1 && y.2.1 == b1) = false) ∧ Hid (Below W1.heap.size W1 wr)) (fun iv _ => i - (intOf iv).toNat)
          case atStart => exact ⟨0, by omega, rfl, Lib.hid rfl, HB6⟩
          case round =>
            obtain ⟨k, hk, rfl, HN, HB⟩ := hrel
            rcases Nat.lt_or_ge k i with hlt | hge
            · obtain ⟨bk, ok, ⟨a2, b2, r2⟩, hA2, hbk, hxk, f0, f1, f2⟩ := IRange.cells (IR.next H.out.g (below_next HB1.out HB.out)) (i := k) (by omega)
              have HXK := Lib.hid hxk
              have cgp : ∀ p : Snc wr, p.W.cell? ⟨w.heap.size, 4, none⟩ = some (.slice (some ⟨bk, ok, none⟩) M.g.n M.g.c) := fun p => by rw [← hA2]; exact KK.out.2.2 _ (below_next HB.out p.b)
              have k0p : ∀ p : Snc wr, p.W.cell? ⟨W0.heap.size, 0, none⟩ = some (.int .u32 a1) := fun p => KK.out.1 _ (below_next HB.out p.b)
              have k1p : ∀ p : Snc wr, p.W.cell? ⟨W0.heap.size, 1, none⟩ = some (.int .i64 b1) := fun p => KK.out.2.1 _ (below_next HB.out p.b)
              have f0p := Snc.all fun W (hW : Below wr.heap.size wr W) => (hW.cell (p := ⟨bk, ok + k * 3, none⟩) hbk).trans f0
              have f1p := Snc.all fun W (hW : Below wr.heap.size wr W) => (hW.cell (p := ⟨bk, ok + k * 3 + 1, none⟩) hbk).trans f1
              have l1 : (k : Int) < (i : Int) := by omega
              have l2 : (k : Int) < (M.g.n : Int) := by omega
              have l3 : (0 : Int) ≤ (k : Int) := by omega
              have SP : ∀ p : Snc wr, Calls Tryz.prog 100 #[.agg #[.int .u32 a2, .int .i64 b2], .agg #[.int .u32 a1, .int .i64 b1]] p.W fun e w' => e = .returned (.bool (decide (a2 = a1) && decide (b2 = b1))) ∧ ∃ q : Snc wr, w' = q.W := fun p => Calls.since (same_any a2 b2 a1 b1 p.W)
              clear hxk hA2 f0 f1 f2 hbk
              cases hS : (decide (a2 = a1) && decide (b2 = b1)) with
              | true =>
                rw [hS] at SP
                have HR : Hid (gcode (a1, b1, r1) (x.gs.take i) = 110) := Lib.hid (by
                  have h2 := any_hit (p := fun y : Int × Int × Int => y.1 == a1 && y.2.1 == b1) HXK.out hlt (by simpa using hS)
                  rw [HR0.out, h2]; rfl)
                clear hS
                go_upto_region 9 with fail
                refine wp_region_since (by kernel_rfl) (by kernel_rfl) ?_
                repeat (go_big_quiet_step ((go_at_call 100; with_reducible exact SP _)))
                refine wpQuiet_nil ?_
                rintro w5 ⟨P5, rfl⟩
                have HB7 := Lib.hid (below_next HB.out P5.b)
                clear cgp k0p k1p f0p f1p SP
                go_wp2
                first | go_ret2 | go_ret
                exact ⟨by rw [HR.out]; rfl, below_next HB1.out HB7.out⟩
              | false =>
                rw [hS] at SP
                have HN2 : Hid (((x.gs.take (k + 1)).any fun y => y.1 == a1 && y.2.1 == b1) = false) := Lib.hid (by rw [any_next HXK.out, HN.out, Bool.false_or]; rw [← hS]; simp only [Bool.beq_eq_decide_eq])
                clear hS
                go_upto_region 9 with fail
                refine wp_region_since (by kernel_rfl) (by kernel_rfl) ?_
                repeat (go_big_quiet_step ((go_at_call 100; with_reducible exact SP _)))
                refine wpQuiet_nil ?_
                rintro w5 ⟨P5, rfl⟩
                have HB7 := Lib.hid (below_next HB.out P5.b)
                clear cgp k0p k1p f0p f1p SP
                go_wp2
                go_roundw
                case rel => exact ⟨k + 1, by omega, by go_num, HN2, HB7⟩
                case measure => simp [intOf]; omega
            · obtain rfl : i = k := by omega
              have hd : decide ((i : Int) < (i : Int)) = false := by simp
              have HR : Hid (gcode (a1, b1, r1) (x.gs.take i) = 0) := Lib.hid (by rw [HR0.out, HN.out]; rfl)
              go_wp2
              first | go_ret2 | go_ret
              exact ⟨by rw [HR.out]; rfl, below_next HB1.out HB.out⟩
set_option maxRecDepth 100000 in
set_option maxHeartbeats 4000000 in
theorem dport_any (M : Cm) (x : Cfg) (i : Nat) (w : World) (h : CW w M x) (hi : i < x.ps.length) :
    Calls Tryz.prog 47 #[.agg #[.slice M.r.A M.r.n M.r.c, .slice M.l.A M.l.n M.l.c, .slice M.p.A M.p.n M.p.c, .slice M.o.A M.o.n M.o.c, .slice M.g.A M.g.n M.g.c, .slice M.s.A M.s.n M.s.c, .slice M.m.A M.m.n M.m.c], .int .i64 (i : Int)] w fun e w' => e = .returned (.int .i64 (atC (pcode x.rs.length x.ls) x.ps i)) ∧ Below w.heap.size w w' := by
  obtain ⟨b, o, ⟨r1, l1, a1⟩, hA, hb, hx, e0, e1, e2⟩ := IPort.cells h.p (i := i) (by have := h.p.1; omega)
  have HC := Lib.hid (atC_at (f := pcode x.rs.length x.ls) hx)
  have HX := Lib.hid hx
  have hi0 : (i : Int) < (M.p.n : Int) := by have := h.p.1; omega
  have hi1 : (0 : Int) ≤ (i : Int) := by omega
  have H := Lib.hid h
  have HA := Lib.hid hA
  clear hA
  obtain ⟨W0, hW0, hb0, hk0⟩ := lay1 w #[.slice M.r.A M.r.n M.r.c, .slice M.l.A M.l.n M.l.c, .slice M.p.A M.p.n M.p.c, .slice M.o.A M.o.n M.o.c, .slice M.g.A M.g.n M.g.c, .slice M.s.A M.s.n M.s.c, .slice M.m.A M.m.n M.m.c] 32
  obtain ⟨W1, hW1, hb1, hk1⟩ := lay1 W0 #[.int .i64 r1, .int .i64 l1, .int .u32 a1] 62
  have HB0 := Lib.hid hb0
  have HB1 := Lib.hid (below_next hb0 hb1)
  have HK0 := Lib.hid (hk0.next hb1)
  have HK1 := Lib.hid hk1
  have HW1 := Lib.hid hW1
  rw [HC.out]
  clear h hx hb1 hk1 hW1
  go_enter Tryz.func47, Tryz.ntmps47
  go_upto_region 1 with fail
  rw [← hW0]
  have y0 : W0.cell? ⟨w.heap.size, 2, none⟩ = some (.slice M.p.A M.p.n M.p.c) := hk0.cell 2
  rw [HA.out] at y0
  replace e0 := dcell_up e0 hb0
  replace e1 := dcell_up e1 hb0
  replace e2 := dcell_up e2 hb0
  clear hW0 hb0 hk0
  go_upto_region 2 with fail
  rw [← HW1.out]
  clear y0 e0 e1 e2 HW1 hb
  have hr := Below.refl W1.heap.size W1
  have k0 : ∀ W, Below W1.heap.size W1 W → W.cell? ⟨W0.heap.size, 0, none⟩ = some (.int .i64 r1) := fun W hW => (HK1.out.next hW).cell 0
  have k1 : ∀ W, Below W1.heap.size W1 W → W.cell? ⟨W0.heap.size, 1, none⟩ = some (.int .i64 l1) := fun W hW => (HK1.out.next hW).cell 1
  have k2 : ∀ W, Below W1.heap.size W1 W → W.cell? ⟨W0.heap.size, 2, none⟩ = some (.int .u32 a1) := fun W hW => (HK1.out.next hW).cell 2
  have cr : ∀ W, Below W1.heap.size W1 W → W.cell? ⟨w.heap.size, 0, none⟩ = some (.slice M.r.A M.r.n M.r.c) := fun W hW => (HK0.out.next hW).cell 0
  have cl : ∀ W, Below W1.heap.size W1 W → W.cell? ⟨w.heap.size, 1, none⟩ = some (.slice M.l.A M.l.n M.l.c) := fun W hW => (HK0.out.next hW).cell 1
  have cp : ∀ W, Below W1.heap.size W1 W → W.cell? ⟨w.heap.size, 2, none⟩ = some (.slice M.p.A M.p.n M.p.c) := fun W hW => (HK0.out.next hW).cell 2
  have HU := Lib.hid (H.out.ok.2.1 _ (List.mem_of_getElem? HX.out))
  have HNR : Hid (x.rs.length = M.r.n) := Lib.hid H.out.r.1
  have HNL : Hid (x.ls.length = M.l.n) := Lib.hid H.out.l.1
  have hin : i ≤ M.p.n := by have := H.out.p.1; omega
  have hib : i ≤ 1000000 := by have := H.out.pok.2; omega
  dsimp only at HU
  clear hi
  cases hP : plOk r1 M.r.n with
  | false =>
    have HR : Hid (pcode x.rs.length x.ls (r1, l1, a1) (x.ps.take i) = 111) := Lib.hid (by simp [pcode, HNR.out, hP])
    go_wp2_with (go_at_call 97; (with_reducible refine (place_any _ _ _).mono ?_); rintro e w2 ⟨rfl, hw2⟩; obtain rfl := hw2; (first | rw [hP] | rw [hQ]))
    go_ret
    exact ⟨by rw [HR.out]; rfl, HB1.out⟩
  | true =>
    cases hQ : plOk l1 M.l.n with
    | false =>
      have HR : Hid (pcode x.rs.length x.ls (r1, l1, a1) (x.ps.take i) = 111) := Lib.hid (by simp [pcode, HNR.out, HNL.out, hP, hQ])
      go_wp2_with (go_at_call 97; (with_reducible refine (place_any _ _ _).mono ?_); rintro e w2 ⟨rfl, hw2⟩; obtain rfl := hw2; (first | rw [hP] | rw [hQ]))
      go_ret
      exact ⟨by rw [HR.out]; rfl, HB1.out⟩
    | true =>
      have HPQ := Lib.hid (And.intro hP hQ)
      go_upto_region 4 with (go_at_call 97; (with_reducible refine (place_any _ _ _).mono ?_); rintro e w2 ⟨rfl, hw2⟩; obtain rfl := hw2; (first | rw [hP] | rw [hQ]))
      clear hP hQ
      have hlr : 0 ≤ l1 ∧ l1 < (M.l.n : Int) := by have := HPQ.out.2; unfold plOk at this; simpa using this
      obtain ⟨ln, rfl⟩ : ∃ ln : Nat, l1 = ln := ⟨l1.toNat, by omega⟩
      obtain ⟨bl, ol, ⟨s3, a3, b3⟩, hAl, hbl, hxl, g0, g1, g2⟩ := ILink.cells (IR.next H.out.l HB1.out) (i := ln) (by omega)
      have HU3 := Lib.hid (H.out.ok.1 _ (List.mem_of_getElem? hxl))
      have HLD : Hid (x.ls.getD ((ln : Int)).toNat ([], 0, 0) = (s3, a3, b3)) := Lib.hid (by rw [Int.toNat_natCast, List.getD_eq_getElem?_getD, hxl]; rfl)
      dsimp only at HU3
      have hl0 : (0 : Int) ≤ (ln : Int) := by omega
      have hl1 : (ln : Int) < (M.l.n : Int) := by omega
      have k1p : ∀ p : Snc W1, p.W.cell? ⟨W0.heap.size, 1, none⟩ = some (.int .i64 (ln : Int)) := fun p => k1 _ p.b
      have k2p : ∀ p : Snc W1, p.W.cell? ⟨W0.heap.size, 2, none⟩ = some (.int .u32 a1) := fun p => k2 _ p.b
      have clp : ∀ p : Snc W1, p.W.cell? ⟨w.heap.size, 1, none⟩ = some (.slice (some ⟨bl, ol, none⟩) M.l.n M.l.c) := fun p => by rw [← hAl]; exact cl _ p.b
      have g1p := Snc.all fun W (hW : Below W1.heap.size W1 W) => (hW.cell (p := ⟨bl, ol + ln * 3 + 1, none⟩) hbl).trans g1
      have g2p := Snc.all fun W (hW : Below W1.heap.size W1 W) => (hW.cell (p := ⟨bl, ol + ln * 3 + 2, none⟩) hbl).trans g2
      have GI : ∀ p : Snc W1, Calls Tryz.prog 98 #[.agg #[.int .u32 a3, .int .i64 b3], .int .u32 a1] p.W fun e w' => e = .returned (.bool (Ad.isIn a3 b3 a1)) ∧ ∃ q : Snc W1, w' = q.W := fun p => Calls.since (rin_any a3 b3 a1 p.W HU3.out.1 HU3.out.2 HU.out.1 HU.out.2)
      have KK := Lib.hid (And.intro k0 (And.intro k1 (And.intro k2 cp)))
      clear k0 k1 k2 cr cl cp hr hAl hbl hxl g0 g1 g2 hlr
      by_cases hz : a1 = 0
      · have HR : Hid (pcode x.rs.length x.ls (r1, (ln : Int), a1) (x.ps.take i) = 112) := Lib.hid (by rw [pcode, HNR.out, HNL.out, HPQ.out.1, HPQ.out.2, HLD.out]; simp [onL, hz])
        have hz' : (a1 == 0) = true := by simp [hz]
        clear hz
        refine wp_region_since (by kernel_rfl) (by kernel_rfl) ?_
        repeat (go_big_quiet_step ((go_at_call 98; with_reducible exact GI _)))
        refine wpQuiet_nil ?_
        rintro w5 ⟨P5, rfl⟩
        have HB5 := Lib.hid P5.b
        clear k1p k2p clp g1p g2p GI
        go_wp2
        first | go_ret2 | go_ret
        exact ⟨by rw [HR.out]; rfl, below_next HB1.out HB5.out⟩
      · have hz' : (a1 == 0) = false := by simp [hz]
        have HZ := Lib.hid hz
        clear hz
        cases hI : Ad.isIn a3 b3 a1 with
        | false =>
          rw [hI] at GI
          have HR : Hid (pcode x.rs.length x.ls (r1, (ln : Int), a1) (x.ps.take i) = 112) := Lib.hid (by rw [pcode, HNR.out, HNL.out, HPQ.out.1, HPQ.out.2, HLD.out]; simp [onL, hI])
          clear hI
          refine wp_region_since (by kernel_rfl) (by kernel_rfl) ?_
          repeat (go_big_quiet_step ((go_at_call 98; with_reducible exact GI _)))
          refine wpQuiet_nil ?_
          rintro w5 ⟨P5, rfl⟩
          have HB5 := Lib.hid P5.b
          clear k1p k2p clp g1p g2p GI
          go_wp2
          first | go_ret2 | go_ret
          exact ⟨by rw [HR.out]; rfl, below_next HB1.out HB5.out⟩
        | true =>
          rw [hI] at GI
          have HR0 : Hid (pcode x.rs.length x.ls (r1, (ln : Int), a1) (x.ps.take i) = if (x.ps.take i).any (fun y => y.2.2 == a1 || y.1 == r1 && y.2.1 == (ln : Int)) then 110 else 0) := Lib.hid (by rw [pcode, HNR.out, HNL.out, HPQ.out.1, HPQ.out.2, HLD.out]; simp [onL, hI, HZ.out])
          clear hI
          refine wp_region_since (by kernel_rfl) (by kernel_rfl) ?_
          repeat (go_big_quiet_step ((go_at_call 98; with_reducible exact GI _)))
          refine wpQuiet_nil ?_
          rintro w5 ⟨P5, rfl⟩
          have HB5 := Lib.hid P5.b
          clear k1p k2p clp g1p g2p GI hz'
          generalize P5.W = w5 at *
          go_wp2_with fail
          go_loopw [6] (fun iv wr => ∃ k : Nat, k ≤ i ∧ iv = .int .i64 k ∧ Hid (((x.ps.take k).any fun y => y.2.2 == a1 || y.1 == r1 && y.2.1 == (ln : Int)) = false) ∧ Hid (Below W1.heap.size W1 wr)) (fun iv _ => i - (intOf iv).toNat)
          case atStart => exact ⟨0, by omega, rfl, Lib.hid rfl, HB5⟩
          case round =>
            obtain ⟨k, hk, rfl, HN, HB⟩ := hrel
            rcases Nat.lt_or_ge k i with hlt | hge
            · obtain ⟨bk, ok, ⟨r2, l2, a2⟩, hA2, hbk, hxk, f0, f1, f2⟩ := IPort.cells (IR.next H.out.p (below_next HB1.out HB.out)) (i := k) (by omega)
              have HXK := Lib.hid hxk
              have q1 : (k : Int) < (i : Int) := by omega
              have q2 : (k : Int) < (M.p.n : Int) := by omega
              have q3 : (0 : Int) ≤ (k : Int) := by omega
              have cpp : wr.cell? ⟨w.heap.size, 2, none⟩ = some (.slice (some ⟨bk, ok, none⟩) M.p.n M.p.c) := by rw [← hA2]; exact KK.out.2.2.2 _ HB.out
              clear hxk hA2
              go_upto_region 10 with fail
              obtain ⟨W9, hW9, hb9, hk9⟩ := lay1 wr #[.int .i64 r2, .int .i64 l2, .int .u32 a2] 62
              rw [← hW9]
              have HB9 := Lib.hid (below_next HB.out hb9)
              have x0 := KK.out.1 _ HB9.out
              have x1 := KK.out.2.1 _ HB9.out
              have x2 := KK.out.2.2.1 _ HB9.out
              have z0 := hk9.cell 0
              have z1 := hk9.cell 1
              have z2 := hk9.cell 2
              simp only [List.getElem?_toArray, List.getElem?_cons_zero, List.getElem?_cons_succ] at z0 z1 z2
              clear hW9 hb9 hk9 cpp f0 f1 f2 hbk
              generalize wr.heap.size = gy at *
              have key : (a2 == a1) = true ∨ ((a2 == a1) = false ∧ (r2 == r1) = false) ∨ ((a2 == a1) = false ∧ (r2 == r1) = true ∧ (l2 == (ln : Int)) = false) ∨ ((a2 == a1) = false ∧ (r2 == r1) = true ∧ (l2 == (ln : Int)) = true) := by
                cases (a2 == a1) <;> cases (r2 == r1) <;> cases (l2 == (ln : Int)) <;> simp
              rcases key with h1 | ⟨h1, h2⟩ | ⟨h1, h2, h3⟩ | ⟨h1, h2, h3⟩
              · have HR : Hid (pcode x.rs.length x.ls (r1, (ln : Int), a1) (x.ps.take i) = 110) := Lib.hid (by
                  have hh := any_hit (p := fun y : Int × Int × Int => y.2.2 == a1 || y.1 == r1 && y.2.1 == (ln : Int)) HXK.out hlt (by show (a2 == a1 || r2 == r1 && l2 == (ln : Int)) = true; rw [h1]; rfl)
                  rw [HR0.out, hh]; rfl)
                go_wp2
                first | go_ret2 | go_ret
                exact ⟨by rw [HR.out]; rfl, below_next HB1.out HB9.out⟩
              · have HN2 : Hid (((x.ps.take (k + 1)).any fun y => y.2.2 == a1 || y.1 == r1 && y.2.1 == (ln : Int)) = false) := Lib.hid (by rw [any_next HXK.out, HN.out, Bool.false_or]; show (a2 == a1 || r2 == r1 && l2 == (ln : Int)) = false; rw [h1, h2]; rfl)
                go_wp2
                go_roundw
                case rel => exact ⟨k + 1, by omega, by go_num, HN2, HB9⟩
                case measure => simp [intOf]; omega
              · have HN2 : Hid (((x.ps.take (k + 1)).any fun y => y.2.2 == a1 || y.1 == r1 && y.2.1 == (ln : Int)) = false) := Lib.hid (by rw [any_next HXK.out, HN.out, Bool.false_or]; show (a2 == a1 || r2 == r1 && l2 == (ln : Int)) = false; rw [h1, h2, h3]; rfl)
                go_wp2
                go_roundw
                case rel => exact ⟨k + 1, by omega, by go_num, HN2, HB9⟩
                case measure => simp [intOf]; omega
              · have HR : Hid (pcode x.rs.length x.ls (r1, (ln : Int), a1) (x.ps.take i) = 110) := Lib.hid (by
                  have hh := any_hit (p := fun y : Int × Int × Int => y.2.2 == a1 || y.1 == r1 && y.2.1 == (ln : Int)) HXK.out hlt (by show (a2 == a1 || r2 == r1 && l2 == (ln : Int)) = true; rw [h1, h2, h3]; rfl)
                  rw [HR0.out, hh]; rfl)
                go_wp2
                first | go_ret2 | go_ret
                exact ⟨by rw [HR.out]; rfl, below_next HB1.out HB9.out⟩
            · obtain rfl : i = k := by omega
              have hd : decide ((i : Int) < (i : Int)) = false := by simp
              have HR : Hid (pcode x.rs.length x.ls (r1, (ln : Int), a1) (x.ps.take i) = 0) := Lib.hid (by rw [HR0.out, HN.out]; rfl)
              go_wp2
              first | go_ret2 | go_ret
              exact ⟨by rw [HR.out]; rfl, below_next HB1.out HB.out⟩
end Go.Proofs.YtboehoflaceohaaGreatDoor

