/- The document's check of a network, item by item; over the seat's program. The document's check of a source, a member, a network, whole; over the seat's program. rivuletnet.Light: whether a network is light, and may be; over the seat's program. -/
import Derived.Test.YtdljpokhcfhhfaaGreatDoorCw
import Derived.Test.YtdljpokhcfhhfaaGreatDoorAddr
import Derived.Test.YtdljpokhcfhhfaaGreatDoorName
import Derived.Test.YtdljpokhcfhhfaaGreatDoorKit
import Derived.Deep.Cut
namespace Go.Proofs.YtdljpokhcfhhfaaGreatDoor
open Go.RowKit Lx Sm
/-- a network in memory, its members' sources as many as may be -/
structure DW (w : World) (M : Cm) (x : Cfg) : Prop where
  r : IRouter w M.r.A M.r.n x.rs
  l : ILink w M.l.A M.l.n x.ls
  p : IPort w M.p.A M.p.n x.ps
  o : IRoute w M.o.A M.o.n x.os
  g : IRange w M.g.A M.g.n x.gs
  s : ISource w M.s.A M.s.n x.ss
  m : IMember w M.m.A M.m.n x.ms
  rok : M.r.ok
  lok : M.l.ok
  pok : M.p.ok
  ook : M.o.ok
  gok : M.g.ok
  sok : M.s.ok
  mok : M.m.ok
  src : ∀ y ∈ x.ms, AR w y.A y.n y.xs ∧ y.n ≤ y.c ∧ y.n ≤ 9223372036854775807
  ok : x.ok
theorem DW.next {w w' : World} {M : Cm} {x : Cfg} (h : DW w M x) (hb : Below w.heap.size w w') : DW w' M x :=
  ⟨IR.next h.r hb, IR.next h.l hb, IR.next h.p hb, IR.next h.o hb, IR.next h.g hb, IR.next h.s hb, IR.next h.m hb, h.rok, h.lok, h.pok, h.ook, h.gok, h.sok, h.mok, fun y hy => ⟨(h.src y hy).1.next hb, (h.src y hy).2⟩, h.ok⟩
theorem CW.dw {w : World} {M : Cm} {x : Cfg} (h : CW w M x) : DW w M x :=
  ⟨h.r, h.l, h.p, h.o, h.g, h.s, h.m, h.rok, h.lok, h.pok, h.ook, h.gok, h.sok, h.mok, fun y hy => ⟨(h.src y hy).1, (h.src y hy).2.1, by have := (h.src y hy).2.2; omega⟩, h.ok⟩
theorem lay1 (w : World) (cs : Array Value) (t : TypeId) : ∃ W1, W1 = w.alloc (.cells cs t) ∧ Below w.heap.size w W1 ∧ Blk W1 w.heap.size t cs := ⟨_, rfl, (Below.refl _ _).alloc (Nat.le_refl _) _, Blk.new w t cs⟩
theorem dcell_up {w W : World} {b o : Nat} {v : Value} (h : w.cell? ⟨b, o, none⟩ = some v) (hB : Below w.heap.size w W) : W.cell? ⟨b, o, none⟩ = some v := by
  have := World.block_lt_of_cell? _ _ h
  exact (hB.cell (p := ⟨b, o, none⟩) this).trans h
theorem place_any (i : Int) (n : Nat) (w : World) : Calls Tryz.prog 208 #[.int .i64 i, .int .i64 (n : Int)] w fun e w' => e = .returned (.bool (plOk i n)) ∧ w = w' := by
  have HE : Hid (plOk i n = (decide (0 ≤ i) && decide (i < (n : Int)))) := Lib.hid (by unfold plOk; by_cases h1 : 0 ≤ i <;> by_cases h2 : i < (n : Int) <;> simp [h1, h2])
  rw [HE.out]
  go_enter Tryz.func208, Tryz.ntmps208
  by_cases h : 0 ≤ i
  · have h' : decide (0 ≤ i) = true := by simpa using h
    go_wp2
    go_ret
    exact ⟨by first | rfl | simp [h'], rfl⟩
  · have h' : decide (0 ≤ i) = false := by simpa using h
    go_wp2
    go_ret
    exact ⟨by first | rfl | simp [h'], rfl⟩
theorem ret_rgroups (tm : Array Value) (N : Nat) (W : World) (v0 v1 : Value) (h2 : tm.getD 0 undef = .pointer (some ⟨N, 0, none⟩)) (c0 : W.cell? ⟨N, 0, none⟩ = some v0) (c1 : W.cell? ⟨N, 1, none⟩ = some v1) :
    (results Tryz.f75 tm).run Tryz.prog W = .ok (.agg #[v0, v1]) W := by
  have h2' : tm[0]?.getD undef = .pointer (some ⟨N, 0, none⟩) := by simpa using h2
  simp [results, Tryz.results75, go_sem, h2', c0, c1]
theorem rgroups_any (w : World) : Calls Tryz.prog 75 #[] w fun e w' => e = .returned (.agg #[.int .u32 3758096384, .int .i64 4]) ∧ Below w.heap.size w w' := by
  go_enter Tryz.func75, Tryz.ntmps75
  go_wp2
  refine bodyPost_ret (ret_rgroups _ w.heap.size _ (.int .u32 3758096384) (.int .i64 4) rfl ((Blk.new w _ _).cell 0) ((Blk.new w _ _).cell 1)) rfl ?_
  exact ⟨rfl, (Below.refl _ _).alloc (Nat.le_refl _) _⟩
set_option maxRecDepth 100000 in
set_option maxHeartbeats 4000000 in
theorem droute_any (M : Cm) (x : Cfg) (i : Nat) (w : World) (h : DW w M x) (hi : i < x.os.length) :
    Calls Tryz.prog 144 #[.agg #[.slice M.r.A M.r.n M.r.c, .slice M.l.A M.l.n M.l.c, .slice M.p.A M.p.n M.p.c, .slice M.o.A M.o.n M.o.c, .slice M.g.A M.g.n M.g.c, .slice M.s.A M.s.n M.s.c, .slice M.m.A M.m.n M.m.c], .int .i64 (i : Int)] w fun e w' => e = .returned (.int .i64 (atC (fun y _ => ocode x.rs.length y) x.os i)) ∧ Below w.heap.size w w' := by
  obtain ⟨b, o, ⟨r1, a1, b1, v1, q1⟩, hA, hb, hx, e0, e1, e2, e3, e4⟩ := IRoute.cells h.o (i := i) (by have := h.o.1; omega)
  have HC := Lib.hid (atC_at (f := fun y _ => ocode x.rs.length y) hx)
  have HX := Lib.hid hx
  have hi0 : (i : Int) < (M.o.n : Int) := by have := h.o.1; omega
  have hi1 : (0 : Int) ≤ (i : Int) := by omega
  have H := Lib.hid h
  have HA := Lib.hid hA
  clear hA
  obtain ⟨W0, hW0, hb0, hk0⟩ := lay1 w #[.slice M.r.A M.r.n M.r.c, .slice M.l.A M.l.n M.l.c, .slice M.p.A M.p.n M.p.c, .slice M.o.A M.o.n M.o.c, .slice M.g.A M.g.n M.g.c, .slice M.s.A M.s.n M.s.c, .slice M.m.A M.m.n M.m.c] 30
  obtain ⟨W1, hW1, hb1, hk1⟩ := lay1 W0 #[.int .i64 r1, .int .u32 a1, .int .i64 b1, .int .u32 v1, .int .i64 q1] 128
  have HB0 := Lib.hid hb0
  have HB1 := Lib.hid (below_next hb0 hb1)
  have HK0 := Lib.hid (hk0.next hb1)
  have HK1 := Lib.hid hk1
  have HW1 := Lib.hid hW1
  rw [HC.out]
  clear h hx hb1 hk1 hW1
  go_enter Tryz.func144, Tryz.ntmps144
  go_upto_region 1 with fail
  rw [← hW0]
  have y0 : W0.cell? ⟨w.heap.size, 3, none⟩ = some (.slice M.o.A M.o.n M.o.c) := hk0.cell 3
  rw [HA.out] at y0
  replace e0 := dcell_up e0 hb0
  replace e1 := dcell_up e1 hb0
  replace e2 := dcell_up e2 hb0
  replace e3 := dcell_up e3 hb0
  replace e4 := dcell_up e4 hb0
  clear hW0 hb0 hk0
  go_upto_region 2 with fail
  rw [← HW1.out]
  clear y0 e0 e1 e2 e3 e4 HW1 hb
  have hr := Below.refl W1.heap.size W1
  have k0 : ∀ W, Below W1.heap.size W1 W → W.cell? ⟨W0.heap.size, 0, none⟩ = some (.int .i64 r1) := fun W hW => (HK1.out.next hW).cell 0
  have k1 : ∀ W, Below W1.heap.size W1 W → W.cell? ⟨W0.heap.size, 1, none⟩ = some (.int .u32 a1) := fun W hW => (HK1.out.next hW).cell 1
  have k2 : ∀ W, Below W1.heap.size W1 W → W.cell? ⟨W0.heap.size, 2, none⟩ = some (.int .i64 b1) := fun W hW => (HK1.out.next hW).cell 2
  have k3 : ∀ W, Below W1.heap.size W1 W → W.cell? ⟨W0.heap.size, 3, none⟩ = some (.int .u32 v1) := fun W hW => (HK1.out.next hW).cell 3
  have k4 : ∀ W, Below W1.heap.size W1 W → W.cell? ⟨W0.heap.size, 4, none⟩ = some (.int .i64 q1) := fun W hW => (HK1.out.next hW).cell 4
  have cr : ∀ W, Below W1.heap.size W1 W → W.cell? ⟨w.heap.size, 0, none⟩ = some (.slice M.r.A M.r.n M.r.c) := fun W hW => (HK0.out.next hW).cell 0
  have hn : x.rs.length = M.r.n := H.out.r.1
  have ho := H.out.ok.2.2.1 _ (List.mem_of_getElem? HX.out)
  have ha : 0 ≤ a1 ∧ a1 ≤ 4294967295 := ho.1
  have hv : 0 ≤ v1 ∧ v1 ≤ 4294967295 := ho.2
  have HN := Lib.hid hn
  have HU := Lib.hid (And.intro ha hv)
  clear ho hn ha hv hi
  cases hP : plOk r1 M.r.n with
  | false =>
    have HR : Hid (ocode x.rs.length (r1, a1, b1, v1, q1) = 111) := Lib.hid (by simp [ocode, HN.out, hP])
    go_wp2_with (go_at_call 208; (with_reducible refine (place_any _ _ _).mono ?_); rintro e w2 ⟨rfl, hw2⟩; obtain rfl := hw2; rw [hP])
    go_ret
    exact ⟨by rw [HR.out]; rfl, HB1.out⟩
  | true =>
    cases hV : Ad.valid a1 b1 with
    | false =>
      have HR : Hid (ocode x.rs.length (r1, a1, b1, v1, q1) = 103) := Lib.hid (by simp [ocode, HN.out, hP, hV])
      go_wp2_with (first
    | (go_at_call 208; (with_reducible refine (place_any _ _ _).mono ?_); rintro e w2 ⟨rfl, hw2⟩; obtain rfl := hw2; rw [hP])
    | (go_at_call 110; (with_reducible refine (rvalid_any _ _ _ HU.out.1.1 HU.out.1.2).mono ?_); rintro e w4 ⟨rfl, hb4⟩; rw [hV]; have hr4 := below_next hr hb4; clear hb4))
      go_ret
      exact ⟨by rw [HR.out]; rfl, below_next HB1.out hr4⟩
    | true =>
      by_cases hq : 0 ≤ q1 ∧ q1 ≤ 65535
      · have hq0 : ¬ q1 < 0 := by omega
        have hq1 : ¬ 65535 < q1 := by omega
        have hq2 : q1 ≤ 65535 := hq.2
        have hco : costOk q1 = true := by simp [costOk, hq]
        cases hG : Ad.group v1 with
        | true =>
          have HR : Hid (ocode x.rs.length (r1, a1, b1, v1, q1) = 113) := Lib.hid (by simp [ocode, HN.out, hP, hV, hco, oneA, hG])
          clear hco
          go_wp2_with (first
    | (go_at_call 208; (with_reducible refine (place_any _ _ _).mono ?_); rintro e w2 ⟨rfl, hw2⟩; obtain rfl := hw2; rw [hP])
    | (go_at_call 110; (with_reducible refine (rvalid_any _ _ _ HU.out.1.1 HU.out.1.2).mono ?_); rintro e w4 ⟨rfl, hb4⟩; rw [hV]; have hr4 := below_next hr hb4; clear hb4)
    | (go_at_call 209; (with_reducible refine (rgroup_any _ _ HU.out.2.1 HU.out.2.2).mono ?_); rintro e w3 ⟨rfl, hw3⟩; obtain rfl := hw3; rw [hG]))
          go_ret
          exact ⟨by rw [HR.out]; rfl, below_next HB1.out hr4⟩
        | false =>
          by_cases hz : v1 = 0
          · have HR : Hid (ocode x.rs.length (r1, a1, b1, v1, q1) = 113) := Lib.hid (by simp [ocode, HN.out, hP, hV, hco, oneA, hz])
            have hz' : (v1 == 0) = true := by simp [hz]
            clear hco hz
            go_wp2_with (first
    | (go_at_call 208; (with_reducible refine (place_any _ _ _).mono ?_); rintro e w2 ⟨rfl, hw2⟩; obtain rfl := hw2; rw [hP])
    | (go_at_call 110; (with_reducible refine (rvalid_any _ _ _ HU.out.1.1 HU.out.1.2).mono ?_); rintro e w4 ⟨rfl, hb4⟩; rw [hV]; have hr4 := below_next hr hb4; clear hb4)
    | (go_at_call 209; (with_reducible refine (rgroup_any _ _ HU.out.2.1 HU.out.2.2).mono ?_); rintro e w3 ⟨rfl, hw3⟩; obtain rfl := hw3; rw [hG]))
            go_ret
            exact ⟨by rw [HR.out]; rfl, below_next HB1.out hr4⟩
          · have HR : Hid (ocode x.rs.length (r1, a1, b1, v1, q1) = 0) := Lib.hid (by simp [ocode, HN.out, hP, hV, hco, oneA, hG, hz])
            have hz' : (v1 == 0) = false := by simp [hz]
            clear hco hz
            go_wp2_with (first
    | (go_at_call 208; (with_reducible refine (place_any _ _ _).mono ?_); rintro e w2 ⟨rfl, hw2⟩; obtain rfl := hw2; rw [hP])
    | (go_at_call 110; (with_reducible refine (rvalid_any _ _ _ HU.out.1.1 HU.out.1.2).mono ?_); rintro e w4 ⟨rfl, hb4⟩; rw [hV]; have hr4 := below_next hr hb4; clear hb4)
    | (go_at_call 209; (with_reducible refine (rgroup_any _ _ HU.out.2.1 HU.out.2.2).mono ?_); rintro e w3 ⟨rfl, hw3⟩; obtain rfl := hw3; rw [hG]))
            go_ret
            exact ⟨by rw [HR.out]; rfl, below_next HB1.out hr4⟩
      · have hco : costOk q1 = false := by simp [costOk]; omega
        have HR : Hid (ocode x.rs.length (r1, a1, b1, v1, q1) = 103) := Lib.hid (by simp [ocode, HN.out, hP, hV, hco])
        clear hco
        by_cases hq0 : q1 < 0
        · clear hq
          go_wp2_with (first
    | (go_at_call 208; (with_reducible refine (place_any _ _ _).mono ?_); rintro e w2 ⟨rfl, hw2⟩; obtain rfl := hw2; rw [hP])
    | (go_at_call 110; (with_reducible refine (rvalid_any _ _ _ HU.out.1.1 HU.out.1.2).mono ?_); rintro e w4 ⟨rfl, hb4⟩; rw [hV]; have hr4 := below_next hr hb4; clear hb4))
          go_ret
          exact ⟨by rw [HR.out]; rfl, below_next HB1.out hr4⟩
        · have hq1 : 65535 < q1 := by omega
          clear hq
          go_wp2_with (first
    | (go_at_call 208; (with_reducible refine (place_any _ _ _).mono ?_); rintro e w2 ⟨rfl, hw2⟩; obtain rfl := hw2; rw [hP])
    | (go_at_call 110; (with_reducible refine (rvalid_any _ _ _ HU.out.1.1 HU.out.1.2).mono ?_); rintro e w4 ⟨rfl, hb4⟩; rw [hV]; have hr4 := below_next hr hb4; clear hb4))
          go_ret
          exact ⟨by rw [HR.out]; rfl, below_next HB1.out hr4⟩
theorem any_next {α : Type} {p : α → Bool} {xs : List α} {k : Nat} {y : α} (h : xs[k]? = some y) : (xs.take (k + 1)).any p = ((xs.take k).any p || p y) := by rw [List.take_add_one, h]; simp
theorem any_hit {α : Type} {p : α → Bool} {xs : List α} {k i : Nat} {y : α} (h : xs[k]? = some y) (hk : k < i) (hp : p y = true) : (xs.take i).any p = true := by
  rw [List.any_eq_true]
  refine ⟨y, ?_, hp⟩
  rw [List.mem_iff_getElem?]
  exact ⟨k, by rw [List.getElem?_take, if_pos hk]; exact h⟩
set_option maxRecDepth 100000 in
set_option maxHeartbeats 4000000 in
theorem drouter_any (M : Cm) (x : Cfg) (i : Nat) (w : World) (h : DW w M x) (hi : i < x.rs.length) (hs : ∀ y ∈ x.rs, (str y.1).size ≤ 9223372036854775807) :
    Calls Tryz.prog 141 #[.agg #[.slice M.r.A M.r.n M.r.c, .slice M.l.A M.l.n M.l.c, .slice M.p.A M.p.n M.p.c, .slice M.o.A M.o.n M.o.c, .slice M.g.A M.g.n M.g.c, .slice M.s.A M.s.n M.s.c, .slice M.m.A M.m.n M.m.c], .int .i64 (i : Int)] w fun e w' => e = .returned (.int .i64 (atC (rcode) x.rs i)) ∧ Below w.heap.size w w' := by
  obtain ⟨b, o, ⟨s1, r1⟩, hA, hb, hx, e0, e1⟩ := IRouter.cells h.r (i := i) (by have := h.r.1; omega)
  have HC := Lib.hid (atC_at (f := rcode) hx)
  have HX := Lib.hid hx
  have hi0 : (i : Int) < (M.r.n : Int) := by have := h.r.1; omega
  have hi1 : (0 : Int) ≤ (i : Int) := by omega
  have H := Lib.hid h
  have HA := Lib.hid hA
  clear hA
  obtain ⟨W0, hW0, hb0, hk0⟩ := lay1 w #[.slice M.r.A M.r.n M.r.c, .slice M.l.A M.l.n M.l.c, .slice M.p.A M.p.n M.p.c, .slice M.o.A M.o.n M.o.c, .slice M.g.A M.g.n M.g.c, .slice M.s.A M.s.n M.s.c, .slice M.m.A M.m.n M.m.c] 30
  obtain ⟨W1, hW1, hb1, hk1⟩ := lay1 W0 #[.string (str s1), .int .i64 r1] 77
  have HB0 := Lib.hid hb0
  have HB1 := Lib.hid (below_next hb0 hb1)
  have HK0 := Lib.hid (hk0.next hb1)
  have HK1 := Lib.hid hk1
  have HW1 := Lib.hid hW1
  rw [HC.out]
  clear h hx hb1 hk1 hW1
  go_enter Tryz.func141, Tryz.ntmps141
  go_upto_region 1 with fail
  rw [← hW0]
  have y0 : W0.cell? ⟨w.heap.size, 0, none⟩ = some (.slice M.r.A M.r.n M.r.c) := hk0.cell 0
  rw [HA.out] at y0
  replace e0 := dcell_up e0 hb0
  replace e1 := dcell_up e1 hb0
  clear hW0 hb0 hk0
  go_upto_region 2 with fail
  rw [← HW1.out]
  clear y0 e0 e1 HW1 hb
  have hr := Below.refl W1.heap.size W1
  have k0 : ∀ W, Below W1.heap.size W1 W → W.cell? ⟨W0.heap.size, 0, none⟩ = some (.string (str s1)) := fun W hW => (HK1.out.next hW).cell 0
  have k1 : ∀ W, Below W1.heap.size W1 W → W.cell? ⟨W0.heap.size, 1, none⟩ = some (.int .i64 r1) := fun W hW => (HK1.out.next hW).cell 1
  have cr : ∀ W, Below W1.heap.size W1 W → W.cell? ⟨w.heap.size, 0, none⟩ = some (.slice M.r.A M.r.n M.r.c) := fun W hW => (HK0.out.next hW).cell 0
  have HS := Lib.hid (hs _ (List.mem_of_getElem? HX.out))
  have hin : i ≤ M.r.n := by have := H.out.r.1; omega
  have hib : i ≤ 1000000 := by have := H.out.rok.2; omega
  dsimp only at HS
  clear hs hi
  cases hM : nameOk s1 with
  | false =>
    have HR : Hid (rcode (s1, r1) (x.rs.take i) = 109) := Lib.hid (by simp [rcode, hM])
    have hN : nmC (nameOk (str s1).data.toList) = 109 := by rw [str_data, hM]; rfl
    clear hM
    go_wp2_with (go_at_call 206; (with_reducible refine (rname_big _ _ HS.out).mono ?_); rintro e w2 ⟨rfl, hw2⟩; obtain rfl := hw2; rw [hN])
    go_ret
    exact ⟨by rw [HR.out]; rfl, HB1.out⟩
  | true =>
    have hN : nmC (nameOk (str s1).data.toList) = 0 := by rw [str_data, hM]; rfl
    have HM := Lib.hid hM
    clear hM
    go_wp2_with (go_at_call 206; (with_reducible refine (rname_big _ _ HS.out).mono ?_); rintro e w2 ⟨rfl, hw2⟩; obtain rfl := hw2; rw [hN])
    go_loopw [6] (fun iv wr => ∃ k : Nat, k ≤ i ∧ iv = .int .i64 k ∧ Hid (((x.rs.take k).any fun y => y.1 == s1) = false) ∧ Hid (Below W1.heap.size W1 wr)) (fun iv _ => i - (intOf iv).toNat)
    case atStart => exact ⟨0, by omega, rfl, Lib.hid rfl, Lib.hid (Below.refl _ _)⟩
    case round =>
      obtain ⟨k, hk, rfl, HN, HB⟩ := hrel
      rcases Nat.lt_or_ge k i with hlt | hge
      · obtain ⟨bk, ok, ⟨s2, r2⟩, hA2, hbk, hxk, f0, f1⟩ := IRouter.cells (IR.next H.out.r (below_next HB1.out HB.out)) (i := k) (by omega)
        have HXK := Lib.hid hxk
        have crp : ∀ p : Snc wr, p.W.cell? ⟨w.heap.size, 0, none⟩ = some (.slice (some ⟨bk, ok, none⟩) M.r.n M.r.c) := fun p => by rw [← hA2]; exact cr _ (below_next HB.out p.b)
        have k0p : ∀ p : Snc wr, p.W.cell? ⟨W0.heap.size, 0, none⟩ = some (.string (str s1)) := fun p => k0 _ (below_next HB.out p.b)
        have f0p := Snc.all fun W (hW : Below wr.heap.size wr W) => (hW.cell (p := ⟨bk, ok + k * 2, none⟩) hbk).trans f0
        have l1 : (k : Int) < (i : Int) := by omega
        have l2 : (k : Int) < (M.r.n : Int) := by omega
        have l3 : (0 : Int) ≤ (k : Int) := by omega
        clear hxk hA2 f0 f1 hbk hr k0 k1 cr
        cases hV : (s2 == s1) with
        | true =>
          have he : ((str s2).toList == (str s1).toList) = true := by rw [str_beq]; exact hV
          have HR : Hid (rcode (s1, r1) (x.rs.take i) = 110) := Lib.hid (by
            have h2 := any_hit (p := fun y => y.1 == s1) HXK.out hlt hV
            simp only [rcode, HM.out, h2, if_true, Bool.true_eq_false, if_false])
          clear hV
          go_upto_region 7 with fail
          refine wp_region_since (by kernel_rfl) (by kernel_rfl) ?_
          repeat (go_big_quiet_step (fail))
          refine wpQuiet_nil ?_
          rintro w5 ⟨P5, rfl⟩
          have HB5 := Lib.hid (below_next HB.out P5.b)
          clear crp k0p f0p he
          go_wp2
          first | go_ret2 | go_ret
          exact ⟨by rw [HR.out]; rfl, below_next HB1.out HB5.out⟩
        | false =>
          have he : ((str s2).toList == (str s1).toList) = false := by rw [str_beq]; exact hV
          have HN2 : Hid (((x.rs.take (k + 1)).any fun y => y.1 == s1) = false) := Lib.hid (by rw [any_next HXK.out, HN.out]; exact hV)
          clear hV
          go_upto_region 7 with fail
          refine wp_region_since (by kernel_rfl) (by kernel_rfl) ?_
          repeat (go_big_quiet_step (fail))
          refine wpQuiet_nil ?_
          rintro w5 ⟨P5, rfl⟩
          have HB5 := Lib.hid (below_next HB.out P5.b)
          clear crp k0p f0p he
          go_wp2
          go_roundw
          case rel => exact ⟨k + 1, by omega, by go_num, HN2, HB5⟩
          case measure => simp [intOf]; omega
      · obtain rfl : i = k := by omega
        have hd : decide ((i : Int) < (i : Int)) = false := by simp
        have hr := HB.out
        by_cases hq : 0 ≤ r1 ∧ r1 ≤ 65535
        · have hq0 : ¬ r1 < 0 := by omega
          have hq1 : ¬ 65535 < r1 := by omega
          have HR : Hid (rcode (s1, r1) (x.rs.take i) = 0) := Lib.hid (by simp only [rcode, HM.out, HN.out, costOk]; simp [hq])
          clear hq
          go_wp2
          first | go_ret2 | go_ret
          exact ⟨by rw [HR.out]; rfl, below_next HB1.out HB.out⟩
        · have HR : Hid (rcode (s1, r1) (x.rs.take i) = 103) := Lib.hid (by simp only [rcode, HM.out, HN.out, costOk]; simp [hq])
          by_cases hq0 : r1 < 0
          · clear hq
            go_wp2
            first | go_ret2 | go_ret
            exact ⟨by rw [HR.out]; rfl, below_next HB1.out HB.out⟩
          · have hq1 : 65535 < r1 := by omega
            clear hq
            go_wp2
            first | go_ret2 | go_ret
            exact ⟨by rw [HR.out]; rfl, below_next HB1.out HB.out⟩
set_option maxRecDepth 100000 in
set_option maxHeartbeats 4000000 in
theorem dlink_any (M : Cm) (x : Cfg) (i : Nat) (w : World) (h : DW w M x) (hi : i < x.ls.length) (hs : ∀ y ∈ x.ls, (str y.1).size ≤ 9223372036854775807) :
    Calls Tryz.prog 142 #[.agg #[.slice M.r.A M.r.n M.r.c, .slice M.l.A M.l.n M.l.c, .slice M.p.A M.p.n M.p.c, .slice M.o.A M.o.n M.o.c, .slice M.g.A M.g.n M.g.c, .slice M.s.A M.s.n M.s.c, .slice M.m.A M.m.n M.m.c], .int .i64 (i : Int)] w fun e w' => e = .returned (.int .i64 (atC (lcode) x.ls i)) ∧ Below w.heap.size w w' := by
  obtain ⟨b, o, ⟨s1, a1, b1⟩, hA, hb, hx, e0, e1, e2⟩ := ILink.cells h.l (i := i) (by have := h.l.1; omega)
  have HC := Lib.hid (atC_at (f := lcode) hx)
  have HX := Lib.hid hx
  have hi0 : (i : Int) < (M.l.n : Int) := by have := h.l.1; omega
  have hi1 : (0 : Int) ≤ (i : Int) := by omega
  have H := Lib.hid h
  have HA := Lib.hid hA
  clear hA
  obtain ⟨W0, hW0, hb0, hk0⟩ := lay1 w #[.slice M.r.A M.r.n M.r.c, .slice M.l.A M.l.n M.l.c, .slice M.p.A M.p.n M.p.c, .slice M.o.A M.o.n M.o.c, .slice M.g.A M.g.n M.g.c, .slice M.s.A M.s.n M.s.c, .slice M.m.A M.m.n M.m.c] 30
  obtain ⟨W1, hW1, hb1, hk1⟩ := lay1 W0 #[.string (str s1), .int .u32 a1, .int .i64 b1] 125
  have HB0 := Lib.hid hb0
  have HB1 := Lib.hid (below_next hb0 hb1)
  have HK0 := Lib.hid (hk0.next hb1)
  have HK1 := Lib.hid hk1
  have HW1 := Lib.hid hW1
  rw [HC.out]
  clear h hx hb1 hk1 hW1
  go_enter Tryz.func142, Tryz.ntmps142
  go_upto_region 1 with fail
  rw [← hW0]
  have y0 : W0.cell? ⟨w.heap.size, 1, none⟩ = some (.slice M.l.A M.l.n M.l.c) := hk0.cell 1
  rw [HA.out] at y0
  replace e0 := dcell_up e0 hb0
  replace e1 := dcell_up e1 hb0
  replace e2 := dcell_up e2 hb0
  clear hW0 hb0 hk0
  go_upto_region 2 with fail
  rw [← HW1.out]
  clear y0 e0 e1 e2 HW1 hb
  have hr := Below.refl W1.heap.size W1
  have k0 : ∀ W, Below W1.heap.size W1 W → W.cell? ⟨W0.heap.size, 0, none⟩ = some (.string (str s1)) := fun W hW => (HK1.out.next hW).cell 0
  have k1 : ∀ W, Below W1.heap.size W1 W → W.cell? ⟨W0.heap.size, 1, none⟩ = some (.int .u32 a1) := fun W hW => (HK1.out.next hW).cell 1
  have k2 : ∀ W, Below W1.heap.size W1 W → W.cell? ⟨W0.heap.size, 2, none⟩ = some (.int .i64 b1) := fun W hW => (HK1.out.next hW).cell 2
  have cl : ∀ W, Below W1.heap.size W1 W → W.cell? ⟨w.heap.size, 1, none⟩ = some (.slice M.l.A M.l.n M.l.c) := fun W hW => (HK0.out.next hW).cell 1
  have HS := Lib.hid (hs _ (List.mem_of_getElem? HX.out))
  have hin : i ≤ M.l.n := by have := H.out.l.1; omega
  have hib : i ≤ 1000000 := by have := H.out.lok.2; omega
  dsimp only at HS
  clear hs hi
  cases hM : nameOk s1 with
  | false =>
    have HR : Hid (lcode (s1, a1, b1) (x.ls.take i) = 109) := Lib.hid (by simp [lcode, hM])
    have hN : nmC (nameOk (str s1).data.toList) = 109 := by rw [str_data, hM]; rfl
    clear hM
    go_wp2_with (go_at_call 206; (with_reducible refine (rname_big _ _ HS.out).mono ?_); rintro e w2 ⟨rfl, hw2⟩; obtain rfl := hw2; rw [hN])
    go_ret
    exact ⟨by rw [HR.out]; rfl, HB1.out⟩
  | true =>
    have hN : nmC (nameOk (str s1).data.toList) = 0 := by rw [str_data, hM]; rfl
    have HM := Lib.hid hM
    clear hM
    go_wp2_with (go_at_call 206; (with_reducible refine (rname_big _ _ HS.out).mono ?_); rintro e w2 ⟨rfl, hw2⟩; obtain rfl := hw2; rw [hN])
    go_loopw [6] (fun iv wr => ∃ k : Nat, k ≤ i ∧ iv = .int .i64 k ∧ Hid (((x.ls.take k).any fun y => y.1 == s1) = false) ∧ Hid (Below W1.heap.size W1 wr)) (fun iv _ => i - (intOf iv).toNat)
    case atStart => exact ⟨0, by omega, rfl, Lib.hid rfl, Lib.hid (Below.refl _ _)⟩
    case round =>
      obtain ⟨k, hk, rfl, HN, HB⟩ := hrel
      rcases Nat.lt_or_ge k i with hlt | hge
      · obtain ⟨bk, ok, ⟨s2, r2, u2⟩, hA2, hbk, hxk, f0, f1, f2⟩ := ILink.cells (IR.next H.out.l (below_next HB1.out HB.out)) (i := k) (by omega)
        have HXK := Lib.hid hxk
        have crp : ∀ p : Snc wr, p.W.cell? ⟨w.heap.size, 1, none⟩ = some (.slice (some ⟨bk, ok, none⟩) M.l.n M.l.c) := fun p => by rw [← hA2]; exact cl _ (below_next HB.out p.b)
        have k0p : ∀ p : Snc wr, p.W.cell? ⟨W0.heap.size, 0, none⟩ = some (.string (str s1)) := fun p => k0 _ (below_next HB.out p.b)
        have f0p := Snc.all fun W (hW : Below wr.heap.size wr W) => (hW.cell (p := ⟨bk, ok + k * 3, none⟩) hbk).trans f0
        have l1 : (k : Int) < (i : Int) := by omega
        have l2 : (k : Int) < (M.l.n : Int) := by omega
        have l3 : (0 : Int) ≤ (k : Int) := by omega
        clear hxk hA2 f0 f1 f2 hbk hr k0 k1 k2 cl
        cases hV : (s2 == s1) with
        | true =>
          have he : ((str s2).toList == (str s1).toList) = true := by rw [str_beq]; exact hV
          have HR : Hid (lcode (s1, a1, b1) (x.ls.take i) = 110) := Lib.hid (by
            have h2 := any_hit (p := fun y => y.1 == s1) HXK.out hlt hV
            simp only [lcode, HM.out, h2, if_true, Bool.true_eq_false, if_false])
          clear hV
          go_upto_region 7 with fail
          refine wp_region_since (by kernel_rfl) (by kernel_rfl) ?_
          repeat (go_big_quiet_step (fail))
          refine wpQuiet_nil ?_
          rintro w5 ⟨P5, rfl⟩
          have HB5 := Lib.hid (below_next HB.out P5.b)
          clear crp k0p f0p he
          go_wp2
          first | go_ret2 | go_ret
          exact ⟨by rw [HR.out]; rfl, below_next HB1.out HB5.out⟩
        | false =>
          have he : ((str s2).toList == (str s1).toList) = false := by rw [str_beq]; exact hV
          have HN2 : Hid (((x.ls.take (k + 1)).any fun y => y.1 == s1) = false) := Lib.hid (by rw [any_next HXK.out, HN.out]; exact hV)
          clear hV
          go_upto_region 7 with fail
          refine wp_region_since (by kernel_rfl) (by kernel_rfl) ?_
          repeat (go_big_quiet_step (fail))
          refine wpQuiet_nil ?_
          rintro w5 ⟨P5, rfl⟩
          have HB5 := Lib.hid (below_next HB.out P5.b)
          clear crp k0p f0p he
          go_wp2
          go_roundw
          case rel => exact ⟨k + 1, by omega, by go_num, HN2, HB5⟩
          case measure => simp [intOf]; omega
      · obtain rfl : i = k := by omega
        have hd : decide ((i : Int) < (i : Int)) = false := by simp
        have hr := HB.out
        have HU : Hid (0 ≤ a1 ∧ a1 ≤ 4294967295) := Lib.hid (H.out.ok.1 _ (List.mem_of_getElem? HX.out))
        cases hV : Ad.valid a1 b1 with
        | false =>
          have HR : Hid (lcode (s1, a1, b1) (x.ls.take i) = 103) := Lib.hid (by simp only [lcode, HM.out, HN.out, hV]; simp)
          go_wp2_with (go_at_call 110; (with_reducible refine (rvalid_any _ _ _ HU.out.1 HU.out.2).mono ?_); rintro e w4 ⟨rfl, hb4⟩; rw [hV]; have hr4 := below_next hr hb4; clear hb4)
          first | go_ret2 | go_ret
          exact ⟨by rw [HR.out]; rfl, below_next HB1.out hr4⟩
        | true =>
          have HV := Lib.hid hV
          go_upto_region 11 with (go_at_call 110; (with_reducible refine (rvalid_any _ _ _ HU.out.1 HU.out.2).mono ?_); rintro e w4 ⟨rfl, hb4⟩; rw [hV]; have hr4 := below_next hr hb4; clear hb4)
          have HB4 := Lib.hid (below_next HB1.out hr4)
          have k1p : ∀ p : Snc w4, p.W.cell? ⟨W0.heap.size, 1, none⟩ = some (.int .u32 a1) := fun p => k1 _ (below_next hr4 p.b)
          have k2p : ∀ p : Snc w4, p.W.cell? ⟨W0.heap.size, 2, none⟩ = some (.int .i64 b1) := fun p => k2 _ (below_next hr4 p.b)
          have G0 : ∀ p : Snc w4, Calls Tryz.prog 75 #[] p.W fun e w' => e = .returned (.agg #[.int .u32 3758096384, .int .i64 4]) ∧ ∃ q : Snc w4, w' = q.W := fun p => Calls.since (rgroups_any p.W)
          have G1 : ∀ p : Snc w4, Calls Tryz.prog 207 #[.agg #[.int .u32 a1, .int .i64 b1], .agg #[.int .u32 3758096384, .int .i64 4]] p.W fun e w' => e = .returned (.bool (Ad.within a1 b1 3758096384 4)) ∧ ∃ q : Snc w4, w' = q.W := fun p => Calls.since (rwithin_any a1 b1 3758096384 4 p.W HU.out.1 HU.out.2 (by decide) (by decide))
          have G2 : ∀ p : Snc w4, Calls Tryz.prog 207 #[.agg #[.int .u32 3758096384, .int .i64 4], .agg #[.int .u32 a1, .int .i64 b1]] p.W fun e w' => e = .returned (.bool (Ad.within 3758096384 4 a1 b1)) ∧ ∃ q : Snc w4, w' = q.W := fun p => Calls.since (rwithin_any 3758096384 4 a1 b1 p.W (by decide) (by decide) HU.out.1 HU.out.2)
          have HR0 : Hid (lcode (s1, a1, b1) (x.ls.take i) = if Ad.within a1 b1 3758096384 4 then 113 else if Ad.within 3758096384 4 a1 b1 then 113 else 0) := Lib.hid (by simp only [lcode, HM.out, HN.out, HV.out]; simp)
          clear k0 k1 k2 hV hr hd
          cases hw1 : Ad.within a1 b1 3758096384 4 with
          | true =>
            rw [hw1] at G1 HR0
            have HR : Hid (lcode (s1, a1, b1) (x.ls.take i) = 113) := Lib.hid (by rw [HR0.out]; rfl)
            clear hw1
            refine wp_region_since (by kernel_rfl) (by kernel_rfl) ?_
            repeat (go_big_quiet_step (first | (go_at_call 75; exact G0 _) | (go_at_call 207; (first | with_reducible exact G1 _ | with_reducible exact G2 _))))
            refine wpQuiet_nil ?_
            rintro w5 ⟨P5, rfl⟩
            have HB5 := Lib.hid (below_next HB4.out P5.b)
            clear G0 G1 G2 k1p k2p
            go_wp2
            first | go_ret2 | go_ret
            exact ⟨by rw [HR.out]; rfl, HB5.out⟩
          | false =>
            rw [hw1] at G1 HR0
            cases hw2 : Ad.within 3758096384 4 a1 b1 with
            | true =>
              rw [hw2] at G2 HR0
              have HR : Hid (lcode (s1, a1, b1) (x.ls.take i) = 113) := Lib.hid (by rw [HR0.out]; rfl)
              clear hw1 hw2
              refine wp_region_since (by kernel_rfl) (by kernel_rfl) ?_
              repeat (go_big_quiet_step (first | (go_at_call 75; exact G0 _) | (go_at_call 207; (first | with_reducible exact G1 _ | with_reducible exact G2 _))))
              refine wpQuiet_nil ?_
              rintro w5 ⟨P5, rfl⟩
              have HB5 := Lib.hid (below_next HB4.out P5.b)
              clear G0 G1 G2 k1p k2p
              go_wp2
              first | go_ret2 | go_ret
              exact ⟨by rw [HR.out]; rfl, HB5.out⟩
            | false =>
              rw [hw2] at G2 HR0
              have HR : Hid (lcode (s1, a1, b1) (x.ls.take i) = 0) := Lib.hid (by rw [HR0.out]; rfl)
              clear hw1 hw2
              refine wp_region_since (by kernel_rfl) (by kernel_rfl) ?_
              repeat (go_big_quiet_step (first | (go_at_call 75; exact G0 _) | (go_at_call 207; (first | with_reducible exact G1 _ | with_reducible exact G2 _))))
              refine wpQuiet_nil ?_
              rintro w5 ⟨P5, rfl⟩
              have HB5 := Lib.hid (below_next HB4.out P5.b)
              clear G0 G1 G2 k1p k2p
              go_wp2
              first | go_ret2 | go_ret
              exact ⟨by rw [HR.out]; rfl, HB5.out⟩
set_option maxRecDepth 100000 in
set_option maxHeartbeats 4000000 in
theorem dgroups_any (M : Cm) (x : Cfg) (i : Nat) (w : World) (h : DW w M x) (hi : i < x.gs.length) :
    Calls Tryz.prog 145 #[.agg #[.slice M.r.A M.r.n M.r.c, .slice M.l.A M.l.n M.l.c, .slice M.p.A M.p.n M.p.c, .slice M.o.A M.o.n M.o.c, .slice M.g.A M.g.n M.g.c, .slice M.s.A M.s.n M.s.c, .slice M.m.A M.m.n M.m.c], .int .i64 (i : Int)] w fun e w' => e = .returned (.int .i64 (atC (gcode) x.gs i)) ∧ Below w.heap.size w w' := by
  obtain ⟨b, o, ⟨a1, b1, r1⟩, hA, hb, hx, e0, e1, e2⟩ := IRange.cells h.g (i := i) (by have := h.g.1; omega)
  have HC := Lib.hid (atC_at (f := gcode) hx)
  have HX := Lib.hid hx
  have hi0 : (i : Int) < (M.g.n : Int) := by have := h.g.1; omega
  have hi1 : (0 : Int) ≤ (i : Int) := by omega
  have H := Lib.hid h
  have HA := Lib.hid hA
  clear hA
  obtain ⟨W0, hW0, hb0, hk0⟩ := lay1 w #[.slice M.r.A M.r.n M.r.c, .slice M.l.A M.l.n M.l.c, .slice M.p.A M.p.n M.p.c, .slice M.o.A M.o.n M.o.c, .slice M.g.A M.g.n M.g.c, .slice M.s.A M.s.n M.s.c, .slice M.m.A M.m.n M.m.c] 30
  obtain ⟨W1, hW1, hb1, hk1⟩ := lay1 W0 #[.int .u32 a1, .int .i64 b1, .int .u32 r1] 149
  have HB0 := Lib.hid hb0
  have HB1 := Lib.hid (below_next hb0 hb1)
  have HK0 := Lib.hid (hk0.next hb1)
  have HK1 := Lib.hid hk1
  have HW1 := Lib.hid hW1
  rw [HC.out]
  clear h hx hb1 hk1 hW1
  go_enter Tryz.func145, Tryz.ntmps145
  go_upto_region 1 with fail
  rw [← hW0]
  have y0 : W0.cell? ⟨w.heap.size, 4, none⟩ = some (.slice M.g.A M.g.n M.g.c) := hk0.cell 4
  rw [HA.out] at y0
  replace e0 := dcell_up e0 hb0
  replace e1 := dcell_up e1 hb0
  replace e2 := dcell_up e2 hb0
  clear hW0 hb0 hk0
  go_upto_region 2 with fail
  rw [← HW1.out]
  clear y0 e0 e1 e2 HW1 hb
  have hr := Below.refl W1.heap.size W1
  have k0 : ∀ W, Below W1.heap.size W1 W → W.cell? ⟨W0.heap.size, 0, none⟩ = some (.int .u32 a1) := fun W hW => (HK1.out.next hW).cell 0
  have k1 : ∀ W, Below W1.heap.size W1 W → W.cell? ⟨W0.heap.size, 1, none⟩ = some (.int .i64 b1) := fun W hW => (HK1.out.next hW).cell 1
  have k2 : ∀ W, Below W1.heap.size W1 W → W.cell? ⟨W0.heap.size, 2, none⟩ = some (.int .u32 r1) := fun W hW => (HK1.out.next hW).cell 2
  have cg : ∀ W, Below W1.heap.size W1 W → W.cell? ⟨w.heap.size, 4, none⟩ = some (.slice M.g.A M.g.n M.g.c) := fun W hW => (HK0.out.next hW).cell 4
  have HU0 := Lib.hid (H.out.ok.2.2.2.1 _ (List.mem_of_getElem? HX.out))
  have HU : Hid (0 ≤ a1 ∧ a1 ≤ 4294967295) := Lib.hid HU0.out.1
  have HU2 : Hid (0 ≤ r1 ∧ r1 ≤ 4294967295) := Lib.hid HU0.out.2
  have hin : i ≤ M.g.n := by have := H.out.g.1; omega
  have hib : i ≤ 1000000 := by have := H.out.gok.2; omega
  clear hi
  cases hV : Ad.valid a1 b1 with
  | false =>
    have HR : Hid (gcode (a1, b1, r1) (x.gs.take i) = 103) := Lib.hid (by simp [gcode, hV])
    go_wp2_with (go_at_call 110; (with_reducible refine (rvalid_any _ _ _ HU.out.1 HU.out.2).mono ?_); rintro e w4 ⟨rfl, hb4⟩; rw [hV]; have hr4 := below_next hr hb4; clear hb4)
    go_ret
    exact ⟨by rw [HR.out]; rfl, below_next HB1.out hr4⟩
  | true =>
    have HV := Lib.hid hV
    go_upto_region 4 with (go_at_call 110; (with_reducible refine (rvalid_any _ _ _ HU.out.1 HU.out.2).mono ?_); rintro e w4 ⟨rfl, hb4⟩; rw [hV]; have hr4 := below_next hr hb4; clear hb4)
    have HB4 := Lib.hid (below_next HB1.out hr4)
    have HR4 := Lib.hid hr4
    have k0p : ∀ p : Snc w4, p.W.cell? ⟨W0.heap.size, 0, none⟩ = some (.int .u32 a1) := fun p => k0 _ (below_next hr4 p.b)
    have k1p : ∀ p : Snc w4, p.W.cell? ⟨W0.heap.size, 1, none⟩ = some (.int .i64 b1) := fun p => k1 _ (below_next hr4 p.b)
    have k2p : ∀ p : Snc w4, p.W.cell? ⟨W0.heap.size, 2, none⟩ = some (.int .u32 r1) := fun p => k2 _ (below_next hr4 p.b)
    have G0 : ∀ p : Snc w4, Calls Tryz.prog 75 #[] p.W fun e w' => e = .returned (.agg #[.int .u32 3758096384, .int .i64 4]) ∧ ∃ q : Snc w4, w' = q.W := fun p => Calls.since (rgroups_any p.W)
    have G1 : ∀ p : Snc w4, Calls Tryz.prog 207 #[.agg #[.int .u32 a1, .int .i64 b1], .agg #[.int .u32 3758096384, .int .i64 4]] p.W fun e w' => e = .returned (.bool (Ad.within a1 b1 3758096384 4)) ∧ ∃ q : Snc w4, w' = q.W := fun p => Calls.since (rwithin_any a1 b1 3758096384 4 p.W HU.out.1 HU.out.2 (by decide) (by decide))
    have G3 : ∀ p : Snc w4, Calls Tryz.prog 209 #[.int .u32 r1] p.W fun e w' => e = .returned (.bool (Ad.group r1)) ∧ ∃ q : Snc w4, w' = q.W := fun p => Calls.since_same (rgroup_any r1 p.W HU2.out.1 HU2.out.2)
    have KK := Lib.hid (And.intro k0 (And.intro k1 cg))
    clear k0 k1 k2 cg hr hr4 hV
    cases hw : Ad.within a1 b1 3758096384 4 with
    | false =>
      rw [hw] at G1
      have HR : Hid (gcode (a1, b1, r1) (x.gs.take i) = 113) := Lib.hid (by simp [gcode, HV.out, hw])
      clear hw
      refine wp_region_since (by kernel_rfl) (by kernel_rfl) ?_
      repeat (go_big_quiet_step (first | (go_at_call 75; exact G0 _) | (go_at_call 207; with_reducible exact G1 _) | (go_at_call 209; with_reducible exact G3 _)))
      refine wpQuiet_nil ?_
      rintro w5 ⟨P5, rfl⟩
      have HB5 := Lib.hid (below_next HB4.out P5.b)
      clear G0 G1 G3 k0p k1p k2p
      go_wp2
      first | go_ret2 | go_ret
      exact ⟨by rw [HR.out]; rfl, HB5.out⟩
    | true =>
      rw [hw] at G1
      have HW := Lib.hid hw
      clear hw
      cases hG : Ad.group r1 with
      | true =>
        rw [hG] at G3
        have HR : Hid (gcode (a1, b1, r1) (x.gs.take i) = 113) := Lib.hid (by simp [gcode, HV.out, HW.out, oneA, hG])
        clear hG
        refine wp_region_since (by kernel_rfl) (by kernel_rfl) ?_
        repeat (go_big_quiet_step (first | (go_at_call 75; exact G0 _) | (go_at_call 207; with_reducible exact G1 _) | (go_at_call 209; with_reducible exact G3 _)))
        refine wpQuiet_nil ?_
        rintro w5 ⟨P5, rfl⟩
        have HB5 := Lib.hid (below_next HB4.out P5.b)
        clear G0 G1 G3 k0p k1p k2p
        go_wp2
        first | go_ret2 | go_ret
        exact ⟨by rw [HR.out]; rfl, HB5.out⟩
      | false =>
        rw [hG] at G3
        have HG := Lib.hid hG
        clear hG
        by_cases hz : r1 = 0
        · have HR : Hid (gcode (a1, b1, r1) (x.gs.take i) = 113) := Lib.hid (by simp [gcode, HV.out, HW.out, oneA, hz])
          have hz' : (r1 == 0) = true := by simp [hz]
          clear hz
          refine wp_region_since (by kernel_rfl) (by kernel_rfl) ?_
          repeat (go_big_quiet_step (first | (go_at_call 75; exact G0 _) | (go_at_call 207; with_reducible exact G1 _) | (go_at_call 209; with_reducible exact G3 _)))
          refine wpQuiet_nil ?_
          rintro w5 ⟨P5, rfl⟩
          have HB5 := Lib.hid (below_next HB4.out P5.b)
          clear G0 G1 G3 k0p k1p k2p hz'
          go_wp2
          first | go_ret2 | go_ret
          exact ⟨by rw [HR.out]; rfl, HB5.out⟩
        · have hz' : (r1 == 0) = false := by simp [hz]
          have HR0 : Hid (gcode (a1, b1, r1) (x.gs.take i) = if (x.gs.take i).any (fun y => y.1 == a1 && y.2.1 == b1) then 110 else 0) := Lib.hid (by simp [gcode, HV.out, HW.out, oneA, HG.out, hz])
          clear hz
          refine wp_region_since (by kernel_rfl) (by kernel_rfl) ?_
          repeat (go_big_quiet_step (first | (go_at_call 75; exact G0 _) | (go_at_call 207; with_reducible exact G1 _) | (go_at_call 209; with_reducible exact G3 _)))
          refine wpQuiet_nil ?_
          rintro w5 ⟨P5, rfl⟩
          have HB5 := Lib.hid (below_next HB4.out P5.b)
          have HB6 := Lib.hid (below_next HR4.out P5.b)
          clear G0 G1 G3 k0p k1p k2p hz'
          generalize P5.W = w5 at *
          go_wp2_with fail
          go_loopw [6] (fun iv wr => ∃ k : Nat, k ≤ i ∧ iv = .int .i64 k ∧ Hid (((x.gs.take k).any fun y => y.1 == a1 && y.2.1 == b1) = false) ∧ Hid (Below W1.heap.size W1 wr)) (fun iv _ => i - (intOf iv).toNat)
          case atStart => exact ⟨0, by omega, rfl, Lib.hid rfl, HB6⟩
          case round =>
            obtain ⟨k, hk, rfl, HN, HB⟩ := hrel
            rcases Nat.lt_or_ge k i with hlt | hge
            · obtain ⟨bk, ok, ⟨a2, b2, r2⟩, hA2, hbk, hxk, f0, f1, f2⟩ := IRange.cells (IR.next H.out.g (below_next HB1.out HB.out)) (i := k) (by omega)
              have HXK := Lib.hid hxk
              have cgp : ∀ p : Snc wr, p.W.cell? ⟨w.heap.size, 4, none⟩ = some (.slice (some ⟨bk, ok, none⟩) M.g.n M.g.c) := fun p => by rw [← hA2]; exact KK.out.2.2 _ (below_next HB.out p.b)
              have k0p : ∀ p : Snc wr, p.W.cell? ⟨W0.heap.size, 0, none⟩ = some (.int .u32 a1) := fun p => KK.out.1 _ (below_next HB.out p.b)
              have k1p : ∀ p : Snc wr, p.W.cell? ⟨W0.heap.size, 1, none⟩ = some (.int .i64 b1) := fun p => KK.out.2.1 _ (below_next HB.out p.b)
              have f0p := Snc.all fun W (hW : Below wr.heap.size wr W) => (hW.cell (p := ⟨bk, ok + k * 3, none⟩) hbk).trans f0
              have f1p := Snc.all fun W (hW : Below wr.heap.size wr W) => (hW.cell (p := ⟨bk, ok + k * 3 + 1, none⟩) hbk).trans f1
              have l1 : (k : Int) < (i : Int) := by omega
              have l2 : (k : Int) < (M.g.n : Int) := by omega
              have l3 : (0 : Int) ≤ (k : Int) := by omega
              have SP : ∀ p : Snc wr, Calls Tryz.prog 210 #[.agg #[.int .u32 a2, .int .i64 b2], .agg #[.int .u32 a1, .int .i64 b1]] p.W fun e w' => e = .returned (.bool (decide (a2 = a1) && decide (b2 = b1))) ∧ ∃ q : Snc wr, w' = q.W := fun p => Calls.since (same_any a2 b2 a1 b1 p.W)
              clear hxk hA2 f0 f1 f2 hbk
              cases hS : (decide (a2 = a1) && decide (b2 = b1)) with
              | true =>
                rw [hS] at SP
                have HR : Hid (gcode (a1, b1, r1) (x.gs.take i) = 110) := Lib.hid (by
                  have h2 := any_hit (p := fun y : Int × Int × Int => y.1 == a1 && y.2.1 == b1) HXK.out hlt (by simpa using hS)
                  rw [HR0.out, h2]; rfl)
                clear hS
                go_upto_region 9 with fail
                refine wp_region_since (by kernel_rfl) (by kernel_rfl) ?_
                repeat (go_big_quiet_step ((go_at_call 210; with_reducible exact SP _)))
                refine wpQuiet_nil ?_
                rintro w5 ⟨P5, rfl⟩
                have HB7 := Lib.hid (below_next HB.out P5.b)
                clear cgp k0p k1p f0p f1p SP
                go_wp2
                first | go_ret2 | go_ret
                exact ⟨by rw [HR.out]; rfl, below_next HB1.out HB7.out⟩
              | false =>
                rw [hS] at SP
                have HN2 : Hid (((x.gs.take (k + 1)).any fun y => y.1 == a1 && y.2.1 == b1) = false) := Lib.hid (by rw [any_next HXK.out, HN.out, Bool.false_or]; rw [← hS]; simp only [Bool.beq_eq_decide_eq])
                clear hS
                go_upto_region 9 with fail
                refine wp_region_since (by kernel_rfl) (by kernel_rfl) ?_
                repeat (go_big_quiet_step ((go_at_call 210; with_reducible exact SP _)))
                refine wpQuiet_nil ?_
                rintro w5 ⟨P5, rfl⟩
                have HB7 := Lib.hid (below_next HB.out P5.b)
                clear cgp k0p k1p f0p f1p SP
                go_wp2
                go_roundw
                case rel => exact ⟨k + 1, by omega, by go_num, HN2, HB7⟩
                case measure => simp [intOf]; omega
            · obtain rfl : i = k := by omega
              have hd : decide ((i : Int) < (i : Int)) = false := by simp
              have HR : Hid (gcode (a1, b1, r1) (x.gs.take i) = 0) := Lib.hid (by rw [HR0.out, HN.out]; rfl)
              go_wp2
              first | go_ret2 | go_ret
              exact ⟨by rw [HR.out]; rfl, below_next HB1.out HB.out⟩
set_option maxRecDepth 100000 in
set_option maxHeartbeats 4000000 in
theorem dport_any (M : Cm) (x : Cfg) (i : Nat) (w : World) (h : DW w M x) (hi : i < x.ps.length) :
    Calls Tryz.prog 143 #[.agg #[.slice M.r.A M.r.n M.r.c, .slice M.l.A M.l.n M.l.c, .slice M.p.A M.p.n M.p.c, .slice M.o.A M.o.n M.o.c, .slice M.g.A M.g.n M.g.c, .slice M.s.A M.s.n M.s.c, .slice M.m.A M.m.n M.m.c], .int .i64 (i : Int)] w fun e w' => e = .returned (.int .i64 (atC (pcode x.rs.length x.ls) x.ps i)) ∧ Below w.heap.size w w' := by
  obtain ⟨b, o, ⟨r1, l1, a1⟩, hA, hb, hx, e0, e1, e2⟩ := IPort.cells h.p (i := i) (by have := h.p.1; omega)
  have HC := Lib.hid (atC_at (f := pcode x.rs.length x.ls) hx)
  have HX := Lib.hid hx
  have hi0 : (i : Int) < (M.p.n : Int) := by have := h.p.1; omega
  have hi1 : (0 : Int) ≤ (i : Int) := by omega
  have H := Lib.hid h
  have HA := Lib.hid hA
  clear hA
  obtain ⟨W0, hW0, hb0, hk0⟩ := lay1 w #[.slice M.r.A M.r.n M.r.c, .slice M.l.A M.l.n M.l.c, .slice M.p.A M.p.n M.p.c, .slice M.o.A M.o.n M.o.c, .slice M.g.A M.g.n M.g.c, .slice M.s.A M.s.n M.s.c, .slice M.m.A M.m.n M.m.c] 30
  obtain ⟨W1, hW1, hb1, hk1⟩ := lay1 W0 #[.int .i64 r1, .int .i64 l1, .int .u32 a1] 80
  have HB0 := Lib.hid hb0
  have HB1 := Lib.hid (below_next hb0 hb1)
  have HK0 := Lib.hid (hk0.next hb1)
  have HK1 := Lib.hid hk1
  have HW1 := Lib.hid hW1
  rw [HC.out]
  clear h hx hb1 hk1 hW1
  go_enter Tryz.func143, Tryz.ntmps143
  go_upto_region 1 with fail
  rw [← hW0]
  have y0 : W0.cell? ⟨w.heap.size, 2, none⟩ = some (.slice M.p.A M.p.n M.p.c) := hk0.cell 2
  rw [HA.out] at y0
  replace e0 := dcell_up e0 hb0
  replace e1 := dcell_up e1 hb0
  replace e2 := dcell_up e2 hb0
  clear hW0 hb0 hk0
  go_upto_region 2 with fail
  rw [← HW1.out]
  clear y0 e0 e1 e2 HW1 hb
  have hr := Below.refl W1.heap.size W1
  have k0 : ∀ W, Below W1.heap.size W1 W → W.cell? ⟨W0.heap.size, 0, none⟩ = some (.int .i64 r1) := fun W hW => (HK1.out.next hW).cell 0
  have k1 : ∀ W, Below W1.heap.size W1 W → W.cell? ⟨W0.heap.size, 1, none⟩ = some (.int .i64 l1) := fun W hW => (HK1.out.next hW).cell 1
  have k2 : ∀ W, Below W1.heap.size W1 W → W.cell? ⟨W0.heap.size, 2, none⟩ = some (.int .u32 a1) := fun W hW => (HK1.out.next hW).cell 2
  have cr : ∀ W, Below W1.heap.size W1 W → W.cell? ⟨w.heap.size, 0, none⟩ = some (.slice M.r.A M.r.n M.r.c) := fun W hW => (HK0.out.next hW).cell 0
  have cl : ∀ W, Below W1.heap.size W1 W → W.cell? ⟨w.heap.size, 1, none⟩ = some (.slice M.l.A M.l.n M.l.c) := fun W hW => (HK0.out.next hW).cell 1
  have cp : ∀ W, Below W1.heap.size W1 W → W.cell? ⟨w.heap.size, 2, none⟩ = some (.slice M.p.A M.p.n M.p.c) := fun W hW => (HK0.out.next hW).cell 2
  have HU := Lib.hid (H.out.ok.2.1 _ (List.mem_of_getElem? HX.out))
  have HNR : Hid (x.rs.length = M.r.n) := Lib.hid H.out.r.1
  have HNL : Hid (x.ls.length = M.l.n) := Lib.hid H.out.l.1
  have hin : i ≤ M.p.n := by have := H.out.p.1; omega
  have hib : i ≤ 1000000 := by have := H.out.pok.2; omega
  dsimp only at HU
  clear hi
  cases hP : plOk r1 M.r.n with
  | false =>
    have HR : Hid (pcode x.rs.length x.ls (r1, l1, a1) (x.ps.take i) = 111) := Lib.hid (by simp [pcode, HNR.out, hP])
    go_wp2_with (go_at_call 208; (with_reducible refine (place_any _ _ _).mono ?_); rintro e w2 ⟨rfl, hw2⟩; obtain rfl := hw2; (first | rw [hP] | rw [hQ]))
    go_ret
    exact ⟨by rw [HR.out]; rfl, HB1.out⟩
  | true =>
    cases hQ : plOk l1 M.l.n with
    | false =>
      have HR : Hid (pcode x.rs.length x.ls (r1, l1, a1) (x.ps.take i) = 111) := Lib.hid (by simp [pcode, HNR.out, HNL.out, hP, hQ])
      go_wp2_with (go_at_call 208; (with_reducible refine (place_any _ _ _).mono ?_); rintro e w2 ⟨rfl, hw2⟩; obtain rfl := hw2; (first | rw [hP] | rw [hQ]))
      go_ret
      exact ⟨by rw [HR.out]; rfl, HB1.out⟩
    | true =>
      have HPQ := Lib.hid (And.intro hP hQ)
      go_upto_region 4 with (go_at_call 208; (with_reducible refine (place_any _ _ _).mono ?_); rintro e w2 ⟨rfl, hw2⟩; obtain rfl := hw2; (first | rw [hP] | rw [hQ]))
      clear hP hQ
      have hlr : 0 ≤ l1 ∧ l1 < (M.l.n : Int) := by have := HPQ.out.2; unfold plOk at this; simpa using this
      obtain ⟨ln, rfl⟩ : ∃ ln : Nat, l1 = ln := ⟨l1.toNat, by omega⟩
      obtain ⟨bl, ol, ⟨s3, a3, b3⟩, hAl, hbl, hxl, g0, g1, g2⟩ := ILink.cells (IR.next H.out.l HB1.out) (i := ln) (by omega)
      have HU3 := Lib.hid (H.out.ok.1 _ (List.mem_of_getElem? hxl))
      have HLD : Hid (x.ls.getD ((ln : Int)).toNat ([], 0, 0) = (s3, a3, b3)) := Lib.hid (by rw [Int.toNat_natCast, List.getD_eq_getElem?_getD, hxl]; rfl)
      dsimp only at HU3
      have hl0 : (0 : Int) ≤ (ln : Int) := by omega
      have hl1 : (ln : Int) < (M.l.n : Int) := by omega
      have k1p : ∀ p : Snc W1, p.W.cell? ⟨W0.heap.size, 1, none⟩ = some (.int .i64 (ln : Int)) := fun p => k1 _ p.b
      have k2p : ∀ p : Snc W1, p.W.cell? ⟨W0.heap.size, 2, none⟩ = some (.int .u32 a1) := fun p => k2 _ p.b
      have clp : ∀ p : Snc W1, p.W.cell? ⟨w.heap.size, 1, none⟩ = some (.slice (some ⟨bl, ol, none⟩) M.l.n M.l.c) := fun p => by rw [← hAl]; exact cl _ p.b
      have g1p := Snc.all fun W (hW : Below W1.heap.size W1 W) => (hW.cell (p := ⟨bl, ol + ln * 3 + 1, none⟩) hbl).trans g1
      have g2p := Snc.all fun W (hW : Below W1.heap.size W1 W) => (hW.cell (p := ⟨bl, ol + ln * 3 + 2, none⟩) hbl).trans g2
      have GI : ∀ p : Snc W1, Calls Tryz.prog 51 #[.agg #[.int .u32 a3, .int .i64 b3], .int .u32 a1] p.W fun e w' => e = .returned (.bool (Ad.isIn a3 b3 a1)) ∧ ∃ q : Snc W1, w' = q.W := fun p => Calls.since (rin_any a3 b3 a1 p.W HU3.out.1 HU3.out.2 HU.out.1 HU.out.2)
      have KK := Lib.hid (And.intro k0 (And.intro k1 (And.intro k2 cp)))
      clear k0 k1 k2 cr cl cp hr hAl hbl hxl g0 g1 g2 hlr
      by_cases hz : a1 = 0
      · have HR : Hid (pcode x.rs.length x.ls (r1, (ln : Int), a1) (x.ps.take i) = 112) := Lib.hid (by rw [pcode, HNR.out, HNL.out, HPQ.out.1, HPQ.out.2, HLD.out]; simp [onL, hz])
        have hz' : (a1 == 0) = true := by simp [hz]
        clear hz
        refine wp_region_since (by kernel_rfl) (by kernel_rfl) ?_
        repeat (go_big_quiet_step ((go_at_call 51; with_reducible exact GI _)))
        refine wpQuiet_nil ?_
        rintro w5 ⟨P5, rfl⟩
        have HB5 := Lib.hid P5.b
        clear k1p k2p clp g1p g2p GI
        go_wp2
        first | go_ret2 | go_ret
        exact ⟨by rw [HR.out]; rfl, below_next HB1.out HB5.out⟩
      · have hz' : (a1 == 0) = false := by simp [hz]
        have HZ := Lib.hid hz
        clear hz
        cases hI : Ad.isIn a3 b3 a1 with
        | false =>
          rw [hI] at GI
          have HR : Hid (pcode x.rs.length x.ls (r1, (ln : Int), a1) (x.ps.take i) = 112) := Lib.hid (by rw [pcode, HNR.out, HNL.out, HPQ.out.1, HPQ.out.2, HLD.out]; simp [onL, hI])
          clear hI
          refine wp_region_since (by kernel_rfl) (by kernel_rfl) ?_
          repeat (go_big_quiet_step ((go_at_call 51; with_reducible exact GI _)))
          refine wpQuiet_nil ?_
          rintro w5 ⟨P5, rfl⟩
          have HB5 := Lib.hid P5.b
          clear k1p k2p clp g1p g2p GI
          go_wp2
          first | go_ret2 | go_ret
          exact ⟨by rw [HR.out]; rfl, below_next HB1.out HB5.out⟩
        | true =>
          rw [hI] at GI
          have HR0 : Hid (pcode x.rs.length x.ls (r1, (ln : Int), a1) (x.ps.take i) = if (x.ps.take i).any (fun y => y.2.2 == a1 || y.1 == r1 && y.2.1 == (ln : Int)) then 110 else 0) := Lib.hid (by rw [pcode, HNR.out, HNL.out, HPQ.out.1, HPQ.out.2, HLD.out]; simp [onL, hI, HZ.out])
          clear hI
          refine wp_region_since (by kernel_rfl) (by kernel_rfl) ?_
          repeat (go_big_quiet_step ((go_at_call 51; with_reducible exact GI _)))
          refine wpQuiet_nil ?_
          rintro w5 ⟨P5, rfl⟩
          have HB5 := Lib.hid P5.b
          clear k1p k2p clp g1p g2p GI hz'
          generalize P5.W = w5 at *
          go_wp2_with fail
          go_loopw [6] (fun iv wr => ∃ k : Nat, k ≤ i ∧ iv = .int .i64 k ∧ Hid (((x.ps.take k).any fun y => y.2.2 == a1 || y.1 == r1 && y.2.1 == (ln : Int)) = false) ∧ Hid (Below W1.heap.size W1 wr)) (fun iv _ => i - (intOf iv).toNat)
          case atStart => exact ⟨0, by omega, rfl, Lib.hid rfl, HB5⟩
          case round =>
            obtain ⟨k, hk, rfl, HN, HB⟩ := hrel
            rcases Nat.lt_or_ge k i with hlt | hge
            · obtain ⟨bk, ok, ⟨r2, l2, a2⟩, hA2, hbk, hxk, f0, f1, f2⟩ := IPort.cells (IR.next H.out.p (below_next HB1.out HB.out)) (i := k) (by omega)
              have HXK := Lib.hid hxk
              have q1 : (k : Int) < (i : Int) := by omega
              have q2 : (k : Int) < (M.p.n : Int) := by omega
              have q3 : (0 : Int) ≤ (k : Int) := by omega
              have cpp : wr.cell? ⟨w.heap.size, 2, none⟩ = some (.slice (some ⟨bk, ok, none⟩) M.p.n M.p.c) := by rw [← hA2]; exact KK.out.2.2.2 _ HB.out
              clear hxk hA2
              go_upto_region 10 with fail
              obtain ⟨W9, hW9, hb9, hk9⟩ := lay1 wr #[.int .i64 r2, .int .i64 l2, .int .u32 a2] 80
              rw [← hW9]
              have HB9 := Lib.hid (below_next HB.out hb9)
              have x0 := KK.out.1 _ HB9.out
              have x1 := KK.out.2.1 _ HB9.out
              have x2 := KK.out.2.2.1 _ HB9.out
              have z0 := hk9.cell 0
              have z1 := hk9.cell 1
              have z2 := hk9.cell 2
              simp only [List.getElem?_toArray, List.getElem?_cons_zero, List.getElem?_cons_succ] at z0 z1 z2
              clear hW9 hb9 hk9 cpp f0 f1 f2 hbk
              generalize wr.heap.size = gy at *
              have key : (a2 == a1) = true ∨ ((a2 == a1) = false ∧ (r2 == r1) = false) ∨ ((a2 == a1) = false ∧ (r2 == r1) = true ∧ (l2 == (ln : Int)) = false) ∨ ((a2 == a1) = false ∧ (r2 == r1) = true ∧ (l2 == (ln : Int)) = true) := by
                cases (a2 == a1) <;> cases (r2 == r1) <;> cases (l2 == (ln : Int)) <;> simp
              rcases key with h1 | ⟨h1, h2⟩ | ⟨h1, h2, h3⟩ | ⟨h1, h2, h3⟩
              · have HR : Hid (pcode x.rs.length x.ls (r1, (ln : Int), a1) (x.ps.take i) = 110) := Lib.hid (by
                  have hh := any_hit (p := fun y : Int × Int × Int => y.2.2 == a1 || y.1 == r1 && y.2.1 == (ln : Int)) HXK.out hlt (by show (a2 == a1 || r2 == r1 && l2 == (ln : Int)) = true; rw [h1]; rfl)
                  rw [HR0.out, hh]; rfl)
                go_wp2
                first | go_ret2 | go_ret
                exact ⟨by rw [HR.out]; rfl, below_next HB1.out HB9.out⟩
              · have HN2 : Hid (((x.ps.take (k + 1)).any fun y => y.2.2 == a1 || y.1 == r1 && y.2.1 == (ln : Int)) = false) := Lib.hid (by rw [any_next HXK.out, HN.out, Bool.false_or]; show (a2 == a1 || r2 == r1 && l2 == (ln : Int)) = false; rw [h1, h2]; rfl)
                go_wp2
                go_roundw
                case rel => exact ⟨k + 1, by omega, by go_num, HN2, HB9⟩
                case measure => simp [intOf]; omega
              · have HN2 : Hid (((x.ps.take (k + 1)).any fun y => y.2.2 == a1 || y.1 == r1 && y.2.1 == (ln : Int)) = false) := Lib.hid (by rw [any_next HXK.out, HN.out, Bool.false_or]; show (a2 == a1 || r2 == r1 && l2 == (ln : Int)) = false; rw [h1, h2, h3]; rfl)
                go_wp2
                go_roundw
                case rel => exact ⟨k + 1, by omega, by go_num, HN2, HB9⟩
                case measure => simp [intOf]; omega
              · have HR : Hid (pcode x.rs.length x.ls (r1, (ln : Int), a1) (x.ps.take i) = 110) := Lib.hid (by
                  have hh := any_hit (p := fun y : Int × Int × Int => y.2.2 == a1 || y.1 == r1 && y.2.1 == (ln : Int)) HXK.out hlt (by show (a2 == a1 || r2 == r1 && l2 == (ln : Int)) = true; rw [h1, h2, h3]; rfl)
                  rw [HR0.out, hh]; rfl)
                go_wp2
                first | go_ret2 | go_ret
                exact ⟨by rw [HR.out]; rfl, below_next HB1.out HB9.out⟩
            · obtain rfl : i = k := by omega
              have hd : decide ((i : Int) < (i : Int)) = false := by simp
              have HR : Hid (pcode x.rs.length x.ls (r1, (ln : Int), a1) (x.ps.take i) = 0) := Lib.hid (by rw [HR0.out, HN.out]; rfl)
              go_wp2
              first | go_ret2 | go_ret
              exact ⟨by rw [HR.out]; rfl, below_next HB1.out HB.out⟩
end Go.Proofs.YtdljpokhcfhhfaaGreatDoor
namespace Go.Proofs.YtdljpokhcfhhfaaGreatDoor
open Go.RowKit Lx Sm
theorem dkey_any (a b c d : Int) (w : World) :
    Calls Tryz.prog 39 #[.agg #[.int .u32 a, .int .u32 b], .agg #[.int .u32 c, .int .u32 d]] w fun e w' => e = .returned (.bool (decide (a = c ∧ b = d))) ∧ Below w.heap.size w w' := by
  have HH : decide (a = c ∧ b = d) = ((a == c) && (b == d)) := by rw [Bool.eq_iff_iff]; simp
  rw [HH]
  clear HH
  obtain ⟨b1, e1⟩ : ∃ r, (a == c) = r := ⟨_, rfl⟩
  obtain ⟨b2, e2⟩ : ∃ r, (b == d) = r := ⟨_, rfl⟩
  rw [e1, e2]
  cases b1
  all_goals
    go_enter Tryz.func39, Tryz.ntmps39
    go_wp2
    go_ret
    exact ⟨ret_bool (by simp), ((Below.refl _ _).alloc (Nat.le_refl _) _).alloc (by simp) _⟩
set_option maxRecDepth 100000 in
set_option maxHeartbeats 4000000 in
theorem dsource_any (M : Cm) (x : Cfg) (i : Nat) (w : World) (h : DW w M x) (hi : i < x.ss.length) :
    Calls Tryz.prog 146 #[.agg #[.slice M.r.A M.r.n M.r.c, .slice M.l.A M.l.n M.l.c, .slice M.p.A M.p.n M.p.c, .slice M.o.A M.o.n M.o.c, .slice M.g.A M.g.n M.g.c, .slice M.s.A M.s.n M.s.c, .slice M.m.A M.m.n M.m.c], .int .i64 (i : Int)] w fun e w' => e = .returned (.int .i64 (atC (scode x.ls x.ps) x.ss i)) ∧ Below w.heap.size w w' := by
  obtain ⟨b, o, ⟨l1, s1, g1⟩, hA, hb, hx, e0, e1, e2⟩ := ISource.cells h.s (i := i) (by have := h.s.1; omega)
  have HC := Lib.hid (atC_at (f := scode x.ls x.ps) hx)
  have HX := Lib.hid hx
  have hi0 : (i : Int) < (M.s.n : Int) := by have := h.s.1; omega
  have hi1 : (0 : Int) ≤ (i : Int) := by omega
  have H := Lib.hid h
  have HA := Lib.hid hA
  clear hA
  obtain ⟨W0, hW0, hb0, hk0⟩ := lay1 w #[.slice M.r.A M.r.n M.r.c, .slice M.l.A M.l.n M.l.c, .slice M.p.A M.p.n M.p.c, .slice M.o.A M.o.n M.o.c, .slice M.g.A M.g.n M.g.c, .slice M.s.A M.s.n M.s.c, .slice M.m.A M.m.n M.m.c] 30
  obtain ⟨W1, hW1, hb1, hk1⟩ := lay1 W0 #[.int .i64 l1, .int .u32 s1, .int .u32 g1] 147
  have HB0 := Lib.hid hb0
  have HB1 := Lib.hid (below_next hb0 hb1)
  have HK0 := Lib.hid (hk0.next hb1)
  have HK1 := Lib.hid hk1
  have HW1 := Lib.hid hW1
  rw [HC.out]
  clear h hx hb1 hk1 hW1
  go_enter Tryz.func146, Tryz.ntmps146
  go_upto_region 1 with fail
  rw [← hW0]
  have y0 : W0.cell? ⟨w.heap.size, 5, none⟩ = some (.slice M.s.A M.s.n M.s.c) := hk0.cell 5
  rw [HA.out] at y0
  replace e0 := dcell_up e0 hb0
  replace e1 := dcell_up e1 hb0
  replace e2 := dcell_up e2 hb0
  clear hW0 hb0 hk0
  go_upto_region 2 with fail
  rw [← HW1.out]
  clear y0 e0 e1 e2 HW1 hb
  have hr := Below.refl W1.heap.size W1
  have k0 : ∀ W, Below W1.heap.size W1 W → W.cell? ⟨W0.heap.size, 0, none⟩ = some (.int .i64 l1) := fun W hW => (HK1.out.next hW).cell 0
  have k1 : ∀ W, Below W1.heap.size W1 W → W.cell? ⟨W0.heap.size, 1, none⟩ = some (.int .u32 s1) := fun W hW => (HK1.out.next hW).cell 1
  have k2 : ∀ W, Below W1.heap.size W1 W → W.cell? ⟨W0.heap.size, 2, none⟩ = some (.int .u32 g1) := fun W hW => (HK1.out.next hW).cell 2
  have cl : ∀ W, Below W1.heap.size W1 W → W.cell? ⟨w.heap.size, 1, none⟩ = some (.slice M.l.A M.l.n M.l.c) := fun W hW => (HK0.out.next hW).cell 1
  have cp : ∀ W, Below W1.heap.size W1 W → W.cell? ⟨w.heap.size, 2, none⟩ = some (.slice M.p.A M.p.n M.p.c) := fun W hW => (HK0.out.next hW).cell 2
  have cs : ∀ W, Below W1.heap.size W1 W → W.cell? ⟨w.heap.size, 5, none⟩ = some (.slice M.s.A M.s.n M.s.c) := fun W hW => (HK0.out.next hW).cell 5
  have HU := Lib.hid (H.out.ok.2.2.2.2.1 _ (List.mem_of_getElem? HX.out))
  have HNL : Hid (x.ls.length = M.l.n) := Lib.hid H.out.l.1
  have HNP : Hid (x.ps.length = M.p.n) := Lib.hid H.out.p.1
  have hin : i ≤ M.s.n := by have := H.out.s.1; omega
  have hib : i ≤ 1000000 := by have := H.out.sok.2; omega
  have hpb : M.p.n ≤ 1000000 := H.out.pok.2
  simp only [U32] at HU
  clear hi
  cases hP : plOk l1 M.l.n with
  | false =>
    have HR : Hid (scode x.ls x.ps (l1, s1, g1) (x.ss.take i) = 111) := Lib.hid (by simp [scode, HNL.out, hP])
    go_wp2_with (go_at_call 208; (with_reducible refine (place_any _ _ _).mono ?_); rintro e w2 ⟨rfl, hw2⟩; obtain rfl := hw2; rw [hP])
    go_ret
    exact ⟨by rw [HR.out]; rfl, HB1.out⟩
  | true =>
    have HP := Lib.hid hP
    go_upto_region 4 with (go_at_call 208; (with_reducible refine (place_any _ _ _).mono ?_); rintro e w2 ⟨rfl, hw2⟩; obtain rfl := hw2; rw [hP])
    clear hP
    have hlr : 0 ≤ l1 ∧ l1 < (M.l.n : Int) := by have := HP.out; unfold plOk at this; simpa using this
    obtain ⟨ln, rfl⟩ : ∃ ln : Nat, l1 = ln := ⟨l1.toNat, by omega⟩
    obtain ⟨bl, ol, ⟨s3, a3, b3⟩, hAl, hbl, hxl, j0, j1, j2⟩ := ILink.cells (IR.next H.out.l HB1.out) (i := ln) (by omega)
    have HU3 := Lib.hid (H.out.ok.1 _ (List.mem_of_getElem? hxl))
    have HLD : Hid (x.ls.getD ((ln : Int)).toNat ([], 0, 0) = (s3, a3, b3)) := Lib.hid (by rw [Int.toNat_natCast, List.getD_eq_getElem?_getD, hxl]; rfl)
    dsimp only at HU3
    have hl0 : (0 : Int) ≤ (ln : Int) := by omega
    have hl1 : (ln : Int) < (M.l.n : Int) := by omega
    have k0p : ∀ p : Snc W1, p.W.cell? ⟨W0.heap.size, 0, none⟩ = some (.int .i64 (ln : Int)) := fun p => k0 _ p.b
    have k1p : ∀ p : Snc W1, p.W.cell? ⟨W0.heap.size, 1, none⟩ = some (.int .u32 s1) := fun p => k1 _ p.b
    have clp : ∀ p : Snc W1, p.W.cell? ⟨w.heap.size, 1, none⟩ = some (.slice (some ⟨bl, ol, none⟩) M.l.n M.l.c) := fun p => by rw [← hAl]; exact cl _ p.b
    have g1p := Snc.all fun W (hW : Below W1.heap.size W1 W) => (hW.cell (p := ⟨bl, ol + ln * 3 + 1, none⟩) hbl).trans j1
    have g2p := Snc.all fun W (hW : Below W1.heap.size W1 W) => (hW.cell (p := ⟨bl, ol + ln * 3 + 2, none⟩) hbl).trans j2
    have GI : ∀ p : Snc W1, Calls Tryz.prog 51 #[.agg #[.int .u32 a3, .int .i64 b3], .int .u32 s1] p.W fun e w' => e = .returned (.bool (Ad.isIn a3 b3 s1)) ∧ ∃ q : Snc W1, w' = q.W := fun p => Calls.since (rin_any a3 b3 s1 p.W HU3.out.1 HU3.out.2 HU.out.1.1 HU.out.1.2)
    have KK := Lib.hid (And.intro k0 (And.intro k1 (And.intro k2 (And.intro cp cs))))
    clear k0 k1 k2 cl cp cs hr hAl hbl hxl j0 j1 j2 hlr
    by_cases hz : s1 = 0
    · have HR : Hid (scode x.ls x.ps ((ln : Int), s1, g1) (x.ss.take i) = 112) := Lib.hid (by rw [scode, HNL.out, HP.out, HLD.out]; simp [onL, hz])
      have hz' : (s1 == 0) = true := by simp [hz]
      clear hz
      refine wp_region_since (by kernel_rfl) (by kernel_rfl) ?_
      repeat (go_big_quiet_step ((go_at_call 51; with_reducible exact GI _)))
      refine wpQuiet_nil ?_
      rintro w5 ⟨P5, rfl⟩
      have HB5 := Lib.hid P5.b
      clear k0p k1p clp g1p g2p GI
      go_wp2
      first | go_ret2 | go_ret
      exact ⟨by rw [HR.out]; rfl, below_next HB1.out HB5.out⟩
    · have hz' : (s1 == 0) = false := by simp [hz]
      have HZ := Lib.hid hz
      clear hz
      cases hI : Ad.isIn a3 b3 s1 with
      | false =>
        rw [hI] at GI
        have HR : Hid (scode x.ls x.ps ((ln : Int), s1, g1) (x.ss.take i) = 112) := Lib.hid (by rw [scode, HNL.out, HP.out, HLD.out]; simp [onL, hI])
        clear hI
        refine wp_region_since (by kernel_rfl) (by kernel_rfl) ?_
        repeat (go_big_quiet_step ((go_at_call 51; with_reducible exact GI _)))
        refine wpQuiet_nil ?_
        rintro w5 ⟨P5, rfl⟩
        have HB5 := Lib.hid P5.b
        clear k0p k1p clp g1p g2p GI
        go_wp2
        first | go_ret2 | go_ret
        exact ⟨by rw [HR.out]; rfl, below_next HB1.out HB5.out⟩
      | true =>
        rw [hI] at GI
        have HI := Lib.hid hI
        clear hI
        refine wp_region_since (by kernel_rfl) (by kernel_rfl) ?_
        repeat (go_big_quiet_step ((go_at_call 51; with_reducible exact GI _)))
        refine wpQuiet_nil ?_
        rintro w5 ⟨P5, rfl⟩
        have HB5 := Lib.hid P5.b
        clear k0p k1p clp g1p g2p GI hz'
        generalize P5.W = w5 at *
        have k2 := KK.out.2.2.1 w5 HB5.out
        cases hG : Ad.group g1 with
        | false =>
          have HR : Hid (scode x.ls x.ps ((ln : Int), s1, g1) (x.ss.take i) = 113) := Lib.hid (by rw [scode, HNL.out, HP.out, HLD.out]; simp [onL, HI.out, HZ.out, hG])
          go_wp2_with (go_at_call 209; (with_reducible refine (rgroup_any _ _ HU.out.2.1 HU.out.2.2).mono ?_); rintro e w3 ⟨rfl, hw3⟩; obtain rfl := hw3; rw [hG])
          first | go_ret2 | go_ret
          exact ⟨by rw [HR.out]; rfl, below_next HB1.out HB5.out⟩
        | true =>
          have HR0 : Hid (scode x.ls x.ps ((ln : Int), s1, g1) (x.ss.take i) = if x.ps.any (fun y => y.2.2 == s1) then 110 else if (x.ss.take i).any (fun y => (y.2.1 == s1 && y.2.2 == g1) || (y.2.1 == s1 && !(y.1 == (ln : Int)))) then 110 else 0) := Lib.hid (by rw [scode, HNL.out, HP.out, HLD.out]; simp [onL, HI.out, HZ.out, hG])
          go_wp2_with (go_at_call 209; (with_reducible refine (rgroup_any _ _ HU.out.2.1 HU.out.2.2).mono ?_); rintro e w3 ⟨rfl, hw3⟩; obtain rfl := hw3; rw [hG])
          clear hG k2
          go_loopw [6] (fun iv wr => ∃ k : Nat, k ≤ i ∧ iv = .int .i64 k ∧ Hid (((x.ss.take k).any fun y => (y.2.1 == s1 && y.2.2 == g1) || (y.2.1 == s1 && !(y.1 == (ln : Int)))) = false) ∧ Hid (Below W1.heap.size W1 wr)) (fun iv _ => i - (intOf iv).toNat)
          case atStart => exact ⟨0, by omega, rfl, Lib.hid rfl, HB5⟩
          case round =>
            obtain ⟨k, hk, rfl, HN, HB⟩ := hrel
            rcases Nat.lt_or_ge k i with hlt | hge
            · obtain ⟨bk, ok, ⟨l2, s2, g2⟩, hA2, hbk, hxk, f0, f1, f2⟩ := ISource.cells (IR.next H.out.s (below_next HB1.out HB.out)) (i := k) (by omega)
              have HXK := Lib.hid hxk
              have q1 : (k : Int) < (i : Int) := by omega
              have q2 : (k : Int) < (M.s.n : Int) := by omega
              have q3 : (0 : Int) ≤ (k : Int) := by omega
              have cpp : wr.cell? ⟨w.heap.size, 5, none⟩ = some (.slice (some ⟨bk, ok, none⟩) M.s.n M.s.c) := by rw [← hA2]; exact KK.out.2.2.2.2 _ HB.out
              clear hxk hA2
              go_upto_region 12 with fail
              obtain ⟨W9, hW9, hb9, hk9⟩ := lay1 wr #[.int .i64 l2, .int .u32 s2, .int .u32 g2] 147
              rw [← hW9]
              have HB9 := Lib.hid (below_next HB.out hb9)
              have HK9 := Lib.hid hk9
              have xx : ∀ W, Below W9.heap.size W9 W → W.cell? ⟨W0.heap.size, 0, none⟩ = some (.int .i64 (ln : Int)) ∧ W.cell? ⟨W0.heap.size, 1, none⟩ = some (.int .u32 s1) ∧ W.cell? ⟨W0.heap.size, 2, none⟩ = some (.int .u32 g1) ∧ W.cell? ⟨wr.heap.size, 0, none⟩ = some (.int .i64 l2) ∧ W.cell? ⟨wr.heap.size, 1, none⟩ = some (.int .u32 s2) ∧ W.cell? ⟨wr.heap.size, 2, none⟩ = some (.int .u32 g2) := fun W hW => ⟨KK.out.1 _ (below_next HB9.out hW), KK.out.2.1 _ (below_next HB9.out hW), KK.out.2.2.1 _ (below_next HB9.out hW), (HK9.out.next hW).cell 0, (HK9.out.next hW).cell 1, (HK9.out.next hW).cell 2⟩
              have HXX := Lib.hid xx
              obtain ⟨x0, x1, x2, z0, z1, z2⟩ := xx W9 (Below.refl _ _)
              clear hW9 hb9 hk9 cpp f0 f1 f2 hbk xx
              generalize wr.heap.size = gy at *
              have key : decide (s2 = s1 ∧ g2 = g1) = true ∨ (decide (s2 = s1 ∧ g2 = g1) = false ∧ (s2 == s1) = false) ∨ (decide (s2 = s1 ∧ g2 = g1) = false ∧ (s2 == s1) = true ∧ (l2 != (ln : Int)) = true) ∨ (decide (s2 = s1 ∧ g2 = g1) = false ∧ (s2 == s1) = true ∧ (l2 != (ln : Int)) = false) := by
                cases decide (s2 = s1 ∧ g2 = g1) <;> cases (s2 == s1) <;> cases (l2 != (ln : Int)) <;> simp
              have HKE : Hid ((s2 == s1 && g2 == g1) = decide (s2 = s1 ∧ g2 = g1)) := Lib.hid (by rw [Bool.eq_iff_iff]; simp)
              rcases key with h1 | ⟨h1, h2⟩ | ⟨h1, h2, h3⟩ | ⟨h1, h2, h3⟩
              · have HR : Hid (scode x.ls x.ps ((ln : Int), s1, g1) (x.ss.take i) = 110) := Lib.hid (by
                  have hh := any_hit (p := fun y : Int × Int × Int => (y.2.1 == s1 && y.2.2 == g1) || (y.2.1 == s1 && !(y.1 == (ln : Int)))) HXK.out hlt (by show ((s2 == s1 && g2 == g1) || (s2 == s1 && !(l2 == (ln : Int)))) = true; rw [HKE.out, h1]; rfl)
                  rw [HR0.out, hh]; split <;> rfl)
                clear x0 x1 x2 z0 z1 z2
                obtain ⟨x0, x1, x2, z0, z1, z2⟩ := HXX.out W9 (Below.refl _ _)
                go_wp2_with (go_at_call 39; (with_reducible refine (dkey_any s2 g2 s1 g1 _).mono ?_); rintro e w6 ⟨rfl, hb6⟩; rw [h1]; obtain ⟨x0, x1, x2, z0, z1, z2⟩ := HXX.out w6 hb6; have HB6 := Lib.hid (below_next HB9.out hb6); clear hb6)
                first | go_ret2 | go_ret
                exact ⟨by rw [HR.out]; rfl, below_next HB1.out HB6.out⟩
              · have HN2 : Hid (((x.ss.take (k + 1)).any fun y => (y.2.1 == s1 && y.2.2 == g1) || (y.2.1 == s1 && !(y.1 == (ln : Int)))) = false) := Lib.hid (by rw [any_next HXK.out, HN.out, Bool.false_or]; show ((s2 == s1 && g2 == g1) || (s2 == s1 && !(l2 == (ln : Int)))) = false; rw [HKE.out, h1, h2]; rfl)
                go_wp2_with (go_at_call 39; (with_reducible refine (dkey_any s2 g2 s1 g1 _).mono ?_); rintro e w6 ⟨rfl, hb6⟩; rw [h1]; obtain ⟨x0, x1, x2, z0, z1, z2⟩ := HXX.out w6 hb6; have HB6 := Lib.hid (below_next HB9.out hb6); clear hb6)
                go_roundw
                case rel => exact ⟨k + 1, by omega, by go_num, HN2, HB6⟩
                case measure => simp [intOf]; omega
              · have HR : Hid (scode x.ls x.ps ((ln : Int), s1, g1) (x.ss.take i) = 110) := Lib.hid (by
                  have hh := any_hit (p := fun y : Int × Int × Int => (y.2.1 == s1 && y.2.2 == g1) || (y.2.1 == s1 && !(y.1 == (ln : Int)))) HXK.out hlt (by show ((s2 == s1 && g2 == g1) || (s2 == s1 && !(l2 == (ln : Int)))) = true; rw [HKE.out, h1, h2]; simpa [bne] using h3)
                  rw [HR0.out, hh]; split <;> rfl)
                clear x0 x1 x2 z0 z1 z2
                obtain ⟨x0, x1, x2, z0, z1, z2⟩ := HXX.out W9 (Below.refl _ _)
                go_wp2_with (go_at_call 39; (with_reducible refine (dkey_any s2 g2 s1 g1 _).mono ?_); rintro e w6 ⟨rfl, hb6⟩; rw [h1]; obtain ⟨x0, x1, x2, z0, z1, z2⟩ := HXX.out w6 hb6; have HB6 := Lib.hid (below_next HB9.out hb6); clear hb6)
                first | go_ret2 | go_ret
                exact ⟨by rw [HR.out]; rfl, below_next HB1.out HB6.out⟩
              · have HN2 : Hid (((x.ss.take (k + 1)).any fun y => (y.2.1 == s1 && y.2.2 == g1) || (y.2.1 == s1 && !(y.1 == (ln : Int)))) = false) := Lib.hid (by rw [any_next HXK.out, HN.out, Bool.false_or]; show ((s2 == s1 && g2 == g1) || (s2 == s1 && !(l2 == (ln : Int)))) = false; rw [HKE.out, h1, h2]; simpa [bne] using h3)
                go_wp2_with (go_at_call 39; (with_reducible refine (dkey_any s2 g2 s1 g1 _).mono ?_); rintro e w6 ⟨rfl, hb6⟩; rw [h1]; obtain ⟨x0, x1, x2, z0, z1, z2⟩ := HXX.out w6 hb6; have HB6 := Lib.hid (below_next HB9.out hb6); clear hb6)
                go_roundw
                case rel => exact ⟨k + 1, by omega, by go_num, HN2, HB6⟩
                case measure => simp [intOf]; omega
            · obtain rfl : i = k := by omega
              have hd : decide ((i : Int) < (i : Int)) = false := by simp
              have HN3 := HN
              have cp := KK.out.2.2.2.1
              have HBL := HB
              go_wp2_with fail
              go_loopw [8] (fun iv wr => ∃ k : Nat, k ≤ M.p.n ∧ iv = .int .i64 k ∧ Hid (((x.ps.take k).any fun y => y.2.2 == s1) = false) ∧ Hid (Below W1.heap.size W1 wr)) (fun iv _ => M.p.n - (intOf iv).toNat)
              case atStart => exact ⟨0, by omega, rfl, Lib.hid rfl, HBL⟩
              case round =>
                obtain ⟨k, hk, rfl, HN, HB⟩ := hrel
                have cpw := cp _ HB.out
                clear cp
                rcases Nat.lt_or_ge k M.p.n with hlt | hge
                · obtain ⟨bk, ok, ⟨r2, l2, a2⟩, hA2, hbk, hxk, f0, f1, f2⟩ := IPort.cells (IR.next H.out.p (below_next HB1.out HB.out)) (i := k) (by omega)
                  have HXK := Lib.hid hxk
                  have q1 : (k : Int) < (M.p.n : Int) := by omega
                  have q3 : (0 : Int) ≤ (k : Int) := by omega
                  have cpp : ∀ p : Snc wr, p.W.cell? ⟨w.heap.size, 2, none⟩ = some (.slice (some ⟨bk, ok, none⟩) M.p.n M.p.c) := fun p => by rw [← hA2]; exact KK.out.2.2.2.1 _ (below_next HB.out p.b)
                  have k1p : ∀ p : Snc wr, p.W.cell? ⟨W0.heap.size, 1, none⟩ = some (.int .u32 s1) := fun p => KK.out.2.1 _ (below_next HB.out p.b)
                  have f2p := Snc.all fun W (hW : Below wr.heap.size wr W) => (hW.cell (p := ⟨bk, ok + k * 3 + 2, none⟩) hbk).trans f2
                  clear hxk hA2 f0 f1 f2 hbk
                  cases hV : (a2 == s1) with
                  | true =>
                    have HR : Hid (scode x.ls x.ps ((ln : Int), s1, g1) (x.ss.take i) = 110) := Lib.hid (by
                      have hh := any_hit (p := fun y : Int × Int × Int => y.2.2 == s1) HXK.out (Nat.lt_of_lt_of_le hlt (Nat.le_refl _)) hV
                      rw [List.take_of_length_le (by have := HNP.out; omega)] at hh
                      rw [HR0.out, hh]; rfl)
                    go_upto_region 17 with fail
                    clear cpw
                    refine wp_region_since (by kernel_rfl) (by kernel_rfl) ?_
                    repeat (go_big_quiet_step (fail))
                    refine wpQuiet_nil ?_
                    rintro w5 ⟨P5, rfl⟩
                    have HB7 := Lib.hid (below_next HB.out P5.b)
                    clear cpp k1p f2p
                    go_wp2
                    first | go_ret2 | go_ret
                    exact ⟨by rw [HR.out]; rfl, below_next HB1.out HB7.out⟩
                  | false =>
                    have HN2 : Hid (((x.ps.take (k + 1)).any fun y => y.2.2 == s1) = false) := Lib.hid (by rw [any_next HXK.out, HN.out, Bool.false_or]; exact hV)
                    go_upto_region 17 with fail
                    clear cpw
                    refine wp_region_since (by kernel_rfl) (by kernel_rfl) ?_
                    repeat (go_big_quiet_step (fail))
                    refine wpQuiet_nil ?_
                    rintro w5 ⟨P5, rfl⟩
                    have HB7 := Lib.hid (below_next HB.out P5.b)
                    clear cpp k1p f2p
                    go_wp2
                    go_roundw
                    case rel => exact ⟨k + 1, by omega, by go_num, HN2, HB7⟩
                    case measure => simp [intOf]; omega
                · have hk2 : k = M.p.n := by omega
                  have hd2 : ¬ (k : Int) < (M.p.n : Int) := by omega
                  have HR : Hid (scode x.ls x.ps ((ln : Int), s1, g1) (x.ss.take i) = 0) := Lib.hid (by
                    have hh := HN.out
                    rw [List.take_of_length_le (by have := HNP.out; omega)] at hh
                    rw [HR0.out, hh, HN3.out]; rfl)
                  clear hk2
                  go_wp2
                  first | go_ret2 | go_ret
                  exact ⟨by rw [HR.out]; rfl, below_next HB1.out HB.out⟩
theorem ar_take {w : World} {A : Option Addr} {n : Nat} {xs : List Int} (h : AR w A n xs) {k : Nat} (hk : k ≤ n) : AR w A k (xs.take k) :=
  ⟨by rw [List.length_take]; have := h.len; omega, fun y hy => h.isAs y (List.mem_of_mem_take hy), fun h0 => by
    obtain ⟨b, o, e, hlt, hc⟩ := h.2.2 (by omega)
    refine ⟨b, o, e, hlt, fun i hi => ?_⟩
    rw [hc i (by omega), List.getD_eq_getElem?_getD, List.getD_eq_getElem?_getD, List.getElem?_take, if_pos hi]⟩
theorem con_next {xs : List Int} {k : Nat} {a : Int} (h : k < xs.length) : (xs.take (k + 1)).contains a = ((xs.take k).contains a || (xs.getD k 0 == a)) := by
  have e : xs[k]? = some (xs.getD k 0) := by rw [List.getD_eq_getElem?_getD, List.getElem?_eq_getElem h]; rfl
  rw [List.take_add_one, e]
  generalize xs.getD k 0 = y
  simp only [Option.toList_some, List.contains_append, List.contains_cons, List.contains_nil, Bool.or_false]
  congr 1
  rw [Bool.eq_iff_iff]; simp only [beq_iff_eq]; exact eq_comm
set_option maxHeartbeats 2000000 in
theorem dhas_any (A : Option Addr) (n c : Nat) (xs : List Int) (a : Int) (w : World) (h : AR w A n xs) (hn : n ≤ 1000000) :
    Calls Tryz.prog 211 #[.slice A n c, .int .u32 a] w fun e w' => e = .returned (.bool (xs.contains a)) ∧ Below w.heap.size w w' := by
  have HR := Lib.hid h
  have HL := Lib.hid h.len
  clear h
  go_enter Tryz.func211, Tryz.ntmps211
  go_wp2_with fail
  go_loopw [5] (fun iv wr => ∃ k : Nat, k ≤ n ∧ iv = .int .i64 k ∧ Hid ((xs.take k).contains a = false) ∧ Hid (Below w.heap.size w wr)) (fun iv _ => n - (intOf iv).toNat)
  case atStart => exact ⟨0, by omega, rfl, Lib.hid (by simp), Lib.hid (Below.refl _ _)⟩
  case round =>
    obtain ⟨k, hk, rfl, HN, HB⟩ := hrel
    rcases Nat.lt_or_ge k n with hlt | hge
    · obtain ⟨b, o, rfl, _, hc⟩ := (HR.out.next HB.out).at_ hlt
      have HX := Lib.hid (con_next (a := a) (xs := xs) (k := k) (by rw [HL.out]; exact hlt))
      have l1 : (k : Int) < (n : Int) := by omega
      have l2 : (0 : Int) ≤ (k : Int) := by omega
      have HG := Lib.hid (show (xs.getD k 0 == a) = true → xs.contains a = true from fun e => by
        rw [List.contains_iff_mem, ← beq_iff_eq.1 e, List.getD_eq_getElem?_getD, List.getElem?_eq_getElem (by rw [HL.out]; exact hlt)]
        exact List.getElem_mem _)
      generalize xs.getD k 0 = y at *
      cases he : (y == a) with
      | true =>
        have HR2 := Lib.hid (HG.out he)
        go_wp2
        first | go_ret2 | go_ret
        exact ⟨by rw [HR2.out]; rfl, HB.out⟩
      | false =>
        have HN2 : Hid ((xs.take (k + 1)).contains a = false) := Lib.hid (by rw [HX.out, HN.out, he]; rfl)
        go_wp2
        go_roundw
        case rel => exact ⟨k + 1, by omega, by go_num, HN2, HB⟩
        case measure => simp [intOf]; omega
    · obtain rfl : n = k := by omega
      have hd : decide ((n : Int) < (n : Int)) = false := by simp
      have HR2 : Hid (xs.contains a = false) := Lib.hid (by have := HN.out; rw [List.take_of_length_le (by rw [HL.out]; exact Nat.le_refl _)] at this; exact this)
      go_wp2
      first | go_ret2 | go_ret
      exact ⟨by rw [HR2.out]; rfl, HB.out⟩
theorem dtwice_here {ah l : List Int} {a : Int} (h : ah.contains a = true) : twice ah (a :: l) = true := by
  show (ah.contains a || twice (ah ++ [a]) l) = true
  rw [h]; rfl
theorem dtwice_next {ah l : List Int} {a : Int} (h : ah.contains a = false) : twice ah (a :: l) = twice (ah ++ [a]) l := by
  show (ah.contains a || twice (ah ++ [a]) l) = _
  rw [h, Bool.false_or]
theorem dtwice_at {xs : List Int} {k : Nat} (hk : k < xs.length) : xs.drop k = xs.getD k 0 :: xs.drop (k + 1) ∧ xs.take (k + 1) = xs.take k ++ [xs.getD k 0] := by
  have e : xs.getD k 0 = xs[k] := by rw [List.getD_eq_getElem?_getD, List.getElem?_eq_getElem hk]; rfl
  rw [e, List.drop_eq_getElem_cons hk, List.take_succ_eq_append_getElem hk]
  exact ⟨rfl, rfl⟩
set_option maxRecDepth 100000 in
set_option maxHeartbeats 4000000 in
theorem dmember_any (M : Cm) (x : Cfg) (i : Nat) (w : World) (h : DW w M x) (hi : i < x.ms.length) :
    Calls Tryz.prog 147 #[.agg #[.slice M.r.A M.r.n M.r.c, .slice M.l.A M.l.n M.l.c, .slice M.p.A M.p.n M.p.c, .slice M.o.A M.o.n M.o.c, .slice M.g.A M.g.n M.g.c, .slice M.s.A M.s.n M.s.c, .slice M.m.A M.m.n M.m.c], .int .i64 (i : Int)] w fun e w' => e = .returned (.int .i64 (atC (fun y _ => mcode x.ls.length y) x.ms i)) ∧ Below w.heap.size w w' := by
  obtain ⟨b, o, ⟨l1, g1, o1, A1, n1, c1, ys1⟩, hA, hb, hx, e0, e1, e2, e3⟩ := IMember.cells h.m (i := i) (by have := h.m.1; omega)
  have HC := Lib.hid (atC_at (f := fun y _ => mcode x.ls.length y) hx)
  have HX := Lib.hid hx
  have hi0 : (i : Int) < (M.m.n : Int) := by have := h.m.1; omega
  have hi1 : (0 : Int) ≤ (i : Int) := by omega
  have H := Lib.hid h
  have HA := Lib.hid hA
  clear hA
  obtain ⟨W0, hW0, hb0, hk0⟩ := lay1 w #[.slice M.r.A M.r.n M.r.c, .slice M.l.A M.l.n M.l.c, .slice M.p.A M.p.n M.p.c, .slice M.o.A M.o.n M.o.c, .slice M.g.A M.g.n M.g.c, .slice M.s.A M.s.n M.s.c, .slice M.m.A M.m.n M.m.c] 30
  obtain ⟨W1, hW1, hb1, hk1⟩ := lay1 W0 #[.int .i64 l1, .int .u32 g1, .bool o1, .slice A1 n1 c1] 115
  have HB0 := Lib.hid hb0
  have HB1 := Lib.hid (below_next hb0 hb1)
  have HK0 := Lib.hid (hk0.next hb1)
  have HK1 := Lib.hid hk1
  have HW1 := Lib.hid hW1
  rw [HC.out]
  clear h hx hb1 hk1 hW1
  go_enter Tryz.func147, Tryz.ntmps147
  go_upto_region 1 with fail
  rw [← hW0]
  have y0 : W0.cell? ⟨w.heap.size, 6, none⟩ = some (.slice M.m.A M.m.n M.m.c) := hk0.cell 6
  rw [HA.out] at y0
  replace e0 := dcell_up e0 hb0
  replace e1 := dcell_up e1 hb0
  replace e2 := dcell_up e2 hb0
  replace e3 := dcell_up e3 hb0
  clear hW0 hb0 hk0
  go_upto_region 2 with fail
  rw [← HW1.out]
  clear y0 e0 e1 e2 e3 HW1 hb
  have hr := Below.refl W1.heap.size W1
  have k0 : ∀ W, Below W1.heap.size W1 W → W.cell? ⟨W0.heap.size, 0, none⟩ = some (.int .i64 l1) := fun W hW => (HK1.out.next hW).cell 0
  have k1 : ∀ W, Below W1.heap.size W1 W → W.cell? ⟨W0.heap.size, 1, none⟩ = some (.int .u32 g1) := fun W hW => (HK1.out.next hW).cell 1
  have k2 : ∀ W, Below W1.heap.size W1 W → W.cell? ⟨W0.heap.size, 2, none⟩ = some (.bool o1) := fun W hW => (HK1.out.next hW).cell 2
  have k3 : ∀ W, Below W1.heap.size W1 W → W.cell? ⟨W0.heap.size, 3, none⟩ = some (.slice A1 n1 c1) := fun W hW => (HK1.out.next hW).cell 3
  have cl : ∀ W, Below W1.heap.size W1 W → W.cell? ⟨w.heap.size, 1, none⟩ = some (.slice M.l.A M.l.n M.l.c) := fun W hW => (HK0.out.next hW).cell 1
  have HU := Lib.hid (H.out.ok.2.2.2.2.2 _ (List.mem_of_getElem? HX.out))
  have HS := Lib.hid (H.out.src _ (List.mem_of_getElem? HX.out))
  have HNL : Hid (x.ls.length = M.l.n) := Lib.hid H.out.l.1
  simp only [U32] at HU
  dsimp only at HS
  have hn1 : n1 ≤ 9223372036854775807 := HS.out.2.2
  have HYL : Hid (ys1.length = n1) := Lib.hid HS.out.1.len
  clear hi
  cases hP : plOk l1 M.l.n with
  | false =>
    have HR : Hid (mcode x.ls.length ⟨l1, g1, o1, A1, n1, c1, ys1⟩ = 111) := Lib.hid (by simp [mcode, HNL.out, hP])
    go_wp2_with (go_at_call 208; (with_reducible refine (place_any _ _ _).mono ?_); rintro e w2 ⟨rfl, hw2⟩; obtain rfl := hw2; rw [hP])
    go_ret
    exact ⟨by rw [HR.out]; rfl, HB1.out⟩
  | true =>
    have HP := Lib.hid hP
    have HR0 : Hid (mcode x.ls.length ⟨l1, g1, o1, A1, n1, c1, ys1⟩ = if ((!Ad.group g1) || ys1.any (fun a => !oneA a)) = true then 113 else if 4 < ys1.length then 104 else if twice [] ys1 then 110 else 0) := Lib.hid (by
      simp only [mcode, HNL.out, hP]
      cases Ad.group g1 <;> simp)
    go_upto_region 5 with (first | (go_at_call 208; (with_reducible refine (place_any _ _ _).mono ?_); rintro e w2 ⟨rfl, hw2⟩; obtain rfl := hw2; rw [hP]) | (go_at_call 209; (with_reducible refine (rgroup_any g1 _ HU.out.1 HU.out.2).mono ?_); rintro e w3 ⟨rfl, hw3⟩; obtain rfl := hw3))
    clear hP
    have KK := Lib.hid (And.intro k3 (And.intro k0 k1))
    clear k0 k1 k2 cl
    go_wp2_with fail
    go_loopw [6, 7] (fun bv iv wr => ∃ (k : Nat) (B : Bool), k ≤ n1 ∧ iv = .int .i64 k ∧ bv = .bool B ∧ Hid (((!Ad.group g1) || (ys1.take k).any (fun a => !oneA a)) = B) ∧ Hid (Below W1.heap.size W1 wr)) (fun _ iv _ => n1 - (intOf iv).toNat)
    case atStart => exact ⟨0, !Ad.group g1, by omega, rfl, rfl, Lib.hid (by simp), Lib.hid (Below.refl _ _)⟩
    case round =>
      obtain ⟨k, B, hk, rfl, rfl, HN, HB⟩ := hrel
      rcases Nat.lt_or_ge k n1 with hlt | hge
      · obtain ⟨bk, ok, eA, hbk, hck⟩ := (HS.out.1.next (below_next HB1.out HB.out)).at_ hlt
        have x3 : wr.cell? ⟨W0.heap.size, 3, none⟩ = some (.slice (some ⟨bk, ok, none⟩) n1 c1) := by rw [← eA]; exact KK.out.1 _ HB.out
        have hy : ys1[k]? = some (ys1.getD k 0) := by rw [List.getD_eq_getElem?_getD, List.getElem?_eq_getElem (by rw [HYL.out]; exact hlt)]; rfl
        have HNX := Lib.hid (any_next (p := fun a => !oneA a) hy)
        have HY := Lib.hid (HS.out.1.isAs _ (List.mem_of_getElem? hy))
        have HYX := Lib.hid hy
        simp only [isA] at HY
        generalize ys1.getD k 0 = y at *
        have q1 : (k : Int) < (n1 : Int) := by omega
        have q2 : (0 : Int) ≤ (k : Int) := by omega
        clear eA hbk hy k3
        have HN1 : Hid (((!Ad.group g1) || (ys1.take (k + 1)).any (fun a => !oneA a)) = (B || !oneA y)) := Lib.hid (by rw [HNX.out, ← Bool.or_assoc, HN.out])
        cases B with
        | true =>
          go_wp2
          go_roundw
          case rel => exact ⟨k + 1, true, by omega, by go_num, rfl, by rw [HN1.out]; exact Lib.hid rfl, HB⟩
          case measure => simp [intOf]; omega
        | false =>
          cases hG : Ad.group y with
          | true =>
            have HN2 : Hid (((!Ad.group g1) || (ys1.take (k + 1)).any (fun a => !oneA a)) = true) := Lib.hid (by rw [HN1.out]; simp [oneA, hG])
            go_wp2_with (go_at_call 209; (with_reducible refine (rgroup_any y _ HY.out.1 HY.out.2).mono ?_); rintro e w3 ⟨rfl, hw3⟩; obtain rfl := hw3; rw [hG])
            go_roundw
            case rel => exact ⟨k + 1, true, by omega, by go_num, rfl, HN2, HB⟩
            case measure => simp [intOf]; omega
          | false =>
            cases hz : (y == 0) with
            | true =>
              have HN2 : Hid (((!Ad.group g1) || (ys1.take (k + 1)).any (fun a => !oneA a)) = true) := Lib.hid (by rw [HN1.out, beq_iff_eq.1 hz]; simp [oneA])
              go_wp2_with (go_at_call 209; (with_reducible refine (rgroup_any y _ HY.out.1 HY.out.2).mono ?_); rintro e w3 ⟨rfl, hw3⟩; obtain rfl := hw3; rw [hG])
              go_roundw
              case rel => exact ⟨k + 1, true, by omega, by go_num, rfl, HN2, HB⟩
              case measure => simp [intOf]; omega
            | false =>
              have HN2 : Hid (((!Ad.group g1) || (ys1.take (k + 1)).any (fun a => !oneA a)) = false) := Lib.hid (by
                have hz2 : y ≠ 0 := by simpa using hz
                rw [HN1.out]; simp [oneA, hG, hz2])
              go_wp2_with (go_at_call 209; (with_reducible refine (rgroup_any y _ HY.out.1 HY.out.2).mono ?_); rintro e w3 ⟨rfl, hw3⟩; obtain rfl := hw3; rw [hG])
              go_roundw
              case rel => exact ⟨k + 1, false, by omega, by go_num, rfl, HN2, HB⟩
              case measure => simp [intOf]; omega
      · obtain rfl : n1 = k := by omega
        have hd : decide ((n1 : Int) < (n1 : Int)) = false := by simp
        have x3 := KK.out.1 _ HB.out
        have HNF := HN.out
        rw [List.take_of_length_le (by rw [HYL.out]; exact Nat.le_refl _)] at HNF
        rw [HNF] at HR0
        clear HNF k3
        cases B with
        | true =>
          have HR : Hid (mcode x.ls.length ⟨l1, g1, o1, A1, n1, c1, ys1⟩ = 113) := Lib.hid (by rw [HR0.out]; rfl)
          go_wp2
          first | go_ret2 | go_ret
          exact ⟨by rw [HR.out]; rfl, below_next HB1.out HB.out⟩
        | false =>
          rw [if_neg (by decide)] at HR0
          by_cases h4 : 4 < n1
          · have h4' : (4 : Int) < (n1 : Int) := by omega
            have HR : Hid (mcode x.ls.length ⟨l1, g1, o1, A1, n1, c1, ys1⟩ = 104) := Lib.hid (by rw [HR0.out, if_pos (by rw [HYL.out]; exact h4)])
            go_wp2
            first | go_ret2 | go_ret
            exact ⟨by rw [HR.out]; rfl, below_next HB1.out HB.out⟩
          · have h4' : ¬ (4 : Int) < (n1 : Int) := by omega
            rw [if_neg (by rw [HYL.out]; exact h4)] at HR0
            have HBL := HB
            go_wp2_with fail
            clear x3
            go_loopw [8] (fun iv wr => ∃ k : Nat, k ≤ n1 ∧ iv = .int .i64 k ∧ Hid (twice [] ys1 = twice (ys1.take k) (ys1.drop k)) ∧ Hid (Below W1.heap.size W1 wr)) (fun iv _ => n1 - (intOf iv).toNat)
            case atStart => exact ⟨0, by omega, rfl, Lib.hid (by simp), HBL⟩
            case round =>
              obtain ⟨k, hk, rfl, HT, HB⟩ := hrel
              rcases Nat.lt_or_ge k n1 with hlt | hge
              · obtain ⟨bk, ok, eA, hbk, hck⟩ := (HS.out.1.next (below_next HB1.out HB.out)).at_ hlt
                have x3p : ∀ p : Snc wr, p.W.cell? ⟨W0.heap.size, 3, none⟩ = some (.slice (some ⟨bk, ok, none⟩) n1 c1) := fun p => by rw [← eA]; exact KK.out.1 _ (below_next HB.out p.b)
                have f0p := Snc.all fun W (hW : Below wr.heap.size wr W) => (hW.cell (p := ⟨bk, ok + k, none⟩) hbk).trans hck
                have x3 := x3p ⟨wr, Below.refl _ _⟩
                have HTA := Lib.hid (dtwice_at (xs := ys1) (k := k) (by rw [HYL.out]; exact hlt))
                have GH : ∀ p : Snc wr, Calls Tryz.prog 211 #[.slice (some ⟨bk, ok, none⟩) k c1, .int .u32 (ys1.getD k 0)] p.W fun e w' => e = .returned (.bool ((ys1.take k).contains (ys1.getD k 0))) ∧ ∃ q : Snc wr, w' = q.W := fun p => Calls.since (dhas_any _ k c1 (ys1.take k) _ p.W (by rw [← eA]; exact ar_take (HS.out.1.next (below_next HB1.out (below_next HB.out p.b))) hk) (by omega))
                generalize ys1.getD k 0 = y at *
                have q1 : (k : Int) < (n1 : Int) := by omega
                have q2 : (0 : Int) ≤ (k : Int) := by omega
                have q3 : (k : Int) ≤ (c1 : Int) := by have := HS.out.2.1; omega
                have q4 : k ≤ c1 := by omega
                clear eA hbk hck
                cases hH : (ys1.take k).contains y with
                | true =>
                  rw [hH] at GH
                  have HR : Hid (mcode x.ls.length ⟨l1, g1, o1, A1, n1, c1, ys1⟩ = 110) := Lib.hid (by rw [HR0.out, HT.out, HTA.out.1, dtwice_here hH]; rfl)
                  go_upto_region 16 with fail
                  clear x3
                  refine wp_region_since (by kernel_rfl) (by kernel_rfl) ?_
                  repeat (go_big_quiet_step ((go_at_call 211; with_reducible exact GH _)))
                  refine wpQuiet_nil ?_
                  rintro w5 ⟨P5, rfl⟩
                  have HB7 := Lib.hid (below_next HB.out P5.b)
                  clear x3p f0p GH
                  go_wp2
                  first | go_ret2 | go_ret
                  exact ⟨by rw [HR.out]; rfl, below_next HB1.out HB7.out⟩
                | false =>
                  rw [hH] at GH
                  have HT2 : Hid (twice [] ys1 = twice (ys1.take (k + 1)) (ys1.drop (k + 1))) := Lib.hid (by rw [HT.out, HTA.out.1, dtwice_next hH, HTA.out.2])
                  go_upto_region 16 with fail
                  clear x3
                  refine wp_region_since (by kernel_rfl) (by kernel_rfl) ?_
                  repeat (go_big_quiet_step ((go_at_call 211; with_reducible exact GH _)))
                  refine wpQuiet_nil ?_
                  rintro w5 ⟨P5, rfl⟩
                  have HB7 := Lib.hid (below_next HB.out P5.b)
                  clear x3p f0p GH
                  go_wp2
                  go_roundw
                  case rel => exact ⟨k + 1, by omega, by go_num, HT2, HB7⟩
                  case measure => simp [intOf]; omega
              · obtain rfl : n1 = k := by omega
                have hd : decide ((n1 : Int) < (n1 : Int)) = false := by simp
                have x3 := KK.out.1 _ HB.out
                have HR : Hid (mcode x.ls.length ⟨l1, g1, o1, A1, n1, c1, ys1⟩ = 0) := Lib.hid (by rw [HR0.out, HT.out, List.drop_of_length_le (by rw [HYL.out]; exact Nat.le_refl _)]; rfl)
                go_wp2
                first | go_ret2 | go_ret
                exact ⟨by rw [HR.out]; rfl, below_next HB1.out HB.out⟩
/-- the network, and two rows of seven numbers, laid -/
theorem lay3 (w : World) (cf c1 c2 : Array Value) (t t' : TypeId) : ∃ W, W = ((w.alloc (.cells cf t)).alloc (.cells c1 t')).alloc (.cells c2 t') ∧ Below w.heap.size w W ∧ Blk W w.heap.size t cf ∧ Blk W (w.heap.size + 1) t' c1 ∧ Blk W (w.heap.size + 1 + 1) t' c2 := by
  refine ⟨_, rfl, (((Below.refl _ _).alloc (Nat.le_refl _) _).alloc (by simp) _).alloc (by simp; omega) _, ((Blk.new w t cf).alloc _).alloc _, ?_, ?_⟩
  · have := (Blk.new (w.alloc (.cells cf t)) t' c1).alloc (.cells c2 t')
    simpa using this
  · have := Blk.new ((w.alloc (.cells cf t)).alloc (.cells c1 t')) t' c2
    simpa using this
theorem ret_sizes (tm : Array Value) (N N2 : Nat) (W : World) (v0 u0 v1 u1 v2 u2 v3 u3 v4 u4 v5 u5 v6 u6 : Value) (h2 : tm.getD 2 undef = .pointer (some ⟨N, 0, none⟩)) (h3 : tm.getD 3 undef = .pointer (some ⟨N2, 0, none⟩)) (c0 : W.cell? ⟨N, 0, none⟩ = some v0) (d0 : W.cell? ⟨N2, 0, none⟩ = some u0) (c1 : W.cell? ⟨N, 1, none⟩ = some v1) (d1 : W.cell? ⟨N2, 1, none⟩ = some u1) (c2 : W.cell? ⟨N, 2, none⟩ = some v2) (d2 : W.cell? ⟨N2, 2, none⟩ = some u2) (c3 : W.cell? ⟨N, 3, none⟩ = some v3) (d3 : W.cell? ⟨N2, 3, none⟩ = some u3) (c4 : W.cell? ⟨N, 4, none⟩ = some v4) (d4 : W.cell? ⟨N2, 4, none⟩ = some u4) (c5 : W.cell? ⟨N, 5, none⟩ = some v5) (d5 : W.cell? ⟨N2, 5, none⟩ = some u5) (c6 : W.cell? ⟨N, 6, none⟩ = some v6) (d6 : W.cell? ⟨N2, 6, none⟩ = some u6) :
    (results Tryz.f88 tm).run Tryz.prog W = .ok (.tuple #[.agg #[v0, v1, v2, v3, v4, v5, v6], .agg #[u0, u1, u2, u3, u4, u5, u6]]) W := by
  have h2' : tm[2]?.getD undef = .pointer (some ⟨N, 0, none⟩) := by simpa using h2
  have h3' : tm[3]?.getD undef = .pointer (some ⟨N2, 0, none⟩) := by simpa using h3
  simp [results, Tryz.results88, go_sem, h2', h3', c0, d0, c1, d1, c2, d2, c3, d3, c4, d4, c5, d5, c6, d6]
set_option maxRecDepth 100000 in
set_option maxHeartbeats 2000000 in
theorem sizes_any (M : Cm) (w : World) : Calls Tryz.prog 88 #[.agg #[.slice M.r.A M.r.n M.r.c, .slice M.l.A M.l.n M.l.c, .slice M.p.A M.p.n M.p.c, .slice M.o.A M.o.n M.o.c, .slice M.g.A M.g.n M.g.c, .slice M.s.A M.s.n M.s.c, .slice M.m.A M.m.n M.m.c]] w fun e w' => e = .returned (.tuple #[.agg #[.int .i64 (M.r.n : Int), .int .i64 (M.l.n : Int), .int .i64 (M.p.n : Int), .int .i64 (M.o.n : Int), .int .i64 (M.g.n : Int), .int .i64 (M.s.n : Int), .int .i64 (M.m.n : Int)], .agg #[.int .i64 16, .int .i64 24, .int .i64 64, .int .i64 96, .int .i64 8, .int .i64 8, .int .i64 24]]) ∧ Below w.heap.size w w' := by
  obtain ⟨W, hW, hb, _, hk1, hk2⟩ := lay3 w #[.slice M.r.A M.r.n M.r.c, .slice M.l.A M.l.n M.l.c, .slice M.p.A M.p.n M.p.c, .slice M.o.A M.o.n M.o.c, .slice M.g.A M.g.n M.g.c, .slice M.s.A M.s.n M.s.c, .slice M.m.A M.m.n M.m.c] #[.int .i64 (M.r.n : Int), .int .i64 (M.l.n : Int), .int .i64 (M.p.n : Int), .int .i64 (M.o.n : Int), .int .i64 (M.g.n : Int), .int .i64 (M.s.n : Int), .int .i64 (M.m.n : Int)] #[.int .i64 16, .int .i64 24, .int .i64 64, .int .i64 96, .int .i64 8, .int .i64 8, .int .i64 24] 30 173
  go_enter Tryz.func88, Tryz.ntmps88
  go_wp2
  rw [← hW]
  refine bodyPost_ret (ret_sizes _ (w.heap.size + 1) (w.heap.size + 1 + 1) W (.int .i64 (M.r.n : Int)) (.int .i64 16) (.int .i64 (M.l.n : Int)) (.int .i64 24) (.int .i64 (M.p.n : Int)) (.int .i64 64) (.int .i64 (M.o.n : Int)) (.int .i64 96) (.int .i64 (M.g.n : Int)) (.int .i64 8) (.int .i64 (M.s.n : Int)) (.int .i64 8) (.int .i64 (M.m.n : Int)) (.int .i64 24) rfl rfl (hk1.cell 0) (hk2.cell 0) (hk1.cell 1) (hk2.cell 1) (hk1.cell 2) (hk2.cell 2) (hk1.cell 3) (hk2.cell 3) (hk1.cell 4) (hk2.cell 4) (hk1.cell 5) (hk2.cell 5) (hk1.cell 6) (hk2.cell 6)) rfl ?_
  exact ⟨rfl, hb⟩
set_option maxHeartbeats 2000000 in
theorem dval0 (M : Cm) (x : Cfg) (i : Nat) (w : World) (h : DW w M x) (hi : i < x.rs.length) (hs1 : ∀ y ∈ x.rs, (str y.1).size ≤ 9223372036854775807) :
    Calls Tryz.prog 89 #[.agg #[.slice M.r.A M.r.n M.r.c, .slice M.l.A M.l.n M.l.c, .slice M.p.A M.p.n M.p.c, .slice M.o.A M.o.n M.o.c, .slice M.g.A M.g.n M.g.c, .slice M.s.A M.s.n M.s.c, .slice M.m.A M.m.n M.m.c], .int .i64 0, .int .i64 (i : Int)] w fun e w' => e = .returned (.int .i64 (atC (rcode) x.rs i)) ∧ Below w.heap.size w w' := by
  have hb0 := (Below.refl w.heap.size w).alloc (Nat.le_refl _) (.cells #[.slice M.r.A M.r.n M.r.c, .slice M.l.A M.l.n M.l.c, .slice M.p.A M.p.n M.p.c, .slice M.o.A M.o.n M.o.c, .slice M.g.A M.g.n M.g.c, .slice M.s.A M.s.n M.s.c, .slice M.m.A M.m.n M.m.c] 30)
  have HD := Lib.hid (drouter_any M x i _ (h.next hb0) hi hs1)
  have HB0 := Lib.hid hb0
  clear hb0 h
  go_enter Tryz.func89, Tryz.ntmps89
  go_wp2_with (go_at_call 141; (with_reducible refine HD.out.mono ?_); rintro e w2 ⟨rfl, hb2⟩)
  go_ret
  exact ⟨rfl, below_next HB0.out hb2⟩
set_option maxHeartbeats 2000000 in
theorem dval1 (M : Cm) (x : Cfg) (i : Nat) (w : World) (h : DW w M x) (hi : i < x.ls.length) (hs2 : ∀ y ∈ x.ls, (str y.1).size ≤ 9223372036854775807) :
    Calls Tryz.prog 89 #[.agg #[.slice M.r.A M.r.n M.r.c, .slice M.l.A M.l.n M.l.c, .slice M.p.A M.p.n M.p.c, .slice M.o.A M.o.n M.o.c, .slice M.g.A M.g.n M.g.c, .slice M.s.A M.s.n M.s.c, .slice M.m.A M.m.n M.m.c], .int .i64 1, .int .i64 (i : Int)] w fun e w' => e = .returned (.int .i64 (atC (lcode) x.ls i)) ∧ Below w.heap.size w w' := by
  have hb0 := (Below.refl w.heap.size w).alloc (Nat.le_refl _) (.cells #[.slice M.r.A M.r.n M.r.c, .slice M.l.A M.l.n M.l.c, .slice M.p.A M.p.n M.p.c, .slice M.o.A M.o.n M.o.c, .slice M.g.A M.g.n M.g.c, .slice M.s.A M.s.n M.s.c, .slice M.m.A M.m.n M.m.c] 30)
  have HD := Lib.hid (dlink_any M x i _ (h.next hb0) hi hs2)
  have HB0 := Lib.hid hb0
  clear hb0 h
  go_enter Tryz.func89, Tryz.ntmps89
  go_wp2_with (go_at_call 142; (with_reducible refine HD.out.mono ?_); rintro e w2 ⟨rfl, hb2⟩)
  go_ret
  exact ⟨rfl, below_next HB0.out hb2⟩
set_option maxHeartbeats 2000000 in
theorem dval2 (M : Cm) (x : Cfg) (i : Nat) (w : World) (h : DW w M x) (hi : i < x.ps.length) :
    Calls Tryz.prog 89 #[.agg #[.slice M.r.A M.r.n M.r.c, .slice M.l.A M.l.n M.l.c, .slice M.p.A M.p.n M.p.c, .slice M.o.A M.o.n M.o.c, .slice M.g.A M.g.n M.g.c, .slice M.s.A M.s.n M.s.c, .slice M.m.A M.m.n M.m.c], .int .i64 2, .int .i64 (i : Int)] w fun e w' => e = .returned (.int .i64 (atC (pcode x.rs.length x.ls) x.ps i)) ∧ Below w.heap.size w w' := by
  have hb0 := (Below.refl w.heap.size w).alloc (Nat.le_refl _) (.cells #[.slice M.r.A M.r.n M.r.c, .slice M.l.A M.l.n M.l.c, .slice M.p.A M.p.n M.p.c, .slice M.o.A M.o.n M.o.c, .slice M.g.A M.g.n M.g.c, .slice M.s.A M.s.n M.s.c, .slice M.m.A M.m.n M.m.c] 30)
  have HD := Lib.hid (dport_any M x i _ (h.next hb0) hi)
  have HB0 := Lib.hid hb0
  clear hb0 h
  go_enter Tryz.func89, Tryz.ntmps89
  go_wp2_with (go_at_call 143; (with_reducible refine HD.out.mono ?_); rintro e w2 ⟨rfl, hb2⟩)
  go_ret
  exact ⟨rfl, below_next HB0.out hb2⟩
set_option maxHeartbeats 2000000 in
theorem dval3 (M : Cm) (x : Cfg) (i : Nat) (w : World) (h : DW w M x) (hi : i < x.os.length) :
    Calls Tryz.prog 89 #[.agg #[.slice M.r.A M.r.n M.r.c, .slice M.l.A M.l.n M.l.c, .slice M.p.A M.p.n M.p.c, .slice M.o.A M.o.n M.o.c, .slice M.g.A M.g.n M.g.c, .slice M.s.A M.s.n M.s.c, .slice M.m.A M.m.n M.m.c], .int .i64 3, .int .i64 (i : Int)] w fun e w' => e = .returned (.int .i64 (atC (fun y _ => ocode x.rs.length y) x.os i)) ∧ Below w.heap.size w w' := by
  have hb0 := (Below.refl w.heap.size w).alloc (Nat.le_refl _) (.cells #[.slice M.r.A M.r.n M.r.c, .slice M.l.A M.l.n M.l.c, .slice M.p.A M.p.n M.p.c, .slice M.o.A M.o.n M.o.c, .slice M.g.A M.g.n M.g.c, .slice M.s.A M.s.n M.s.c, .slice M.m.A M.m.n M.m.c] 30)
  have HD := Lib.hid (droute_any M x i _ (h.next hb0) hi)
  have HB0 := Lib.hid hb0
  clear hb0 h
  go_enter Tryz.func89, Tryz.ntmps89
  go_wp2_with (go_at_call 144; (with_reducible refine HD.out.mono ?_); rintro e w2 ⟨rfl, hb2⟩)
  go_ret
  exact ⟨rfl, below_next HB0.out hb2⟩
set_option maxHeartbeats 2000000 in
theorem dval4 (M : Cm) (x : Cfg) (i : Nat) (w : World) (h : DW w M x) (hi : i < x.gs.length) :
    Calls Tryz.prog 89 #[.agg #[.slice M.r.A M.r.n M.r.c, .slice M.l.A M.l.n M.l.c, .slice M.p.A M.p.n M.p.c, .slice M.o.A M.o.n M.o.c, .slice M.g.A M.g.n M.g.c, .slice M.s.A M.s.n M.s.c, .slice M.m.A M.m.n M.m.c], .int .i64 4, .int .i64 (i : Int)] w fun e w' => e = .returned (.int .i64 (atC (gcode) x.gs i)) ∧ Below w.heap.size w w' := by
  have hb0 := (Below.refl w.heap.size w).alloc (Nat.le_refl _) (.cells #[.slice M.r.A M.r.n M.r.c, .slice M.l.A M.l.n M.l.c, .slice M.p.A M.p.n M.p.c, .slice M.o.A M.o.n M.o.c, .slice M.g.A M.g.n M.g.c, .slice M.s.A M.s.n M.s.c, .slice M.m.A M.m.n M.m.c] 30)
  have HD := Lib.hid (dgroups_any M x i _ (h.next hb0) hi)
  have HB0 := Lib.hid hb0
  clear hb0 h
  go_enter Tryz.func89, Tryz.ntmps89
  go_wp2_with (go_at_call 145; (with_reducible refine HD.out.mono ?_); rintro e w2 ⟨rfl, hb2⟩)
  go_ret
  exact ⟨rfl, below_next HB0.out hb2⟩
set_option maxHeartbeats 2000000 in
theorem dval5 (M : Cm) (x : Cfg) (i : Nat) (w : World) (h : DW w M x) (hi : i < x.ss.length) :
    Calls Tryz.prog 89 #[.agg #[.slice M.r.A M.r.n M.r.c, .slice M.l.A M.l.n M.l.c, .slice M.p.A M.p.n M.p.c, .slice M.o.A M.o.n M.o.c, .slice M.g.A M.g.n M.g.c, .slice M.s.A M.s.n M.s.c, .slice M.m.A M.m.n M.m.c], .int .i64 5, .int .i64 (i : Int)] w fun e w' => e = .returned (.int .i64 (atC (scode x.ls x.ps) x.ss i)) ∧ Below w.heap.size w w' := by
  have hb0 := (Below.refl w.heap.size w).alloc (Nat.le_refl _) (.cells #[.slice M.r.A M.r.n M.r.c, .slice M.l.A M.l.n M.l.c, .slice M.p.A M.p.n M.p.c, .slice M.o.A M.o.n M.o.c, .slice M.g.A M.g.n M.g.c, .slice M.s.A M.s.n M.s.c, .slice M.m.A M.m.n M.m.c] 30)
  have HD := Lib.hid (dsource_any M x i _ (h.next hb0) hi)
  have HB0 := Lib.hid hb0
  clear hb0 h
  go_enter Tryz.func89, Tryz.ntmps89
  go_wp2_with (go_at_call 146; (with_reducible refine HD.out.mono ?_); rintro e w2 ⟨rfl, hb2⟩)
  go_ret
  exact ⟨rfl, below_next HB0.out hb2⟩
set_option maxHeartbeats 2000000 in
theorem dval6 (M : Cm) (x : Cfg) (i : Nat) (w : World) (h : DW w M x) (hi : i < x.ms.length) :
    Calls Tryz.prog 89 #[.agg #[.slice M.r.A M.r.n M.r.c, .slice M.l.A M.l.n M.l.c, .slice M.p.A M.p.n M.p.c, .slice M.o.A M.o.n M.o.c, .slice M.g.A M.g.n M.g.c, .slice M.s.A M.s.n M.s.c, .slice M.m.A M.m.n M.m.c], .int .i64 6, .int .i64 (i : Int)] w fun e w' => e = .returned (.int .i64 (atC (fun y _ => mcode x.ls.length y) x.ms i)) ∧ Below w.heap.size w w' := by
  have hb0 := (Below.refl w.heap.size w).alloc (Nat.le_refl _) (.cells #[.slice M.r.A M.r.n M.r.c, .slice M.l.A M.l.n M.l.c, .slice M.p.A M.p.n M.p.c, .slice M.o.A M.o.n M.o.c, .slice M.g.A M.g.n M.g.c, .slice M.s.A M.s.n M.s.c, .slice M.m.A M.m.n M.m.c] 30)
  have HD := Lib.hid (dmember_any M x i _ (h.next hb0) hi)
  have HB0 := Lib.hid hb0
  clear hb0 h
  go_enter Tryz.func89, Tryz.ntmps89
  go_wp2_with (go_at_call 147; (with_reducible refine HD.out.mono ?_); rintro e w2 ⟨rfl, hb2⟩)
  go_ret
  exact ⟨rfl, below_next HB0.out hb2⟩
theorem drow_at (M : Cm) (x : Cfg) (w : World) (h : DW w M x) (hs1 : ∀ y ∈ x.rs, (str y.1).size ≤ 9223372036854775807) (hs2 : ∀ y ∈ x.ls, (str y.1).size ≤ 9223372036854775807) (k : Nat) (hk : k < 7) :
    ∃ (C : Nat → Int) (most len : Nat), (#[.int .i64 (M.r.n : Int), .int .i64 (M.l.n : Int), .int .i64 (M.p.n : Int), .int .i64 (M.o.n : Int), .int .i64 (M.g.n : Int), .int .i64 (M.s.n : Int), .int .i64 (M.m.n : Int)] : Array Value)[k]? = some (.int .i64 (len : Int)) ∧ (#[.int .i64 16, .int .i64 24, .int .i64 64, .int .i64 96, .int .i64 8, .int .i64 8, .int .i64 24] : Array Value)[k]? = some (.int .i64 (most : Int)) ∧ (vlist x).drop k = feC C most 0 len :: (vlist x).drop (k + 1) ∧ len ≤ 1000000 ∧
      ∀ i, i < len → ∀ W, Below w.heap.size w W → Calls Tryz.prog 89 #[.agg #[.slice M.r.A M.r.n M.r.c, .slice M.l.A M.l.n M.l.c, .slice M.p.A M.p.n M.p.c, .slice M.o.A M.o.n M.o.c, .slice M.g.A M.g.n M.g.c, .slice M.s.A M.s.n M.s.c, .slice M.m.A M.m.n M.m.c], .int .i64 (k : Int), .int .i64 (i : Int)] W fun e w' => e = .returned (.int .i64 (C i)) ∧ Below W.heap.size W w' := by
  match k, hk with
  | 0, _ => exact ⟨atC (rcode) x.rs, 16, M.r.n, rfl, rfl, by rw [← h.r.1]; rfl, h.rok.2, fun i hi W hW => dval0 M x i W (h.next hW) (by have := h.r.1; omega) hs1⟩
  | 1, _ => exact ⟨atC (lcode) x.ls, 24, M.l.n, rfl, rfl, by rw [← h.l.1]; rfl, h.lok.2, fun i hi W hW => dval1 M x i W (h.next hW) (by have := h.l.1; omega) hs2⟩
  | 2, _ => exact ⟨atC (pcode x.rs.length x.ls) x.ps, 64, M.p.n, rfl, rfl, by rw [← h.p.1]; rfl, h.pok.2, fun i hi W hW => dval2 M x i W (h.next hW) (by have := h.p.1; omega)⟩
  | 3, _ => exact ⟨atC (fun y _ => ocode x.rs.length y) x.os, 96, M.o.n, rfl, rfl, by rw [← h.o.1]; rfl, h.ook.2, fun i hi W hW => dval3 M x i W (h.next hW) (by have := h.o.1; omega)⟩
  | 4, _ => exact ⟨atC (gcode) x.gs, 8, M.g.n, rfl, rfl, by rw [← h.g.1]; rfl, h.gok.2, fun i hi W hW => dval4 M x i W (h.next hW) (by have := h.g.1; omega)⟩
  | 5, _ => exact ⟨atC (scode x.ls x.ps) x.ss, 8, M.s.n, rfl, rfl, by rw [← h.s.1]; rfl, h.sok.2, fun i hi W hW => dval5 M x i W (h.next hW) (by have := h.s.1; omega)⟩
  | 6, _ => exact ⟨atC (fun y _ => mcode x.ls.length y) x.ms, 24, M.m.n, rfl, rfl, by rw [← h.m.1]; rfl, h.mok.2, fun i hi W hW => dval6 M x i W (h.next hW) (by have := h.m.1; omega)⟩
theorem lay22 (w : World) (c1 c2 : Array Value) (t : TypeId) : ∃ W, W = (w.alloc (.cells c1 t)).alloc (.cells c2 t) ∧ Below w.heap.size w W ∧ Blk W w.heap.size t c1 ∧ Blk W (w.heap.size + 1) t c2 := by
  refine ⟨_, rfl, ((Below.refl _ _).alloc (Nat.le_refl _) _).alloc (by simp) _, (Blk.new w t c1).alloc _, ?_⟩
  have := Blk.new (w.alloc (.cells c1 t)) t c2
  simpa using this
set_option maxRecDepth 100000 in
set_option maxHeartbeats 4000000 in
theorem dvalid_dw (M : Cm) (x : Cfg) (w : World) (h : DW w M x) (hs1 : ∀ y ∈ x.rs, (str y.1).size ≤ 9223372036854775807) (hs2 : ∀ y ∈ x.ls, (str y.1).size ≤ 9223372036854775807) :
    Calls Tryz.prog 44 #[.agg #[.slice M.r.A M.r.n M.r.c, .slice M.l.A M.l.n M.l.c, .slice M.p.A M.p.n M.p.c, .slice M.o.A M.o.n M.o.c, .slice M.g.A M.g.n M.g.c, .slice M.s.A M.s.n M.s.c, .slice M.m.A M.m.n M.m.c]] w fun e w' => e = .returned (.int .i64 (vcode x)) ∧ Below w.heap.size w w' := by
  have HT := Lib.hid (fun k hk => drow_at M x w h hs1 hs2 k hk)
  have HV : Hid (vcode x = firstNZ ((vlist x).drop 0)) := Lib.hid rfl
  have HL : Hid ((vlist x).drop 7 = []) := Lib.hid rfl
  generalize vcode x = vc at *
  generalize vlist x = vl at *
  clear h hs1 hs2
  have hb0 := (Below.refl w.heap.size w).alloc (Nat.le_refl _) (.cells #[.slice M.r.A M.r.n M.r.c, .slice M.l.A M.l.n M.l.c, .slice M.p.A M.p.n M.p.c, .slice M.o.A M.o.n M.o.c, .slice M.g.A M.g.n M.g.c, .slice M.s.A M.s.n M.s.c, .slice M.m.A M.m.n M.m.c] 30)
  have hk0 := Blk.new w 30 #[.slice M.r.A M.r.n M.r.c, .slice M.l.A M.l.n M.l.c, .slice M.p.A M.p.n M.p.c, .slice M.o.A M.o.n M.o.c, .slice M.g.A M.g.n M.g.c, .slice M.s.A M.s.n M.s.c, .slice M.m.A M.m.n M.m.c]
  have HS := Lib.hid (sizes_any M (w.alloc (.cells #[.slice M.r.A M.r.n M.r.c, .slice M.l.A M.l.n M.l.c, .slice M.p.A M.p.n M.p.c, .slice M.o.A M.o.n M.o.c, .slice M.g.A M.g.n M.g.c, .slice M.s.A M.s.n M.s.c, .slice M.m.A M.m.n M.m.c] 30)))
  have HB0 := Lib.hid hb0
  have HK0 := Lib.hid hk0
  clear hb0 hk0
  go_enter Tryz.func44, Tryz.ntmps44
  go_upto_region 2 with (go_at_call 88; (with_reducible refine HS.out.mono ?_); rintro e w2 ⟨rfl, hb2⟩)
  obtain ⟨W4, hW4, hb4, hk3, hk4⟩ := lay22 w2 #[.int .i64 (M.r.n : Int), .int .i64 (M.l.n : Int), .int .i64 (M.p.n : Int), .int .i64 (M.o.n : Int), .int .i64 (M.g.n : Int), .int .i64 (M.s.n : Int), .int .i64 (M.m.n : Int)] #[.int .i64 16, .int .i64 24, .int .i64 64, .int .i64 96, .int .i64 8, .int .i64 8, .int .i64 24] 173
  rw [← hW4]
  have HB4 := Lib.hid (below_next (below_next HB0.out hb2) hb4)
  have HK1 := Lib.hid ((HK0.out.next hb2).next hb4)
  have HK3 := Lib.hid hk3
  have HK4 := Lib.hid hk4
  clear hW4 hb4 hk3 hk4 hb2 HS HK0 HB0
  generalize w2.heap.size = g at *
  go_wp2_with fail
  go_loopw [5] (fun kv wr => ∃ k : Nat, k ≤ 7 ∧ kv = .int .i64 k ∧ Hid (vc = firstNZ (vl.drop k)) ∧ Hid (Below W4.heap.size W4 wr)) (fun kv _ => 7 - (intOf kv).toNat)
  case atStart => exact ⟨0, by omega, rfl, HV, Lib.hid (Below.refl _ _)⟩
  case round =>
    obtain ⟨k, hk, rfl, HVk, HBk⟩ := hrel
    rcases Nat.lt_or_ge k 7 with hlt | hge
    · obtain ⟨C, most, len, e1, e2, e3, hl, hC⟩ := HT.out k hlt
      have HE1 := Lib.hid e1
      have HE2 := Lib.hid e2
      have HC := Lib.hid hC
      have HVi : Hid (vc = if feC C most 0 (len - 0) = 0 then firstNZ (vl.drop (k + 1)) else feC C most 0 (len - 0)) := Lib.hid (by rw [HVk.out, e3, Nat.sub_zero]; rfl)
      clear e1 e2 e3 hC
      have hk7 : (k : Int) < 7 := by omega
      have hk0 : (0 : Int) ≤ (k : Int) := by omega
      generalize wr = w7 at *
      go_wp2_with fail
      go_loopw [6] (fun iv wk => ∃ i : Nat, i ≤ len ∧ iv = .int .i64 i ∧ Hid (vc = if feC C most i (len - i) = 0 then firstNZ (vl.drop (k + 1)) else feC C most i (len - i)) ∧ Hid (Below W4.heap.size W4 wk)) (fun iv _ => len - (intOf iv).toNat)
      case atStart => exact ⟨0, by omega, rfl, HVi, HBk⟩
      case round =>
        obtain ⟨i, hi, rfl, HVj, HB⟩ := hrel
        have n0 : wr.cell? ⟨g, k, none⟩ = some (.int .i64 (len : Int)) := ((HK3.out.next HB.out).cell k).trans HE1.out
        have m0 : wr.cell? ⟨g + 1, k, none⟩ = some (.int .i64 (most : Int)) := ((HK4.out.next HB.out).cell k).trans HE2.out
        rcases Nat.lt_or_ge i len with hil | hil
        · have hi1 : (i : Int) < (len : Int) := by omega
          rcases Nat.lt_or_ge i most with him | him
          · have hi2 : ¬ (most : Int) ≤ (i : Int) := by omega
            have hi3 : ¬ most ≤ i := by omega
            have HCi := Lib.hid (HC.out i hil wr (below_next HB4.out HB.out))
            have HKw := Lib.hid (HK1.out.next HB.out)
            have y0 : wr.cell? ⟨w.heap.size, 0, none⟩ = some (.slice M.r.A M.r.n M.r.c) := HKw.out.cell 0
            have y1 : wr.cell? ⟨w.heap.size, 1, none⟩ = some (.slice M.l.A M.l.n M.l.c) := HKw.out.cell 1
            have y2 : wr.cell? ⟨w.heap.size, 2, none⟩ = some (.slice M.p.A M.p.n M.p.c) := HKw.out.cell 2
            have y3 : wr.cell? ⟨w.heap.size, 3, none⟩ = some (.slice M.o.A M.o.n M.o.c) := HKw.out.cell 3
            have y4 : wr.cell? ⟨w.heap.size, 4, none⟩ = some (.slice M.g.A M.g.n M.g.c) := HKw.out.cell 4
            have y5 : wr.cell? ⟨w.heap.size, 5, none⟩ = some (.slice M.s.A M.s.n M.s.c) := HKw.out.cell 5
            have y6 : wr.cell? ⟨w.heap.size, 6, none⟩ = some (.slice M.m.A M.m.n M.m.c) := HKw.out.cell 6
            have HN : Hid (C i = 0 → vc = if feC C most (i + 1) (len - (i + 1)) = 0 then firstNZ (vl.drop (k + 1)) else feC C most (i + 1) (len - (i + 1))) := Lib.hid (fun hc => by
              rw [HVj.out, feC_next him (by omega) hc]; rfl)
            have HHr : Hid (C i ≠ 0 → vc = C i) := Lib.hid (fun hc => by
              rw [HVj.out, feC_here him (by omega) hc, if_neg hc])
            generalize C i = q at *
            by_cases hq : q = 0
            · have HN2 := Lib.hid (HN.out hq)
              have hq2 : (q != 0) = false := by simp [hq]
              clear hq
              go_wp2_with (go_at_call 89; (with_reducible refine HCi.out.mono ?_); rintro e w9 ⟨rfl, hb9⟩; have HB9 := Lib.hid (below_next HB.out hb9); clear hb9)
              go_roundw
              case rel => exact ⟨i + 1, by omega, by go_num, HN2, HB9⟩
              case measure => simp [intOf]; omega
            · have HN2 := Lib.hid (HHr.out hq)
              have hq2 : (q != 0) = true := by simp [hq]
              clear hq
              go_wp2_with (go_at_call 89; (with_reducible refine HCi.out.mono ?_); rintro e w9 ⟨rfl, hb9⟩; have HB9 := Lib.hid (below_next HB.out hb9); clear hb9)
              first | go_ret2 | go_ret
              exact ⟨by rw [HN2.out]; rfl, below_next HB4.out HB9.out⟩
          · have hi2 : (most : Int) ≤ (i : Int) := by omega
            have HN2 : Hid (vc = 104) := Lib.hid (by rw [HVj.out, feC_many him (by omega)]; rfl)
            go_wp2
            first | go_ret2 | go_ret
            exact ⟨by rw [HN2.out]; rfl, below_next HB4.out HB.out⟩
        · obtain rfl : len = i := by omega
          have hd : decide ((len : Int) < (len : Int)) = false := by simp
          have HN2 : Hid (vc = firstNZ (vl.drop (k + 1))) := Lib.hid (by rw [HVj.out, Nat.sub_self]; rfl)
          go_wp2
          go_roundw
          case rel => exact ⟨k + 1, by omega, by go_num, HN2, HB⟩
          case measure => simp [intOf]; omega
    · obtain rfl : k = 7 := by omega
      have HN2 : Hid (vc = 0) := Lib.hid (by rw [HVk.out, HL.out]; rfl)
      go_wp2
      first | go_ret2 | go_ret
      exact ⟨by rw [HN2.out]; rfl, below_next HB4.out HBk.out⟩
theorem dvalid_any (M : Cm) (x : Cfg) (w : World) (h : CW w M x) (hs1 : ∀ y ∈ x.rs, (str y.1).size ≤ 281474976710656) (hs2 : ∀ y ∈ x.ls, (str y.1).size ≤ 281474976710656) :
    Calls Tryz.prog 44 #[.agg #[.slice M.r.A M.r.n M.r.c, .slice M.l.A M.l.n M.l.c, .slice M.p.A M.p.n M.p.c, .slice M.o.A M.o.n M.o.c, .slice M.g.A M.g.n M.g.c, .slice M.s.A M.s.n M.s.c, .slice M.m.A M.m.n M.m.c]] w fun e w' => e = .returned (.int .i64 (vcode x)) ∧ Below w.heap.size w w' :=
  dvalid_dw M x w h.dw (fun y hy => by have := hs1 y hy; omega) (fun y hy => by have := hs2 y hy; omega)
end Go.Proofs.YtdljpokhcfhhfaaGreatDoor
namespace Go.Proofs.YtdljpokhcfhhfaaGreatDoor
open Go.RowKit Lx Sm
/-- a network in memory, each of its lists as long as may be -/
structure LW (w : World) (M : Cm) (x : Cfg) : Prop where
  r : IRouter w M.r.A M.r.n x.rs
  l : ILink w M.l.A M.l.n x.ls
  p : IPort w M.p.A M.p.n x.ps
  o : IRoute w M.o.A M.o.n x.os
  g : IRange w M.g.A M.g.n x.gs
  s : ISource w M.s.A M.s.n x.ss
  m : IMember w M.m.A M.m.n x.ms
  rc : M.r.n ≤ M.r.c
  lc : M.l.n ≤ M.l.c
  pc : M.p.n ≤ M.p.c
  oc : M.o.n ≤ M.o.c
  gc : M.g.n ≤ M.g.c
  sc : M.s.n ≤ M.s.c
  mc : M.m.n ≤ M.m.c
  src : ∀ y ∈ x.ms, AR w y.A y.n y.xs ∧ y.n ≤ y.c ∧ y.n ≤ 9223372036854775807
  ok : x.ok
  n1 : ∀ y ∈ x.rs, (str y.1).size ≤ 9223372036854775807
  n2 : ∀ y ∈ x.ls, (str y.1).size ≤ 9223372036854775807
theorem LW.next {w w' : World} {M : Cm} {x : Cfg} (h : LW w M x) (hb : Below w.heap.size w w') : LW w' M x :=
  ⟨IR.next h.r hb, IR.next h.l hb, IR.next h.p hb, IR.next h.o hb, IR.next h.g hb, IR.next h.s hb, IR.next h.m hb, h.rc, h.lc, h.pc, h.oc, h.gc, h.sc, h.mc, fun y hy => ⟨(h.src y hy).1.next hb, (h.src y hy).2⟩, h.ok, h.n1, h.n2⟩
/-- is a network light, and may it be? -/
def lightP (x : Cfg) (n : Int) : Bool := decide ((x.rs.length : Int) ≤ n) && decide (x.ls.length ≤ 12) && decide (x.ps.length ≤ 24) && decide (x.os.length ≤ 30) && decide (x.gs.length ≤ 4) && decide (x.ss.length ≤ 5) && decide (x.ms.length ≤ 10) && (vcode x == 0)
theorem LW.light {w : World} {M : Cm} {x : Cfg} {n : Int} (h : LW w M x) : lightP x n = (decide ((M.r.n : Int) ≤ n) && decide (M.l.n ≤ 12) && decide (M.p.n ≤ 24) && decide (M.o.n ≤ 30) && decide (M.g.n ≤ 4) && decide (M.s.n ≤ 5) && decide (M.m.n ≤ 10) && (vcode x == 0)) := by
  unfold lightP
  rw [h.r.1, h.l.1, h.p.1, h.o.1, h.g.1, h.s.1, h.m.1]
set_option maxHeartbeats 4000000 in
set_option maxRecDepth 100000 in
theorem light_any (M : Cm) (x : Cfg) (n : Int) (w : World) (h : LW w M x) (hn : n ≤ 1000) :
    Calls Tryz.prog 8 #[.agg #[.slice M.r.A M.r.n M.r.c, .slice M.l.A M.l.n M.l.c, .slice M.p.A M.p.n M.p.c, .slice M.o.A M.o.n M.o.c, .slice M.g.A M.g.n M.g.c, .slice M.s.A M.s.n M.s.c, .slice M.m.A M.m.n M.m.c], .int .i64 n] w fun e w' => e = .returned (.bool (lightP x n)) ∧ Below w.heap.size w w' := by
  have hb0 := (Below.refl w.heap.size w).alloc (Nat.le_refl _) (.cells #[.slice M.r.A M.r.n M.r.c, .slice M.l.A M.l.n M.l.c, .slice M.p.A M.p.n M.p.c, .slice M.o.A M.o.n M.o.c, .slice M.g.A M.g.n M.g.c, .slice M.s.A M.s.n M.s.c, .slice M.m.A M.m.n M.m.c] 30)
  have HL := Lib.hid (h.light (n := n))
  have H := Lib.hid (h.next hb0)
  have HB0 := Lib.hid hb0
  generalize lightP x n = lp at *
  clear h hb0
  by_cases c0 : (M.r.n : Int) ≤ n
  · by_cases c1 : M.l.n ≤ 12
    · by_cases c2 : M.p.n ≤ 24
      · by_cases c3 : M.o.n ≤ 30
        · by_cases c4 : M.g.n ≤ 4
          · by_cases c5 : M.s.n ≤ 5
            · by_cases c6 : M.m.n ≤ 10
              · have HD : Hid (DW (w.alloc (.cells #[.slice M.r.A M.r.n M.r.c, .slice M.l.A M.l.n M.l.c, .slice M.p.A M.p.n M.p.c, .slice M.o.A M.o.n M.o.c, .slice M.g.A M.g.n M.g.c, .slice M.s.A M.s.n M.s.c, .slice M.m.A M.m.n M.m.c] 30)) M x) := Lib.hid ⟨H.out.r, H.out.l, H.out.p, H.out.o, H.out.g, H.out.s, H.out.m, ⟨H.out.rc, by omega⟩, ⟨H.out.lc, by omega⟩, ⟨H.out.pc, by omega⟩, ⟨H.out.oc, by omega⟩, ⟨H.out.gc, by omega⟩, ⟨H.out.sc, by omega⟩, ⟨H.out.mc, by omega⟩, H.out.src, H.out.ok⟩
                have HV := Lib.hid (dvalid_dw M x _ HD.out H.out.n1 H.out.n2)
                have HR : Hid (lp = (vcode x == 0)) := Lib.hid (by rw [HL.out]; simp [c0, c1, c2, c3, c4, c5, c6])
                have i1 : (M.l.n : Int) ≤ 12 := by omega
                have i2 : (M.p.n : Int) ≤ 24 := by omega
                have i3 : (M.o.n : Int) ≤ 30 := by omega
                have i4 : (M.g.n : Int) ≤ 4 := by omega
                have i5 : (M.s.n : Int) ≤ 5 := by omega
                have i6 : (M.m.n : Int) ≤ 10 := by omega
                generalize vcode x = vc at *
                clear H HL HD
                go_enter Tryz.func8, Tryz.ntmps8
                go_wp2_with (go_at_call 44; (with_reducible refine HV.out.mono ?_); rintro e w2 ⟨rfl, hb2⟩)
                go_ret
                exact ⟨by rw [HR.out]; rfl, below_next HB0.out hb2⟩
              · have HR : Hid (lp = false) := Lib.hid (by rw [HL.out]; simp [c6])
                have i6 : ¬ (M.m.n : Int) ≤ 10 := by omega
                clear H HL
                go_enter Tryz.func8, Tryz.ntmps8
                go_wp2
                go_ret
                exact ⟨by rw [HR.out]; rfl, HB0.out⟩
            · have HR : Hid (lp = false) := Lib.hid (by rw [HL.out]; simp [c5])
              have i5 : ¬ (M.s.n : Int) ≤ 5 := by omega
              clear H HL
              go_enter Tryz.func8, Tryz.ntmps8
              go_wp2
              go_ret
              exact ⟨by rw [HR.out]; rfl, HB0.out⟩
          · have HR : Hid (lp = false) := Lib.hid (by rw [HL.out]; simp [c4])
            have i4 : ¬ (M.g.n : Int) ≤ 4 := by omega
            clear H HL
            go_enter Tryz.func8, Tryz.ntmps8
            go_wp2
            go_ret
            exact ⟨by rw [HR.out]; rfl, HB0.out⟩
        · have HR : Hid (lp = false) := Lib.hid (by rw [HL.out]; simp [c3])
          have i3 : ¬ (M.o.n : Int) ≤ 30 := by omega
          clear H HL
          go_enter Tryz.func8, Tryz.ntmps8
          go_wp2
          go_ret
          exact ⟨by rw [HR.out]; rfl, HB0.out⟩
      · have HR : Hid (lp = false) := Lib.hid (by rw [HL.out]; simp [c2])
        have i2 : ¬ (M.p.n : Int) ≤ 24 := by omega
        clear H HL
        go_enter Tryz.func8, Tryz.ntmps8
        go_wp2
        go_ret
        exact ⟨by rw [HR.out]; rfl, HB0.out⟩
    · have HR : Hid (lp = false) := Lib.hid (by rw [HL.out]; simp [c1])
      have i1 : ¬ (M.l.n : Int) ≤ 12 := by omega
      clear H HL
      go_enter Tryz.func8, Tryz.ntmps8
      go_wp2
      go_ret
      exact ⟨by rw [HR.out]; rfl, HB0.out⟩
  · have HR : Hid (lp = false) := Lib.hid (by rw [HL.out]; simp [c0])
    clear H HL
    go_enter Tryz.func8, Tryz.ntmps8
    go_wp2
    go_ret
    exact ⟨by rw [HR.out]; rfl, HB0.out⟩
end Go.Proofs.YtdljpokhcfhhfaaGreatDoor

