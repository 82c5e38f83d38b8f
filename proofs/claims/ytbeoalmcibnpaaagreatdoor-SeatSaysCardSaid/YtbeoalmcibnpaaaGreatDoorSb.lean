/- seat.bids, seat.Of; the document's Ahead, bid, Seat; the law's other; over the seat's program. -/
import Derived.Test.YtbeoalmcibnpaaaGreatDoorBb
import Derived.Test.YtbeoalmcibnpaaaGreatDoorBp
import Derived.Test.YtbeoalmcibnpaaaGreatDoorQo
import Derived.Test.YtbeoalmcibnpaaaGreatDoorLt
import Derived.Deep.Cut
import Derived.StillTailTactics
namespace Go.Proofs.YtbeoalmcibnpaaaGreatDoor
open Go.ChangeShapes Go.WideShapes Go.ChangeAt Go.RowKit Lx Sm Go.Maps
theorem ahead_any (p q : Bd) (w : World) : Calls Tryz.prog 57 #[.agg #[.int .i64 p.1, .int .u32 p.2], .agg #[.int .i64 q.1, .int .u32 q.2]] w fun e w' => e = .returned (.bool (beats p q)) ∧ Below w.heap.size w w' := by
  obtain ⟨a, b⟩ := p
  obtain ⟨c, d⟩ := q
  dsimp only
  have HH : beats (a, b) (c, d) = (decide (c < a) || ((a == c) && decide (d < b))) := by
    unfold beats
    dsimp only
    split
    · rename_i h; subst h; simp
    · rename_i h; rw [Bool.eq_iff_iff]; simp [h]
  rw [HH]
  clear HH
  obtain ⟨b1, e1⟩ : ∃ r, decide (c < a) = r := ⟨_, rfl⟩
  obtain ⟨b2, e2⟩ : ∃ r, (a == c) = r := ⟨_, rfl⟩
  obtain ⟨b3, e3⟩ : ∃ r, decide (d < b) = r := ⟨_, rfl⟩
  rw [e1, e2, e3]
  cases b1 <;> cases b2
  all_goals
    go_enter Tryz.func57, Tryz.ntmps57
    go_wp2
    go_ret
    exact ⟨ret_bool (by simp), ((Below.refl _ _).alloc (Nat.le_refl _) _).alloc (by simp) _⟩
theorem ret_other (tm : Array Value) (N : Nat) (W : World) (v0 v1 : Value) (h2 : tm.getD 2 undef = .pointer (some ⟨N, 0, none⟩)) (c0 : W.cell? ⟨N, 0, none⟩ = some v0) (c1 : W.cell? ⟨N, 1, none⟩ = some v1) :
    (results Tryz.f58 tm).run Tryz.prog W = .ok (.agg #[v0, v1]) W := by
  have h2' : tm[2]?.getD undef = .pointer (some ⟨N, 0, none⟩) := by simpa using h2
  simp [results, Tryz.results58, go_sem, h2', c0, c1]
theorem ret_bid (tm : Array Value) (N : Nat) (W : World) (v0 v1 : Value) (h2 : tm.getD 4 undef = .pointer (some ⟨N, 0, none⟩)) (c0 : W.cell? ⟨N, 0, none⟩ = some v0) (c1 : W.cell? ⟨N, 1, none⟩ = some v1) :
    (results Tryz.f103 tm).run Tryz.prog W = .ok (.agg #[v0, v1]) W := by
  have h2' : tm[4]?.getD undef = .pointer (some ⟨N, 0, none⟩) := by simpa using h2
  simp [results, Tryz.results103, go_sem, h2', c0, c1]
theorem other_any (p : Bd) (w : World) : Calls Tryz.prog 58 #[.agg #[.int .i64 p.1, .int .u32 p.2]] w fun e w' => e = .returned (.agg #[.int .i64 p.1, .int .u32 p.2]) ∧ Below w.heap.size w w' := by
  obtain ⟨a, b⟩ := p
  dsimp only
  have hB1 : Below w.heap.size w ((w.alloc (.cells #[.int .i64 a, .int .u32 b] 100)).alloc (.cells #[.int .i64 0, .int .u32 0] 102)) := ((Below.refl _ _).alloc (Nat.le_refl _) _).alloc (by simp) _
  have hk0 := (Blk.new w 100 #[.int .i64 a, .int .u32 b]).alloc (.cells #[.int .i64 0, .int .u32 0] 102)
  have hk1 := Blk.new (w.alloc (.cells #[.int .i64 a, .int .u32 b] 100)) 102 #[.int .i64 0, .int .u32 0]
  rw [sz_alloc] at hk1
  go_enter Tryz.func58, Tryz.ntmps58
  go_upto_region 1 with fail
  generalize (w.alloc (.cells #[.int .i64 a, .int .u32 b] 100)).alloc (.cells #[.int .i64 0, .int .u32 0] 102) = W1 at *
  have c0 := hk0.cell 0
  have c1 := hk0.cell 1
  have z0 := hk1.cell 0
  have z1 := hk1.cell 1
  have zf := hk1.frozen 0
  have zg := hk1.frozen 1
  have HK1 := Lib.hid hk1
  have HB1 := Lib.hid hB1
  clear hk0 hk1 hB1
  go_wp2
  obtain ⟨W3, hW3, d0, d1, hB3⟩ := qstore2 HK1.out (Nat.le_succ w.heap.size) w HB1.out (.int .i64 a) (.int .u32 b)
  rw [← hW3]
  clear hW3
  refine bodyPost_ret (ret_other _ (w.heap.size + 1) _ _ _ rfl d0 d1) rfl ?_
  exact ⟨rfl, hB3⟩
/-- a port's bid -/
def bidP (x : Cfg) (q : Int) : Bd := ((x.rs.getD (x.ps.getD q.toNat (0, 0, 0)).1.toNat ([], 0)).2, (x.ps.getD q.toNat (0, 0, 0)).2.2)
set_option maxRecDepth 100000 in
set_option maxHeartbeats 4000000 in
theorem dbid_any (M : Cm) (x : Cfg) (q : Nat) (w : World) (h : CW w M x) (k : LtOK x) (hq : q < x.ps.length) :
    Calls Tryz.prog 103 #[.agg #[.slice M.r.A M.r.n M.r.c, .slice M.l.A M.l.n M.l.c, .slice M.p.A M.p.n M.p.c, .slice M.o.A M.o.n M.o.c, .slice M.g.A M.g.n M.g.c, .slice M.s.A M.s.n M.s.c, .slice M.m.A M.m.n M.m.c], .int .i64 (q : Int)] w fun e w' => e = .returned (.agg #[.int .i64 (bidP x (q : Int)).1, .int .u32 (bidP x (q : Int)).2]) ∧ Below w.heap.size w w' := by
  have hpl := h.p.len
  have hrl := h.r.len
  have hB1 : Below w.heap.size w ((w.alloc (.cells #[.slice M.r.A M.r.n M.r.c, .slice M.l.A M.l.n M.l.c, .slice M.p.A M.p.n M.p.c, .slice M.o.A M.o.n M.o.c, .slice M.g.A M.g.n M.g.c, .slice M.s.A M.s.n M.s.c, .slice M.m.A M.m.n M.m.c] 30)).alloc (.cells #[.int .i64 0, .int .u32 0] 102)) := ((Below.refl _ _).alloc (Nat.le_refl _) _).alloc (by simp) _
  have hk0 := (Blk.new w 30 #[.slice M.r.A M.r.n M.r.c, .slice M.l.A M.l.n M.l.c, .slice M.p.A M.p.n M.p.c, .slice M.o.A M.o.n M.o.c, .slice M.g.A M.g.n M.g.c, .slice M.s.A M.s.n M.s.c, .slice M.m.A M.m.n M.m.c]).alloc (.cells #[.int .i64 0, .int .u32 0] 102)
  have hk1 := Blk.new (w.alloc (.cells #[.slice M.r.A M.r.n M.r.c, .slice M.l.A M.l.n M.l.c, .slice M.p.A M.p.n M.p.c, .slice M.o.A M.o.n M.o.c, .slice M.g.A M.g.n M.g.c, .slice M.s.A M.s.n M.s.c, .slice M.m.A M.m.n M.m.c] 30)) 102 #[.int .i64 0, .int .u32 0]
  rw [sz_alloc] at hk1
  have HC := Lib.hid (h.next hB1)
  go_enter Tryz.func103, Tryz.ntmps103
  go_upto_region 1 with fail
  generalize (w.alloc (.cells #[.slice M.r.A M.r.n M.r.c, .slice M.l.A M.l.n M.l.c, .slice M.p.A M.p.n M.p.c, .slice M.o.A M.o.n M.o.c, .slice M.g.A M.g.n M.g.c, .slice M.s.A M.s.n M.s.c, .slice M.m.A M.m.n M.m.c] 30)).alloc (.cells #[.int .i64 0, .int .u32 0] 102) = W1 at *
  obtain ⟨bp, op, ⟨r1, l1, a1⟩, hA, hbp, hx, c0, _, c2⟩ := IPort.cells HC.out.p (show q < M.p.n by omega)
  have hpo := (k.po _ (List.mem_of_getElem? hx))
  dsimp only at hpo
  obtain ⟨rn, hrn⟩ : ∃ rn : Nat, r1 = (rn : Int) := ⟨r1.toNat, by omega⟩
  subst hrn
  obtain ⟨br, or_, ⟨s1, rk⟩, hA2, hbr, hx2, _, e1⟩ := IRouter.cells HC.out.r (show rn < M.r.n by omega)
  have hbid : bidP x (q : Int) = (rk, a1) := by
    unfold bidP
    simp [List.getD, hx, hx2]
  have HBD := Lib.hid hbid
  have HK0 := Lib.hid hk0
  have HK1 := Lib.hid hk1
  have HB1 := Lib.hid hB1
  have y0 : ∀ W, Below W1.heap.size W1 W → W.cell? ⟨w.heap.size, 0, none⟩ = some (.slice (some ⟨br, or_, none⟩) M.r.n M.r.c) := fun W hW => by rw [← hA2]; exact (HK0.out.next hW).cell 0
  have y2 : ∀ W, Below W1.heap.size W1 W → W.cell? ⟨w.heap.size, 2, none⟩ = some (.slice (some ⟨bp, op, none⟩) M.p.n M.p.c) := fun W hW => by rw [← hA]; exact (HK0.out.next hW).cell 2
  have p0 : ∀ W, Below W1.heap.size W1 W → W.cell? ⟨bp, op + q * 3, none⟩ = some (.int .i64 (rn : Int)) := fun W hW => (hW.cell (p := ⟨bp, op + q * 3, none⟩) hbp).trans c0
  have p2 : ∀ W, Below W1.heap.size W1 W → W.cell? ⟨bp, op + q * 3 + 2, none⟩ = some (.int .u32 a1) := fun W hW => (hW.cell (p := ⟨bp, op + q * 3 + 2, none⟩) hbp).trans c2
  have r2 : ∀ W, Below W1.heap.size W1 W → W.cell? ⟨br, or_ + rn * 2 + 1, none⟩ = some (.int .i64 rk) := fun W hW => (hW.cell (p := ⟨br, or_ + rn * 2 + 1, none⟩) hbr).trans e1
  have z0 : ∀ W, Below W1.heap.size W1 W → W.cell? ⟨w.heap.size + 1, 0, none⟩ = some (.int .i64 0) := fun W hW => (HK1.out.next hW).cell 0
  have z1 : ∀ W, Below W1.heap.size W1 W → W.cell? ⟨w.heap.size + 1, 1, none⟩ = some (.int .u32 0) := fun W hW => (HK1.out.next hW).cell 1
  have f0 : ∀ W, Below W1.heap.size W1 W → W.frozen? ⟨w.heap.size + 1, 0, none⟩ = false := fun W hW => (HK1.out.next hW).frozen 0
  have f1 : ∀ W, Below W1.heap.size W1 W → W.frozen? ⟨w.heap.size + 1, 1, none⟩ = false := fun W hW => (HK1.out.next hW).frozen 1
  have i0 : (q : Int) < (M.p.n : Int) := by omega
  have i1 : (0 : Int) ≤ (q : Int) := by omega
  have i2 : (rn : Int) < (M.r.n : Int) := by omega
  have i3 : (0 : Int) ≤ (rn : Int) := by omega
  clear hk0 hk1 hB1 hA hA2 hbid hx hx2 hbp hbr c0 c2 e1 hpo h k hq hpl hrl
  have w0 := y0 W1 (Below.refl _ _)
  have w2 := y2 W1 (Below.refl _ _)
  have w3 := p0 W1 (Below.refl _ _)
  have w4 := p2 W1 (Below.refl _ _)
  have w5 := r2 W1 (Below.refl _ _)
  have HKd := Lib.hid HK1.out.drew
  have HBd := Lib.hid HB1.out.drew
  clear y0 y2 p0 p2 r2 z0 z1 f0 f1
  go_still_tail 18, (by kernel_rfl)
  all_goals
    change wpList _ _ _ _ _ W1.drew
    generalize W1.drew = w9 at *
    have z0 := HKd.out.cell 0
    have z1 := HKd.out.cell 1
    have zf := HKd.out.frozen 0
    have zg := HKd.out.frozen 1
    clear w0 w2 w3 w4 w5
    go_wp2
    obtain ⟨W3, hW3, d0, d1, hB3⟩ := qstore2 HKd.out (Nat.le_succ w.heap.size) w HBd.out (.int .i64 rk) (.int .u32 a1)
    rw [← hW3]
    clear hW3
    refine bodyPost_ret (ret_bid _ (w.heap.size + 1) _ _ _ rfl d0 d1) rfl ?_
    exact ⟨by rw [HBD.out], hB3⟩
end Go.Proofs.YtbeoalmcibnpaaaGreatDoor

