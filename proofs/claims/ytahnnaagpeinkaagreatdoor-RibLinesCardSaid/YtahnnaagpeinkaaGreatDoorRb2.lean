/- rib's own: where an address is, which routes it has, the cheapest of them; over the seat's program. -/
import Derived.Test.YtahnnaagpeinkaaGreatDoorRp
import Derived.Test.YtahnnaagpeinkaaGreatDoorRb1
namespace Go.Proofs.YtahnnaagpeinkaaGreatDoor
open Go.RowKit Lx Sm
theorem cell_up {w W : World} {p : Addr} {v : Value} (h : w.cell? p = some v) (hb : Below w.heap.size w W) : W.cell? p = some v := (hb.cell (World.block_lt_of_cell? w _ h)).trans h
theorem ret_conn1 (tm : Array Value) (N : Nat) (W : World) (v0 v1 : Value) (h2 : tm.getD 3 undef = .pointer (some ⟨N, 0, none⟩)) (c0 : W.cell? ⟨N, 0, none⟩ = some v0) (c1 : W.cell? ⟨N, 1, none⟩ = some v1) :
    (results Tryz.f61 tm).run Tryz.prog W = .ok (.agg #[v0, v1]) W := by
  have h2' : tm[3]?.getD undef = .pointer (some ⟨N, 0, none⟩) := by simpa using h2
  simp [results, Tryz.results61, go_sem, h2', c0, c1]
theorem ret_rout1 (tm : Array Value) (N : Nat) (W : World) (v0 v1 : Value) (h2 : tm.getD 3 undef = .pointer (some ⟨N, 0, none⟩)) (c0 : W.cell? ⟨N, 0, none⟩ = some v0) (c1 : W.cell? ⟨N, 1, none⟩ = some v1) :
    (results Tryz.f64 tm).run Tryz.prog W = .ok (.agg #[v0, v1]) W := by
  have h2' : tm[3]?.getD undef = .pointer (some ⟨N, 0, none⟩) := by simpa using h2
  simp [results, Tryz.results64, go_sem, h2', c0, c1]
theorem store2 {W : World} {N b : Nat} {t : TypeId} {u0 u1 : Value} (h : Blk W N t #[u0, u1]) (hN : b ≤ N) (w : World) (hB : Below b w W) (v0 v1 : Value) : ∃ W2, W2 = (W.setCell ⟨N, 0, none⟩ v0).setCell ⟨N, 1, none⟩ v1 ∧ W2.cell? ⟨N, 0, none⟩ = some v0 ∧ W2.cell? ⟨N, 1, none⟩ = some v1 ∧ Below b w W2 := by
  have hk : Blk ((W.setCell ⟨N, 0, none⟩ v0).setCell ⟨N, 1, none⟩ v1) N t #[v0, v1] := (h.set_ 0 v0).set_ 1 v1
  exact ⟨_, rfl, hk.cell 0, hk.cell 1, (hB.setCell (by simpa using hN) _).setCell (by simpa using hN) _⟩
theorem store2d {W : World} {N b : Nat} {t : TypeId} {u0 u1 : Value} (h : Blk W N t #[u0, u1]) (hN : b ≤ N) (w : World) (hB : Below b w W) (v0 v1 : Value) : ∃ W2, W2 = ((W.setCell ⟨N, 0, none⟩ v0).setCell ⟨N, 1, none⟩ v1).drew ∧ W2.cell? ⟨N, 0, none⟩ = some v0 ∧ W2.cell? ⟨N, 1, none⟩ = some v1 ∧ Below b w W2 := by
  obtain ⟨W2, rfl, c0, c1, hb⟩ := store2 h hN w hB v0 v1
  exact ⟨_, rfl, c0, c1, hb.drew⟩
set_option maxHeartbeats 4000000 in
theorem conn1_any (M : Cm) (A B : Option Addr) (n c m d N : Nat) (x : Cfg) (w : World) (hK : Blk w N 87 #[.slice M.r.A M.r.n M.r.c, .slice M.l.A M.l.n M.l.c, .slice M.p.A M.p.n M.p.c, .slice M.o.A M.o.n M.o.c, .slice M.g.A M.g.n M.g.c, .slice M.s.A M.s.n M.s.c, .slice M.m.A M.m.n M.m.c, .slice A n c, .slice B m d]) (hC : CW w M x) (i : Nat) (hi : i < x.ps.length) (hl : ∀ y ∈ x.ps, 0 ≤ y.2.1 ∧ y.2.1 < x.ls.length) :
    Calls Tryz.prog 61 #[.int .i64 (i : Int), .pointer (some ⟨N, 0, none⟩)] w fun e w' => e = .returned (.agg #[.int .u32 (preP x (i : Int)).1, .int .i64 (preP x (i : Int)).2]) ∧ Below w.heap.size w w' := by
  obtain ⟨bp, op, ⟨r1, l1, a1⟩, hA, hbp, hx, e0, e1, e2⟩ := IPort.cells hC.p (i := i) (by have := hC.p.1; omega)
  have hlk := hl _ (List.mem_of_getElem? hx)
  dsimp only at hlk
  obtain ⟨ln, rfl⟩ : ∃ ln : Nat, l1 = ln := ⟨l1.toNat, by omega⟩
  obtain ⟨bl, ol, ⟨s1, pa, pb⟩, hAl, hbl, hxl, g0, g1, g2⟩ := ILink.cells hC.l (i := ln) (by have := hC.l.1; omega)
  have HR : Hid (preP x (i : Int) = (pa, pb)) := Lib.hid (by unfold preP linkP; simp [hx, hxl])
  have k1 : w.cell? ⟨N, 1, none⟩ = some (.slice M.l.A M.l.n M.l.c) := hK.cell 1
  have k2 : w.cell? ⟨N, 2, none⟩ = some (.slice M.p.A M.p.n M.p.c) := hK.cell 2
  rw [hAl] at k1
  rw [hA] at k2
  have hi0 : (i : Int) < (M.p.n : Int) := by have := hC.p.1; omega
  have hi1 : (ln : Int) < (M.l.n : Int) := by have := hC.l.1; omega
  rw [HR.out]
  clear hC hK hA hAl hx hxl hl hlk hi e0 e2 g0
  generalize M.p.n = pn at *
  generalize M.l.n = lnn at *
  go_enter Tryz.func61, Tryz.ntmps61
  go_wp2
  have HB1 := Lib.hid ((Below.refl w.heap.size w).alloc (Nat.le_refl _) (.cells #[.int .u32 0, .int .i64 0] 62))
  have HBk := Lib.hid (Blk.new w 62 #[.int .u32 0, .int .i64 0])
  have z0 : (w.alloc (.cells #[.int .u32 0, .int .i64 0] 62)).cell? ⟨w.heap.size, 0, none⟩ = some (.int .u32 0) := by go_simp
  have z1 : (w.alloc (.cells #[.int .u32 0, .int .i64 0] 62)).cell? ⟨w.heap.size, 1, none⟩ = some (.int .i64 0) := by go_simp
  have zf : (w.alloc (.cells #[.int .u32 0, .int .i64 0] 62)).frozen? ⟨w.heap.size, 0, none⟩ = false := (Blk.new w _ _).frozen 0
  have zg : (w.alloc (.cells #[.int .u32 0, .int .i64 0] 62)).frozen? ⟨w.heap.size, 1, none⟩ = false := (Blk.new w _ _).frozen 1
  replace k1 := cell_up k1 HB1.out
  replace k2 := cell_up k2 HB1.out
  replace e1 := cell_up e1 HB1.out
  replace g1 := cell_up g1 HB1.out
  replace g2 := cell_up g2 HB1.out
  generalize w.alloc (.cells #[.int .u32 0, .int .i64 0] 62) = W1 at *
  go_region
  obtain ⟨W2, hW2, c0, c1, hB2⟩ := store2d HBk.out (Nat.le_refl _) w HB1.out (.int .u32 pa) (.int .i64 pb)
  rw [← hW2]
  clear hW2 k1 k2 e1 g1 g2 z0 z1 zf zg
  go_wp2
  refine bodyPost_ret (ret_conn1 _ w.heap.size _ _ _ rfl c0 c1) rfl ?_
  exact ⟨rfl, hB2⟩
set_option maxHeartbeats 4000000 in
theorem rout1_any (M : Cm) (A B : Option Addr) (n c m d N : Nat) (x : Cfg) (w : World) (hK : Blk w N 87 #[.slice M.r.A M.r.n M.r.c, .slice M.l.A M.l.n M.l.c, .slice M.p.A M.p.n M.p.c, .slice M.o.A M.o.n M.o.c, .slice M.g.A M.g.n M.g.c, .slice M.s.A M.s.n M.s.c, .slice M.m.A M.m.n M.m.c, .slice A n c, .slice B m d]) (hC : CW w M x) (i : Nat) (hi : i < x.os.length) :
    Calls Tryz.prog 64 #[.int .i64 (i : Int), .pointer (some ⟨N, 0, none⟩)] w fun e w' => e = .returned (.agg #[.int .u32 (preO x (i : Int)).1, .int .i64 (preO x (i : Int)).2]) ∧ Below w.heap.size w w' := by
  obtain ⟨bl, ol, ⟨r1, pa, pb, v1, q1⟩, hAl, hbl, hxl, g0, g1, g2, g3, g4⟩ := IRoute.cells hC.o (i := i) (by have := hC.o.1; omega)
  have HR : Hid (preO x (i : Int) = (pa, pb)) := Lib.hid (by unfold preO; simp [hxl])
  have k1 : w.cell? ⟨N, 3, none⟩ = some (.slice M.o.A M.o.n M.o.c) := hK.cell 3
  rw [hAl] at k1
  have hi0 : (i : Int) < (M.o.n : Int) := by have := hC.o.1; omega
  rw [HR.out]
  clear hC hK hAl hxl hi g0 g3 g4
  generalize M.o.n = pn at *
  go_enter Tryz.func64, Tryz.ntmps64
  go_upto_region 1 with fail
  have HB1 := Lib.hid ((Below.refl w.heap.size w).alloc (Nat.le_refl _) (.cells #[.int .u32 0, .int .i64 0] 62))
  have HBk := Lib.hid (Blk.new w 62 #[.int .u32 0, .int .i64 0])
  have z0 : (w.alloc (.cells #[.int .u32 0, .int .i64 0] 62)).cell? ⟨w.heap.size, 0, none⟩ = some (.int .u32 0) := by go_simp
  have z1 : (w.alloc (.cells #[.int .u32 0, .int .i64 0] 62)).cell? ⟨w.heap.size, 1, none⟩ = some (.int .i64 0) := by go_simp
  have zf : (w.alloc (.cells #[.int .u32 0, .int .i64 0] 62)).frozen? ⟨w.heap.size, 0, none⟩ = false := (Blk.new w _ _).frozen 0
  have zg : (w.alloc (.cells #[.int .u32 0, .int .i64 0] 62)).frozen? ⟨w.heap.size, 1, none⟩ = false := (Blk.new w _ _).frozen 1
  replace k1 := cell_up k1 HB1.out
  replace g1 := cell_up g1 HB1.out
  replace g2 := cell_up g2 HB1.out
  generalize w.alloc (.cells #[.int .u32 0, .int .i64 0] 62) = W1 at *
  go_wp2
  obtain ⟨W2, hW2, c0, c1, hB2⟩ := store2 HBk.out (Nat.le_refl _) w HB1.out (.int .u32 pa) (.int .i64 pb)
  rw [← hW2]
  clear hW2 k1 g1 g2 z0 z1 zf zg
  refine bodyPost_ret (ret_rout1 _ w.heap.size _ _ _ rfl c0 c1) rfl ?_
  exact ⟨rfl, hB2⟩
set_option maxHeartbeats 4000000 in
set_option maxRecDepth 100000 in
theorem conn_any (M : Cm) (A B : Option Addr) (n c m d : Nat) (x : Cfg) (P : List Int) (a : Int) (w : World) (hC : CW w M x) (hj : JR w A n P) (hn : n ≤ 1000000) (hP : ∀ q ∈ P, ∃ j : Nat, j < x.ps.length ∧ q = j) (hl : ∀ y ∈ x.ps, 0 ≤ y.2.1 ∧ y.2.1 < x.ls.length) (hb : ∀ y ∈ x.ls, 0 ≤ y.2.2 ∧ y.2.2 ≤ 32) :
    Calls Tryz.prog 28 #[.agg #[.slice M.r.A M.r.n M.r.c, .slice M.l.A M.l.n M.l.c, .slice M.p.A M.p.n M.p.c, .slice M.o.A M.o.n M.o.c, .slice M.g.A M.g.n M.g.c, .slice M.s.A M.s.n M.s.c, .slice M.m.A M.m.n M.m.c, .slice A n c, .slice B m d], .int .u32 a] w fun e w' => ∃ A' c', e = .returned (.tuple #[.slice A' (longP (preP x) a P [] 0).1.length c', .int .i64 (longP (preP x) a P [] 0).2]) ∧ (longP (preP x) a P [] 0).1.length ≤ c' ∧ JR w' A' (longP (preP x) a P [] 0).1.length (longP (preP x) a P [] 0).1 ∧ Below w.heap.size w w' := by
  have HB1 := Lib.hid ((Below.refl w.heap.size w).alloc (Nat.le_refl _) (.cells #[.slice M.r.A M.r.n M.r.c, .slice M.l.A M.l.n M.l.c, .slice M.p.A M.p.n M.p.c, .slice M.o.A M.o.n M.o.c, .slice M.g.A M.g.n M.g.c, .slice M.s.A M.s.n M.s.c, .slice M.m.A M.m.n M.m.c, .slice A n c, .slice B m d] 87))
  have HK := Lib.hid (Blk.new w 87 #[.slice M.r.A M.r.n M.r.c, .slice M.l.A M.l.n M.l.c, .slice M.p.A M.p.n M.p.c, .slice M.o.A M.o.n M.o.c, .slice M.g.A M.g.n M.g.c, .slice M.s.A M.s.n M.s.c, .slice M.m.A M.m.n M.m.c, .slice A n c, .slice B m d])
  have HLO := Lib.hid (longest_any 61 #[.pointer (some ⟨w.heap.size, 0, none⟩)] (by intros; rfl) (preP x) A n c P a (w.alloc (.cells #[.slice M.r.A M.r.n M.r.c, .slice M.l.A M.l.n M.l.c, .slice M.p.A M.p.n M.p.c, .slice M.o.A M.o.n M.o.c, .slice M.g.A M.g.n M.g.c, .slice M.s.A M.s.n M.s.c, .slice M.m.A M.m.n M.m.c, .slice A n c, .slice B m d] 87)) (hj.next HB1.out) hn (fun q hq => by
      obtain ⟨j, hj, rfl⟩ := hP q hq
      have hx : x.ps[j]? = some x.ps[j] := List.getElem?_eq_getElem hj
      have hy := hl _ (List.getElem_mem hj)
      have hz : x.ls[(x.ps[j]).2.1.toNat]? = some (x.ls[(x.ps[j]).2.1.toNat]'(by omega)) := List.getElem?_eq_getElem (by omega)
      have := hb _ (List.mem_of_getElem? hz)
      unfold preP linkP
      rw [Int.toNat_natCast, hx]
      simp only [Option.map_some, Option.getD_some]
      rw [hz]
      simpa using this)
    (fun W q hq hW => by
      obtain ⟨j, hj, rfl⟩ := hP q hq
      exact conn1_any M A B n c m d w.heap.size x W (HK.out.next hW) ((hC.next HB1.out).next hW) j hj hl))
  generalize longP (preP x) a P [] 0 = R at *
  clear hC hj hP hl hb
  go_enter Tryz.func28, Tryz.ntmps28
  go_wp2_with (go_at_call 60; refine HLO.out.mono ?_; rintro e w2 ⟨A', c', rfl, hcc, hj2, hb2⟩; have HC := Lib.hid hcc; have HJ2 := Lib.hid hj2; have HB2 := Lib.hid (below_next HB1.out hb2); clear hcc hj2 hb2)
  go_ret2
  exact ⟨A', c', rfl, HC.out, HJ2.out, HB2.out⟩
set_option maxHeartbeats 4000000 in
set_option maxRecDepth 100000 in
theorem rout_any (M : Cm) (A B : Option Addr) (n c m d : Nat) (x : Cfg) (P : List Int) (a : Int) (w : World) (hC : CW w M x) (hj : JR w B m P) (hn : m ≤ 1000000) (hP : ∀ q ∈ P, ∃ j : Nat, j < x.os.length ∧ q = j) (hb : ∀ y ∈ x.os, 0 ≤ y.2.2.1 ∧ y.2.2.1 ≤ 32) :
    Calls Tryz.prog 31 #[.agg #[.slice M.r.A M.r.n M.r.c, .slice M.l.A M.l.n M.l.c, .slice M.p.A M.p.n M.p.c, .slice M.o.A M.o.n M.o.c, .slice M.g.A M.g.n M.g.c, .slice M.s.A M.s.n M.s.c, .slice M.m.A M.m.n M.m.c, .slice A n c, .slice B m d], .int .u32 a] w fun e w' => ∃ A' c', e = .returned (.tuple #[.slice A' (longP (preO x) a P [] 0).1.length c', .int .i64 (longP (preO x) a P [] 0).2]) ∧ (longP (preO x) a P [] 0).1.length ≤ c' ∧ JR w' A' (longP (preO x) a P [] 0).1.length (longP (preO x) a P [] 0).1 ∧ Below w.heap.size w w' := by
  have HB1 := Lib.hid ((Below.refl w.heap.size w).alloc (Nat.le_refl _) (.cells #[.slice M.r.A M.r.n M.r.c, .slice M.l.A M.l.n M.l.c, .slice M.p.A M.p.n M.p.c, .slice M.o.A M.o.n M.o.c, .slice M.g.A M.g.n M.g.c, .slice M.s.A M.s.n M.s.c, .slice M.m.A M.m.n M.m.c, .slice A n c, .slice B m d] 87))
  have HK := Lib.hid (Blk.new w 87 #[.slice M.r.A M.r.n M.r.c, .slice M.l.A M.l.n M.l.c, .slice M.p.A M.p.n M.p.c, .slice M.o.A M.o.n M.o.c, .slice M.g.A M.g.n M.g.c, .slice M.s.A M.s.n M.s.c, .slice M.m.A M.m.n M.m.c, .slice A n c, .slice B m d])
  have HLO := Lib.hid (longest_any 64 #[.pointer (some ⟨w.heap.size, 0, none⟩)] (by intros; rfl) (preO x) B m d P a (w.alloc (.cells #[.slice M.r.A M.r.n M.r.c, .slice M.l.A M.l.n M.l.c, .slice M.p.A M.p.n M.p.c, .slice M.o.A M.o.n M.o.c, .slice M.g.A M.g.n M.g.c, .slice M.s.A M.s.n M.s.c, .slice M.m.A M.m.n M.m.c, .slice A n c, .slice B m d] 87)) (hj.next HB1.out) hn (fun q hq => by
      obtain ⟨j, hj, rfl⟩ := hP q hq
      have hx : x.os[j]? = some x.os[j] := List.getElem?_eq_getElem hj
      have := hb _ (List.getElem_mem hj)
      unfold preO
      rw [Int.toNat_natCast, hx]
      simpa using this)
    (fun W q hq hW => by
      obtain ⟨j, hj, rfl⟩ := hP q hq
      exact rout1_any M A B n c m d w.heap.size x W (HK.out.next hW) ((hC.next HB1.out).next hW) j hj))
  generalize longP (preO x) a P [] 0 = R at *
  clear hC hj hP hb
  go_enter Tryz.func31, Tryz.ntmps31
  go_wp2_with (go_at_call 60; refine HLO.out.mono ?_; rintro e w2 ⟨A', c', rfl, hcc, hj2, hb2⟩; have HC := Lib.hid hcc; have HJ2 := Lib.hid hj2; have HB2 := Lib.hid (below_next HB1.out hb2); clear hcc hj2 hb2)
  go_ret2
  exact ⟨A', c', rfl, HC.out, HJ2.out, HB2.out⟩
end Go.Proofs.YtahnnaagpeinkaaGreatDoor

