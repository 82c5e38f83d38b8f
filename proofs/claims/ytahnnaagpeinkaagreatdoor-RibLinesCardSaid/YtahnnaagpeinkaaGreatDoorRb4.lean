/- rib's ownOf: a router's own ports and routes; over the seat's program. -/
import Derived.Test.YtahnnaagpeinkaaGreatDoorRb3
namespace Go.Proofs.YtahnnaagpeinkaaGreatDoor
open Go.RowKit Lx Sm
theorem ret_own (tm : Array Value) (N : Nat) (W : World) (v0 v1 v2 v3 v4 v5 v6 v7 v8 : Value) (h2 : tm.getD 4 undef = .pointer (some ⟨N, 0, none⟩)) (c0 : W.cell? ⟨N, 0, none⟩ = some v0) (c1 : W.cell? ⟨N, 1, none⟩ = some v1) (c2 : W.cell? ⟨N, 2, none⟩ = some v2) (c3 : W.cell? ⟨N, 3, none⟩ = some v3) (c4 : W.cell? ⟨N, 4, none⟩ = some v4) (c5 : W.cell? ⟨N, 5, none⟩ = some v5) (c6 : W.cell? ⟨N, 6, none⟩ = some v6) (c7 : W.cell? ⟨N, 7, none⟩ = some v7) (c8 : W.cell? ⟨N, 8, none⟩ = some v8) :
    (results Tryz.f27 tm).run Tryz.prog W = .ok (.agg #[v0, v1, v2, v3, v4, v5, v6, v7, v8]) W := by
  have h2' : tm[4]?.getD undef = .pointer (some ⟨N, 0, none⟩) := by simpa using h2
  simp [results, Tryz.results27, go_sem, h2', c0, c1, c2, c3, c4, c5, c6, c7, c8]

theorem own_ge {W W' : World} {b k n : Nat} {t : TypeId} {v : Value} {ys : List Value} (h : W.ownsRow b t k v n ys) (hk : ∀ g, b ≤ g → g < W.heap.size → W'.heap[g]? = W.heap[g]?) : W'.ownsRow b t k v n ys := by
  refine ⟨h.1, ?_⟩
  rcases h.2 with hn | ⟨g, cap, cur, rfl, hbg, hh, rest⟩
  · exact .inl hn
  · exact .inr ⟨g, cap, cur, rfl, hbg, (hk g hbg (Array.getElem?_eq_some_iff.1 hh).1).trans hh, rest⟩
theorem CWo.ge {W W' : World} {b : Nat} {M : Cm} {x : Cfg} (h : CWo W b M x) (hk : ∀ g, b ≤ g → g < W.heap.size → W'.heap[g]? = W.heap[g]?) : CWo W' b M x :=
  ⟨own_ge h.r hk, own_ge h.l hk, own_ge h.p hk, own_ge h.o hk, own_ge h.g hk, own_ge h.s hk, own_ge h.m hk, h.len, h.oks, fun y hy => ⟨(h.src y hy).1, (h.src y hy).2.1, (h.src y hy).2.2.1, own_ge (h.src y hy).2.2.2 hk⟩, h.ok⟩
theorem far7 (W : World) (N : Nat) (v0 v1 v2 v3 v4 v5 v6 : Value) (g : Nat) (hg : g ≠ N) : (((((((W.setCell ⟨N, 0, none⟩ v0).setCell ⟨N, 1, none⟩ v1).setCell ⟨N, 2, none⟩ v2).setCell ⟨N, 3, none⟩ v3).setCell ⟨N, 4, none⟩ v4).setCell ⟨N, 5, none⟩ v5).setCell ⟨N, 6, none⟩ v6).heap[g]? = W.heap[g]? := by
  have hk : ∀ (W : World) (i : Nat) (u : Value), (W.setCell ⟨N, i, none⟩ u).heap[g]? = W.heap[g]? := fun W i u => Below.heap_setCell W ⟨N, i, none⟩ u g hg
  simp only [hk]
theorem far9 (W : World) (N : Nat) (v0 v1 v2 v3 v4 v5 v6 v7 v8 : Value) (g : Nat) (hg : g ≠ N) : (((((((((W.setCell ⟨N, 0, none⟩ v0).setCell ⟨N, 1, none⟩ v1).setCell ⟨N, 2, none⟩ v2).setCell ⟨N, 3, none⟩ v3).setCell ⟨N, 4, none⟩ v4).setCell ⟨N, 5, none⟩ v5).setCell ⟨N, 6, none⟩ v6).setCell ⟨N, 7, none⟩ v7).setCell ⟨N, 8, none⟩ v8).heap[g]? = W.heap[g]? := by
  have hk : ∀ (W : World) (i : Nat) (u : Value), (W.setCell ⟨N, i, none⟩ u).heap[g]? = W.heap[g]? := fun W i u => Below.heap_setCell W ⟨N, i, none⟩ u g hg
  simp only [hk]
/-- a row of numbers lies in no block of slices -/
theorem jr_ne {W : World} {A : Option Addr} {n N : Nat} {t : TypeId} {cs : Array Value} {xs : List Int} (h : JR W A n xs) (hb : Blk W N t cs) (hc : ∀ (i : Nat) (v : Int), cs[i]? = some (Value.int .i64 v) → False) : ∀ b o, 0 < n → A = some ⟨b, o, none⟩ → b ≠ N := by
  intro b o hn e hbN
  obtain ⟨b', o', e', _, hcell⟩ := h.2 hn
  rw [e] at e'
  cases e'
  subst hbN
  have := hcell 0 hn
  rw [hb.cell] at this
  exact hc _ _ this
theorem jr_other {W W' : World} {A : Option Addr} {n N : Nat} {xs : List Int} (h : JR W A n xs) (hne : ∀ b o, 0 < n → A = some ⟨b, o, none⟩ → b ≠ N) (hz : W.heap.size ≤ W'.heap.size) (hk : ∀ g, g ≠ N → W'.heap[g]? = W.heap[g]?) : JR W' A n xs :=
  ⟨h.1, fun hn => by
    obtain ⟨b, o, e, hlt, hc⟩ := h.2 hn
    refine ⟨b, o, e, Nat.lt_of_lt_of_le hlt hz, fun i hi => ?_⟩
    have := hc i hi
    unfold World.cell? at this ⊢
    rw [hk b (hne b o hn e)]
    exact this⟩
theorem ret_config (tm : Array Value) (N : Nat) (W : World) (v0 v1 v2 v3 v4 v5 v6 : Value) (h2 : tm.getD 2 undef = .pointer (some ⟨N, 0, none⟩)) (c0 : W.cell? ⟨N, 0, none⟩ = some v0) (c1 : W.cell? ⟨N, 1, none⟩ = some v1) (c2 : W.cell? ⟨N, 2, none⟩ = some v2) (c3 : W.cell? ⟨N, 3, none⟩ = some v3) (c4 : W.cell? ⟨N, 4, none⟩ = some v4) (c5 : W.cell? ⟨N, 5, none⟩ = some v5) (c6 : W.cell? ⟨N, 6, none⟩ = some v6) :
    (results Tryz.f58 tm).run Tryz.prog W = .ok (.agg #[v0, v1, v2, v3, v4, v5, v6]) W := by
  have h2' : tm[2]?.getD undef = .pointer (some ⟨N, 0, none⟩) := by simpa using h2
  simp [results, Tryz.results58, go_sem, h2', c0, c1, c2, c3, c4, c5, c6]
section
variable {b : Nat} {T : TP} {x : Cfg} {gs : List Int}
set_option maxHeartbeats 4000000 in
set_option maxRecDepth 100000 in
theorem config_any (w : World) (h : TW w b T x gs) (hrn : ∀ y ∈ x.rs, (str y.1).size ≤ 281474976710656) (hln : ∀ y ∈ x.ls, (str y.1).size ≤ 281474976710656) :
    Calls Tryz.prog 58 #[.pointer (some ⟨T.N, 0, none⟩)] w fun e w' => ∃ (M : Cm) (x' : Cfg), e = .returned (.agg #[.slice M.r.A M.r.n M.r.c, .slice M.l.A M.l.n M.l.c, .slice M.p.A M.p.n M.p.c, .slice M.o.A M.o.n M.o.c, .slice M.g.A M.g.n M.g.c, .slice M.s.A M.s.n M.s.c, .slice M.m.A M.m.n M.m.c]) ∧ CWo w' w.heap.size M x' ∧ Alike x x' ∧ Below w.heap.size w w' := by
  have HB0 := Lib.hid ((Below.refl w.heap.size w).alloc (Nat.le_refl _) (.cells #[.slice none 0 0, .slice none 0 0, .slice none 0 0, .slice none 0 0, .slice none 0 0, .slice none 0 0, .slice none 0 0] 30))
  have HS := Lib.hid (Blk.new w 30 #[.slice none 0 0, .slice none 0 0, .slice none 0 0, .slice none 0 0, .slice none 0 0, .slice none 0 0, .slice none 0 0])
  have HZ : Hid ((w.alloc (.cells #[.slice none 0 0, .slice none 0 0, .slice none 0 0, .slice none 0 0, .slice none 0 0, .slice none 0 0, .slice none 0 0] 30)).heap.size = w.heap.size + 1) := Lib.hid (by simp)
  have HC := Lib.hid (clone_any T.M x _ (h.next HB0.out).net.cw hrn hln)
  have hblk := (h.next HB0.out).blk
  have y0 := hblk.cell 0
  have y1 := hblk.cell 1
  have y2 := hblk.cell 2
  have y3 := hblk.cell 3
  have y4 := hblk.cell 4
  have y5 := hblk.cell 5
  have y6 := hblk.cell 6
  simp only [List.getElem?_toArray, List.getElem?_cons_succ, List.getElem?_cons_zero] at y0 y1 y2 y3 y4 y5 y6
  clear h hrn hln hblk
  go_enter Tryz.func58, Tryz.ntmps58
  go_upto_region 1 with fail
  generalize w.alloc (.cells #[.slice none 0 0, .slice none 0 0, .slice none 0 0, .slice none 0 0, .slice none 0 0, .slice none 0 0, .slice none 0 0] 30) = W0 at *
  go_wp2_with (
    go_at_call 25; refine HC.out.mono ?_; rintro e w2 ⟨M, x', rfl, hc, ha, hb⟩
    have H2 := Lib.hid hc
    have H3 := Lib.hid ha
    have H4 := Lib.hid (below_next HB0.out hb)
    have HS2 := Lib.hid (HS.out.next hb)
    clear y0 y1 y2 y3 y4 y5 y6 hc ha hb
    have s0 : w2.cell? ⟨w.heap.size, 0, none⟩ = some (.slice none 0 0) := HS2.out.cell 0
    have s1 : w2.cell? ⟨w.heap.size, 1, none⟩ = some (.slice none 0 0) := HS2.out.cell 1
    have s2 : w2.cell? ⟨w.heap.size, 2, none⟩ = some (.slice none 0 0) := HS2.out.cell 2
    have s3 : w2.cell? ⟨w.heap.size, 3, none⟩ = some (.slice none 0 0) := HS2.out.cell 3
    have s4 : w2.cell? ⟨w.heap.size, 4, none⟩ = some (.slice none 0 0) := HS2.out.cell 4
    have s5 : w2.cell? ⟨w.heap.size, 5, none⟩ = some (.slice none 0 0) := HS2.out.cell 5
    have s6 : w2.cell? ⟨w.heap.size, 6, none⟩ = some (.slice none 0 0) := HS2.out.cell 6
    have z0 : w2.frozen? ⟨w.heap.size, 0, none⟩ = false := HS2.out.frozen 0
    have z1 : w2.frozen? ⟨w.heap.size, 1, none⟩ = false := HS2.out.frozen 1
    have z2 : w2.frozen? ⟨w.heap.size, 2, none⟩ = false := HS2.out.frozen 2
    have z3 : w2.frozen? ⟨w.heap.size, 3, none⟩ = false := HS2.out.frozen 3
    have z4 : w2.frozen? ⟨w.heap.size, 4, none⟩ = false := HS2.out.frozen 4
    have z5 : w2.frozen? ⟨w.heap.size, 5, none⟩ = false := HS2.out.frozen 5
    have z6 : w2.frozen? ⟨w.heap.size, 6, none⟩ = false := HS2.out.frozen 6)
  have hfr := far7 w2 w.heap.size (.slice M.r.A M.r.n M.r.c) (.slice M.l.A M.l.n M.l.c) (.slice M.p.A M.p.n M.p.c) (.slice M.o.A M.o.n M.o.c) (.slice M.g.A M.g.n M.g.c) (.slice M.s.A M.s.n M.s.c) (.slice M.m.A M.m.n M.m.c)
  obtain ⟨W', hW', hk', hB', _⟩ := store7 HS2.out.slot (Nat.le_refl _) (.slice M.r.A M.r.n M.r.c) (.slice M.l.A M.l.n M.l.c) (.slice M.p.A M.p.n M.p.c) (.slice M.o.A M.o.n M.o.c) (.slice M.g.A M.g.n M.g.c) (.slice M.s.A M.s.n M.s.c) (.slice M.m.A M.m.n M.m.c)
  rw [← hW'] at hfr ⊢
  clear hW' s0 s1 s2 s3 s4 s5 s6 z0 z1 z2 z3 z4 z5 z6
  refine bodyPost_ret (ret_config _ w.heap.size _ _ _ _ _ _ _ _ rfl (hk'.cell 0) (hk'.cell 1) (hk'.cell 2) (hk'.cell 3) (hk'.cell 4) (hk'.cell 5) (hk'.cell 6)) rfl ?_
  exact ⟨M, x', rfl, ((H2.out.ge (fun g hg _ => hfr g (by have := HZ.out; omega))).up (by have := HZ.out; omega)), H3.out, hB' _ H4.out⟩
set_option maxHeartbeats 8000000 in
set_option maxRecDepth 100000 in
theorem ownOf_any (r : Int) (w : World) (h : TW w b T x gs) (hrn : ∀ y ∈ x.rs, (str y.1).size ≤ 281474976710656) (hln : ∀ y ∈ x.ls, (str y.1).size ≤ 281474976710656) :
    Calls Tryz.prog 27 #[.pointer (some ⟨T.N, 0, none⟩), .int .i64 r] w fun e w' => ∃ (M : Cm) (x' : Cfg) (A B : Option Addr) (c d : Nat), e = .returned (.agg #[.slice M.r.A M.r.n M.r.c, .slice M.l.A M.l.n M.l.c, .slice M.p.A M.p.n M.p.c, .slice M.o.A M.o.n M.o.c, .slice M.g.A M.g.n M.g.c, .slice M.s.A M.s.n M.s.c, .slice M.m.A M.m.n M.m.c, .slice A (portsOf x r).length c, .slice B (routesOf x r).length d]) ∧ CW w' M x' ∧ Alike x x' ∧ JR w' A (portsOf x r).length (portsOf x r) ∧ JR w' B (routesOf x r).length (routesOf x r) ∧ Below w.heap.size w w' := by
  obtain ⟨i0, hi, hz0, hz1, hz2⟩ := info_parts info_int
  have HB0 := Lib.hid ((Below.refl w.heap.size w).alloc (Nat.le_refl _) (.cells #[.slice none 0 0, .slice none 0 0, .slice none 0 0, .slice none 0 0, .slice none 0 0, .slice none 0 0, .slice none 0 0, .slice none 0 0, .slice none 0 0] 87))
  have HS := Lib.hid (Blk.new w 87 #[.slice none 0 0, .slice none 0 0, .slice none 0 0, .slice none 0 0, .slice none 0 0, .slice none 0 0, .slice none 0 0, .slice none 0 0, .slice none 0 0])
  have HC := Lib.hid fun W (hW : Below w.heap.size w W) => config_any W (h.next hW) hrn hln
  have HO := Lib.hid fun W (hW : Below w.heap.size w W) => tof_any r W (h.next hW)
  have HP : Hid (portsOf x r = rowIn (tabs x x.ps.length x.ps.length x.ms.length 1) x.rs.length r) := Lib.hid rfl
  rw [HP.out]
  generalize rowIn (tabs x x.ps.length x.ps.length x.ms.length 1) x.rs.length r = P at *
  clear h hrn hln
  go_enter Tryz.func27, Tryz.ntmps27
  go_upto_region 1 with fail
  have HWZ : Hid (w.heap.size < (w.alloc (.cells #[.slice none 0 0, .slice none 0 0, .slice none 0 0, .slice none 0 0, .slice none 0 0, .slice none 0 0, .slice none 0 0, .slice none 0 0, .slice none 0 0] 87)).heap.size) := Lib.hid (by simp)
  generalize w.alloc (.cells #[.slice none 0 0, .slice none 0 0, .slice none 0 0, .slice none 0 0, .slice none 0 0, .slice none 0 0, .slice none 0 0, .slice none 0 0, .slice none 0 0] 87) = W0 at *
  go_upto_region 2 with (first
    | (go_at_call 58; refine (HC.out _ HB0.out).mono ?_; rintro e w1 ⟨M, x', rfl, hc, ha, hb⟩; have HM := Lib.hid hc; have HAL := Lib.hid ha; have HB1 := Lib.hid (below_next HB0.out hb); have HS1 := Lib.hid (HS.out.next hb); clear hc ha hb)
    | (go_at_call 59; refine (HO.out _ HB1.out).mono ?_; rintro e w2 ⟨A, c, rfl, hj, hb⟩; have HJ := Lib.hid hj; have HM2 := Lib.hid (HM.out.fr (Fr2.below hb)); have HB2 := Lib.hid (below_next HB1.out hb); have HS2 := Lib.hid (HS1.out.next hb); clear hj hb))
  have HBN := Lib.hid ((Below.refl w2.heap.size w2).alloc (Nat.le_refl _) (.cells #[.slice M.r.A M.r.n M.r.c, .slice M.l.A M.l.n M.l.c, .slice M.p.A M.p.n M.p.c, .slice M.o.A M.o.n M.o.c, .slice M.g.A M.g.n M.g.c, .slice M.s.A M.s.n M.s.c, .slice M.m.A M.m.n M.m.c, .slice A P.length c, .slice none 0 0] 87))
  have HN5 := Lib.hid (Blk.new w2 87 #[.slice M.r.A M.r.n M.r.c, .slice M.l.A M.l.n M.l.c, .slice M.p.A M.p.n M.p.c, .slice M.o.A M.o.n M.o.c, .slice M.g.A M.g.n M.g.c, .slice M.s.A M.s.n M.s.c, .slice M.m.A M.m.n M.m.c, .slice A P.length c, .slice none 0 0])
  have HLT : Hid (w2.heap.size < (w2.alloc (.cells #[.slice M.r.A M.r.n M.r.c, .slice M.l.A M.l.n M.l.c, .slice M.p.A M.p.n M.p.c, .slice M.o.A M.o.n M.o.c, .slice M.g.A M.g.n M.g.c, .slice M.s.A M.s.n M.s.c, .slice M.m.A M.m.n M.m.c, .slice A P.length c, .slice none 0 0] 87)).heap.size) := Lib.hid (by simp)
  have HNlt := Lib.hid HS2.out.lt
  have HOS := Lib.hid HAL.out.o
  have hon6 : M.o.n ≤ 1000000 := HM2.out.oks.2.2.2.1.2
  have HON : Hid (x'.os.length = M.o.n) := Lib.hid HM2.out.len.2.2.2.1
  have HRO : Hid (routesOf x r = picks (fun y => y.1 == r) x.os x.os.length) := Lib.hid rfl
  generalize w2.alloc (.cells #[.slice M.r.A M.r.n M.r.c, .slice M.l.A M.l.n M.l.c, .slice M.p.A M.p.n M.p.c, .slice M.o.A M.o.n M.o.c, .slice M.g.A M.g.n M.g.c, .slice M.s.A M.s.n M.s.c, .slice M.m.A M.m.n M.m.c, .slice A P.length c, .slice none 0 0] 87) = W5 at *
  have HIO := Lib.hid HM2.out.cw.o
  have HAo : Hid (M.o.A = M.o.A) := Lib.hid rfl
  generalize hAo : M.o.A = Ao at HN5 HIO HAo ⊢
  have HAe := Lib.hid hAo
  clear hAo HAo
  have k3 : W5.cell? ⟨w2.heap.size, 3, none⟩ = some (.slice Ao M.o.n M.o.c) := HN5.out.cell 3
  go_wp2
  clear k3
  go_loopw [18] (fun i wr => ∃ (q : Nat) (v : Value), q ≤ M.o.n ∧ i = .int .i64 q ∧ Hid (Blk wr w2.heap.size 87 #[.slice M.r.A M.r.n M.r.c, .slice M.l.A M.l.n M.l.c, .slice M.p.A M.p.n M.p.c, .slice Ao M.o.n M.o.c, .slice M.g.A M.g.n M.g.c, .slice M.s.A M.s.n M.s.c, .slice M.m.A M.m.n M.m.c, .slice A P.length c, v]) ∧ Hid (wr.ownsRow w2.heap.size 3 1 v (picks (fun y => y.1 == r) x.os q).length (I64 (picks (fun y => y.1 == r) x.os q))) ∧ Hid (Below w2.heap.size w2 wr)) (fun i _ => M.o.n - (intOf i).toNat)
  case atStart => exact ⟨0, _, Nat.zero_le _, rfl, HN5, Lib.hid (by simpa [I64, picks] using World.ownsRow_nil _ _ _ _), HBN⟩
  case round =>
    obtain ⟨q, v, hq, rfl, HN, HO, HB⟩ := hrel
    rcases Nat.lt_or_ge q M.o.n with hlt | hge
    · obtain ⟨b8, o8, ⟨sr, sa, sb, sv, sc⟩, hA8, hb8, hx8, d0, d1, d2, d3, d4⟩ := IRoute.cells (IR.next HIO.out HB.out) (i := q) hlt
      subst hA8
      rw [HOS.out] at hx8
      have hi0 : (q : Int) < (M.o.n : Int) := by omega
      have HFL : Hid ((picks (fun y => y.1 == r) x.os q).length ≤ 1000000) := Lib.hid (Nat.le_trans (picks_len _ _ _) (by omega))
      go_upto_region 5 with fail
      have HBa := Lib.hid ((Below.refl wr.heap.size wr).alloc (Nat.le_refl _) (.cells #[.int .i64 sr, .int .u32 sa, .int .i64 sb, .int .u32 sv, .int .i64 sc] 64))
      have f0 : (wr.alloc (.cells #[.int .i64 sr, .int .u32 sa, .int .i64 sb, .int .u32 sv, .int .i64 sc] 64)).cell? ⟨wr.heap.size, 0, none⟩ = some (.int .i64 sr) := by go_simp
      have HNa := Lib.hid (HN.out.next HBa.out)
      have HOa := Lib.hid (ownk_next HO.out HBa.out)
      have HBb := Lib.hid (HB.out.trans (HBa.out.mono HB.out.size))
      clear d0 d1 d2 d3 d4 HBa HN HO HB
      generalize wr.alloc (.cells #[.int .i64 sr, .int .u32 sa, .int .i64 sb, .int .u32 sv, .int .i64 sc] 64) = Wa at *
      by_cases hr : sr = r
      · have e0 : (sr == r) = true := by simp [hr]
        have HPK : Hid (picks (fun y => y.1 == r) x.os (q + 1) = picks (fun y => y.1 == r) x.os q ++ [(q : Int)]) := Lib.hid (picks_yes hx8 (by simp [hr]))
        clear hx8 hr
        generalize picks (fun y => y.1 == r) x.os q = F at *
        have s8 : Wa.cell? ⟨w2.heap.size, 8, none⟩ = some v := HNa.out.cell 8
        have hfl := HFL.out
        go_wp2_with (
          at_builtin
          refine wpList_append_own _ rfl _ _ 52 rfl w2.heap.size 3 i0 (.int .i64 0) 1 8 Tryz.underlying52 hi hz0 hz1 hz2 rfl (by decide) _ F.length (I64 F) rfl (HOa.out.alloc _) ⟨Wa.heap.size, 0, none⟩ 1 1 [.int .i64 (q : Int)] rfl rfl (cell_one_new _ _ _) (by intro x hx; simp at hx; subst hx; rfl) (by unfold maxLen; omega) (by omega) (by have := HBb.out.size; simp; omega) ?_
          intro v' wz hown1 hgrow1 _
          have hown2 : wz.ownsRow w2.heap.size 3 1 v' (F ++ [(q : Int)]).length (I64 (F ++ [(q : Int)])) := by rw [I64_app, List.length_append]; exact hown1
          obtain ⟨Bq, dq, rfl, _, _⟩ := own_jrc hown2
          have hbk := blk_by (HNa.out.alloc _) (HOa.out.alloc _) hgrow1 (by decide)
          have u8 : wz.cell? ⟨w2.heap.size, 8, none⟩ = some v := hbk.cell 8
          have z8 : wz.frozen? ⟨w2.heap.size, 8, none⟩ = false := hbk.frozen 8
          have HBK := Lib.hid hbk
          have hbz : Below w2.heap.size w2 wz := (HBb.out.alloc HBb.out.size _).grown hgrow1 (by have := HBb.out.size; simp; omega) (fun j e => (HOa.out.lt j e).1)
          have HO1 := Lib.hid hown2
          have HB1 := Lib.hid hbz
          clear hbk hown1 hown2 hgrow1 hbz)
        clear u8 z8 s8 f0
        have HN2 := Lib.hid (Blk.set_to HBK.out 8 (.slice Bq (F ++ [(q : Int)]).length dq) (cs' := #[.slice M.r.A M.r.n M.r.c, .slice M.l.A M.l.n M.l.c, .slice M.p.A M.p.n M.p.c, .slice (some ⟨b8, o8, none⟩) M.o.n M.o.c, .slice M.g.A M.g.n M.g.c, .slice M.s.A M.s.n M.s.c, .slice M.m.A M.m.n M.m.c, .slice A P.length c, .slice Bq (F ++ [(q : Int)]).length dq]) rfl)
        have HO2 := Lib.hid (ownk_far (i := 8) (u := (.slice Bq (F ++ [(q : Int)]).length dq)) HO1.out HBK.out.slot (by decide))
        have HB2' := Lib.hid (HB1.out.setCell (p := ⟨w2.heap.size, 8, none⟩) (Nat.le_refl _) (.slice Bq (F ++ [(q : Int)]).length dq))
        simp only [List.length_append, List.length_cons, List.length_nil, Nat.zero_add] at HN2 HO2 HB2'
        go_roundw
        case rel => exact ⟨q + 1, _, by omega, by go_num, HN2, Lib.hid (by rw [HPK.out, List.length_append]; exact HO2.out), HB2'⟩
        case measure => simp [intOf]; omega
      · have e0 : (sr == r) = false := by simpa using hr
        have HPK : Hid (picks (fun y => y.1 == r) x.os (q + 1) = picks (fun y => y.1 == r) x.os q) := Lib.hid (picks_no hx8 (by simpa using hr))
        clear hx8 hr
        go_wp2
        clear f0
        go_roundw
        case rel => exact ⟨q + 1, v, by omega, by go_num, HNa, Lib.hid (by rw [HPK.out]; exact HOa.out), HBb⟩
        case measure => simp [intOf]; omega
    · obtain rfl : q = M.o.n := by omega
      have hi0 : ¬ ((M.o.n : Int) < (M.o.n : Int)) := by omega
      obtain ⟨Bv, dv, rfl, hjB0⟩ := own_jr HO.out
      have HJB0 := Lib.hid hjB0
      clear hjB0
      have HS5 := Lib.hid (HS2.out.next HB.out)
      have n0 : wr.cell? ⟨w2.heap.size, 0, none⟩ = some (.slice M.r.A M.r.n M.r.c) := HN.out.cell 0
      have n1 : wr.cell? ⟨w2.heap.size, 1, none⟩ = some (.slice M.l.A M.l.n M.l.c) := HN.out.cell 1
      have n2 : wr.cell? ⟨w2.heap.size, 2, none⟩ = some (.slice M.p.A M.p.n M.p.c) := HN.out.cell 2
      have n3 : wr.cell? ⟨w2.heap.size, 3, none⟩ = some (.slice Ao M.o.n M.o.c) := HN.out.cell 3
      have n4 : wr.cell? ⟨w2.heap.size, 4, none⟩ = some (.slice M.g.A M.g.n M.g.c) := HN.out.cell 4
      have n5 : wr.cell? ⟨w2.heap.size, 5, none⟩ = some (.slice M.s.A M.s.n M.s.c) := HN.out.cell 5
      have n6 : wr.cell? ⟨w2.heap.size, 6, none⟩ = some (.slice M.m.A M.m.n M.m.c) := HN.out.cell 6
      have n7 : wr.cell? ⟨w2.heap.size, 7, none⟩ = some (.slice A P.length c) := HN.out.cell 7
      have n8 : wr.cell? ⟨w2.heap.size, 8, none⟩ = some (.slice Bv (picks (fun y => y.1 == r) x.os M.o.n).length dv) := HN.out.cell 8
      have s0 : wr.cell? ⟨w.heap.size, 0, none⟩ = some (.slice none 0 0) := HS5.out.cell 0
      have s1 : wr.cell? ⟨w.heap.size, 1, none⟩ = some (.slice none 0 0) := HS5.out.cell 1
      have s2 : wr.cell? ⟨w.heap.size, 2, none⟩ = some (.slice none 0 0) := HS5.out.cell 2
      have s3 : wr.cell? ⟨w.heap.size, 3, none⟩ = some (.slice none 0 0) := HS5.out.cell 3
      have s4 : wr.cell? ⟨w.heap.size, 4, none⟩ = some (.slice none 0 0) := HS5.out.cell 4
      have s5 : wr.cell? ⟨w.heap.size, 5, none⟩ = some (.slice none 0 0) := HS5.out.cell 5
      have s6 : wr.cell? ⟨w.heap.size, 6, none⟩ = some (.slice none 0 0) := HS5.out.cell 6
      have s7 : wr.cell? ⟨w.heap.size, 7, none⟩ = some (.slice none 0 0) := HS5.out.cell 7
      have s8 : wr.cell? ⟨w.heap.size, 8, none⟩ = some (.slice none 0 0) := HS5.out.cell 8
      have z0 : wr.frozen? ⟨w.heap.size, 0, none⟩ = false := HS5.out.frozen 0
      have z1 : wr.frozen? ⟨w.heap.size, 1, none⟩ = false := HS5.out.frozen 1
      have z2 : wr.frozen? ⟨w.heap.size, 2, none⟩ = false := HS5.out.frozen 2
      have z3 : wr.frozen? ⟨w.heap.size, 3, none⟩ = false := HS5.out.frozen 3
      have z4 : wr.frozen? ⟨w.heap.size, 4, none⟩ = false := HS5.out.frozen 4
      have z5 : wr.frozen? ⟨w.heap.size, 5, none⟩ = false := HS5.out.frozen 5
      have z6 : wr.frozen? ⟨w.heap.size, 6, none⟩ = false := HS5.out.frozen 6
      have z7 : wr.frozen? ⟨w.heap.size, 7, none⟩ = false := HS5.out.frozen 7
      have z8 : wr.frozen? ⟨w.heap.size, 8, none⟩ = false := HS5.out.frozen 8
      go_wp2
      have hfr := far9 wr w.heap.size (.slice M.r.A M.r.n M.r.c) (.slice M.l.A M.l.n M.l.c) (.slice M.p.A M.p.n M.p.c) (.slice Ao M.o.n M.o.c) (.slice M.g.A M.g.n M.g.c) (.slice M.s.A M.s.n M.s.c) (.slice M.m.A M.m.n M.m.c) (.slice A P.length c) (.slice Bv (picks (fun y => y.1 == r) x.os M.o.n).length dv)
      obtain ⟨W', hW', hk', hB', _⟩ := store9 HS5.out.slot (Nat.le_refl _) w (HB2.out.trans (HB.out.mono HB2.out.size)) (.slice M.r.A M.r.n M.r.c) (.slice M.l.A M.l.n M.l.c) (.slice M.p.A M.p.n M.p.c) (.slice Ao M.o.n M.o.c) (.slice M.g.A M.g.n M.g.c) (.slice M.s.A M.s.n M.s.c) (.slice M.m.A M.m.n M.m.c) (.slice A P.length c) (.slice Bv (picks (fun y => y.1 == r) x.os M.o.n).length dv)
      have hsz : wr.heap.size ≤ W'.heap.size := by rw [hW']; simp
      rw [← hW'] at hfr ⊢
      clear hW'
      clear n0 n1 n2 n3 n4 n5 n6 n7 n8 s0 s1 s2 s3 s4 s5 s6 s7 s8 z0 z1 z2 z3 z4 z5 z6 z7 z8
      refine bodyPost_ret (ret_own _ w.heap.size _ _ _ _ _ _ _ _ _ _ rfl (hk'.cell 0) (hk'.cell 1) (hk'.cell 2) (hk'.cell 3) (hk'.cell 4) (hk'.cell 5) (hk'.cell 6) (hk'.cell 7) (hk'.cell 8)) rfl ?_
      have hro : picks (fun y => y.1 == r) x.os M.o.n = routesOf x r := by rw [HRO.out, ← HON.out, HOS.out]
      have hjB := jr_other HJB0.out (jr_ne HJB0.out HS5.out (fun i v h => by
        rcases i with _ | _ | _ | _ | _ | _ | _ | _ | _ | i <;> simp at h)) hsz hfr
      rw [hro] at hjB
      refine ⟨M, x', A, Bv, ⟨c, dv, by simp [HAe.out, hro]⟩, ((HM2.out.fr (Fr2.below HB.out)).ge (fun g hg _ => hfr g (by have := HWZ.out; omega))).cw, HAL.out, ?_, hjB, hB'⟩
      exact jr_other (HJ.out.next HB.out) (jr_ne (HJ.out.next HB.out) HS5.out (fun i v h => by
        rcases i with _ | _ | _ | _ | _ | _ | _ | _ | _ | i <;> simp at h)) hsz hfr
end
end Go.Proofs.YtahnnaagpeinkaaGreatDoor

