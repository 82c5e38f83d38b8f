/- topo's Config: the network, copied; over the seat's program. -/
import Derived.Test.YtdljpokhcfhhfaaGreatDoorMe
import Derived.Test.YtdljpokhcfhhfaaGreatDoorNw0
import Derived.Test.YtdljpokhcfhhfaaGreatDoorCl
import Derived.Deep.Cut
namespace Go.Proofs.YtdljpokhcfhhfaaGreatDoor
open Go.RowKit Lx Sm
theorem ret_own (tm : Array Value) (N : Nat) (W : World) (v0 v1 v2 v3 v4 v5 v6 v7 v8 : Value) (h2 : tm.getD 4 undef = .pointer (some ⟨N, 0, none⟩)) (c0 : W.cell? ⟨N, 0, none⟩ = some v0) (c1 : W.cell? ⟨N, 1, none⟩ = some v1) (c2 : W.cell? ⟨N, 2, none⟩ = some v2) (c3 : W.cell? ⟨N, 3, none⟩ = some v3) (c4 : W.cell? ⟨N, 4, none⟩ = some v4) (c5 : W.cell? ⟨N, 5, none⟩ = some v5) (c6 : W.cell? ⟨N, 6, none⟩ = some v6) (c7 : W.cell? ⟨N, 7, none⟩ = some v7) (c8 : W.cell? ⟨N, 8, none⟩ = some v8) :
    (results Tryz.f48 tm).run Tryz.prog W = .ok (.agg #[v0, v1, v2, v3, v4, v5, v6, v7, v8]) W := by
  have h2' : tm[4]?.getD undef = .pointer (some ⟨N, 0, none⟩) := by simpa using h2
  simp [results, Tryz.results48, go_sem, h2', c0, c1, c2, c3, c4, c5, c6, c7, c8]

theorem own_ge {W W' : World} {b k n : Nat} {t : TypeId} {v : Value} {ys : List Value} (h : W.ownsRow b t k v n ys) (hk : ∀ g, b ≤ g → g < W.heap.size → W'.heap[g]? = W.heap[g]?) : W'.ownsRow b t k v n ys := by
  refine ⟨h.1, ?_⟩
  rcases h.2 with hn | ⟨g, cap, cur, rfl, hbg, hh, rest⟩
  · exact .inl hn
  · exact .inr ⟨g, cap, cur, rfl, hbg, (hk g hbg (Array.getElem?_eq_some_iff.1 hh).1).trans hh, rest⟩
theorem CWo.ge {W W' : World} {b : Nat} {M : Cm} {x : Cfg} (h : CWo W b M x) (hk : ∀ g, b ≤ g → g < W.heap.size → W'.heap[g]? = W.heap[g]?) : CWo W' b M x :=
  ⟨own_ge h.r hk, own_ge h.l hk, own_ge h.p hk, own_ge h.o hk, own_ge h.g hk, own_ge h.s hk, own_ge h.m hk, h.len, h.oks, fun y hy => ⟨(h.src y hy).1, (h.src y hy).2.1, (h.src y hy).2.2.1, own_ge (h.src y hy).2.2.2 hk⟩, h.ok⟩
theorem far7 (W : World) (N : Nat) (v0 v1 v2 v3 v4 v5 v6 : Value) (g : Nat) (hg : g ≠ N) : (((((((W.setCell ⟨N, 0, none⟩ v0).setCell ⟨N, 1, none⟩ v1).setCell ⟨N, 2, none⟩ v2).setCell ⟨N, 3, none⟩ v3).setCell ⟨N, 4, none⟩ v4).setCell ⟨N, 5, none⟩ v5).setCell ⟨N, 6, none⟩ v6).heap[g]? = W.heap[g]? := by
  have hk : ∀ (W : World) (i : Nat) (u : Value), (W.setCell ⟨N, i, none⟩ u).heap[g]? = W.heap[g]? := fun W i u => Below.heap_setCell W ⟨N, i, none⟩ u g hg
  simp only [hk]
theorem far9 (W : World) (N : Nat) (v0 v1 v2 v3 v4 v5 v6 v7 v8 : Value) (g : Nat) (hg : g ≠ N) : (((((((((W.setCell ⟨N, 0, none⟩ v0).setCell ⟨N, 1, none⟩ v1).setCell ⟨N, 2, none⟩ v2).setCell ⟨N, 3, none⟩ v3).setCell ⟨N, 4, none⟩ v4).setCell ⟨N, 5, none⟩ v5).setCell ⟨N, 6, none⟩ v6).setCell ⟨N, 7, none⟩ v7).setCell ⟨N, 8, none⟩ v8).heap[g]? = W.heap[g]? := by
  have hk : ∀ (W : World) (i : Nat) (u : Value), (W.setCell ⟨N, i, none⟩ u).heap[g]? = W.heap[g]? := fun W i u => Below.heap_setCell W ⟨N, i, none⟩ u g hg
  simp only [hk]
/-- a row of numbers lies in no block of slices -/
theorem jr_ne {W : World} {A : Option Addr} {n N : Nat} {t : TypeId} {cs : Array Value} {xs : List Int} (h : JR W A n xs) (hb : Blk W N t cs) (hc : ∀ (i : Nat) (v : Int), cs[i]? = some (Value.int .i64 v) → False) : ∀ b o, 0 < n → A = some ⟨b, o, none⟩ → b ≠ N := by
  intro b o hn e hbN
  obtain ⟨b', o', e', _, hcell⟩ := h.2 hn
  rw [e] at e'
  cases e'
  subst hbN
  have := hcell 0 hn
  rw [hb.cell] at this
  exact hc _ _ this
theorem jr_other {W W' : World} {A : Option Addr} {n N : Nat} {xs : List Int} (h : JR W A n xs) (hne : ∀ b o, 0 < n → A = some ⟨b, o, none⟩ → b ≠ N) (hz : W.heap.size ≤ W'.heap.size) (hk : ∀ g, g ≠ N → W'.heap[g]? = W.heap[g]?) : JR W' A n xs :=
  ⟨h.1, fun hn => by
    obtain ⟨b, o, e, hlt, hc⟩ := h.2 hn
    refine ⟨b, o, e, Nat.lt_of_lt_of_le hlt hz, fun i hi => ?_⟩
    have := hc i hi
    unfold World.cell? at this ⊢
    rw [hk b (hne b o hn e)]
    exact this⟩
theorem ret_config (tm : Array Value) (N : Nat) (W : World) (v0 v1 v2 v3 v4 v5 v6 : Value) (h2 : tm.getD 2 undef = .pointer (some ⟨N, 0, none⟩)) (c0 : W.cell? ⟨N, 0, none⟩ = some v0) (c1 : W.cell? ⟨N, 1, none⟩ = some v1) (c2 : W.cell? ⟨N, 2, none⟩ = some v2) (c3 : W.cell? ⟨N, 3, none⟩ = some v3) (c4 : W.cell? ⟨N, 4, none⟩ = some v4) (c5 : W.cell? ⟨N, 5, none⟩ = some v5) (c6 : W.cell? ⟨N, 6, none⟩ = some v6) :
    (results Tryz.f60 tm).run Tryz.prog W = .ok (.agg #[v0, v1, v2, v3, v4, v5, v6]) W := by
  have h2' : tm[2]?.getD undef = .pointer (some ⟨N, 0, none⟩) := by simpa using h2
  simp [results, Tryz.results60, go_sem, h2', c0, c1, c2, c3, c4, c5, c6]
section
variable {b : Nat} {T : TP} {x : Cfg} {gs : List Int}
set_option maxHeartbeats 4000000 in
set_option maxRecDepth 100000 in
theorem config_any (w : World) (h : TW w b T x gs) (hrn : ∀ y ∈ x.rs, (str y.1).size ≤ 281474976710656) (hln : ∀ y ∈ x.ls, (str y.1).size ≤ 281474976710656) :
    Calls Tryz.prog 60 #[.pointer (some ⟨T.N, 0, none⟩)] w fun e w' => ∃ (M : Cm) (x' : Cfg), e = .returned (.agg #[.slice M.r.A M.r.n M.r.c, .slice M.l.A M.l.n M.l.c, .slice M.p.A M.p.n M.p.c, .slice M.o.A M.o.n M.o.c, .slice M.g.A M.g.n M.g.c, .slice M.s.A M.s.n M.s.c, .slice M.m.A M.m.n M.m.c]) ∧ CWo w' w.heap.size M x' ∧ Alike x x' ∧ Below w.heap.size w w' := by
  have HB0 := Lib.hid ((Below.refl w.heap.size w).alloc (Nat.le_refl _) (.cells #[.slice none 0 0, .slice none 0 0, .slice none 0 0, .slice none 0 0, .slice none 0 0, .slice none 0 0, .slice none 0 0] 30))
  have HS := Lib.hid (Blk.new w 30 #[.slice none 0 0, .slice none 0 0, .slice none 0 0, .slice none 0 0, .slice none 0 0, .slice none 0 0, .slice none 0 0])
  have HZ : Hid ((w.alloc (.cells #[.slice none 0 0, .slice none 0 0, .slice none 0 0, .slice none 0 0, .slice none 0 0, .slice none 0 0, .slice none 0 0] 30)).heap.size = w.heap.size + 1) := Lib.hid (by simp)
  have HC := Lib.hid (clone_any T.M x _ (h.next HB0.out).net.cw hrn hln)
  have hblk := (h.next HB0.out).blk
  have y0 := hblk.cell 0
  have y1 := hblk.cell 1
  have y2 := hblk.cell 2
  have y3 := hblk.cell 3
  have y4 := hblk.cell 4
  have y5 := hblk.cell 5
  have y6 := hblk.cell 6
  simp only [List.getElem?_toArray, List.getElem?_cons_succ, List.getElem?_cons_zero] at y0 y1 y2 y3 y4 y5 y6
  clear h hrn hln hblk
  go_enter Tryz.func60, Tryz.ntmps60
  go_upto_region 1 with fail
  generalize w.alloc (.cells #[.slice none 0 0, .slice none 0 0, .slice none 0 0, .slice none 0 0, .slice none 0 0, .slice none 0 0, .slice none 0 0] 30) = W0 at *
  go_wp2_with (
    go_at_call 46; refine HC.out.mono ?_; rintro e w2 ⟨M, x', rfl, hc, ha, hb⟩
    have H2 := Lib.hid hc
    have H3 := Lib.hid ha
    have H4 := Lib.hid (below_next HB0.out hb)
    have HS2 := Lib.hid (HS.out.next hb)
    clear y0 y1 y2 y3 y4 y5 y6 hc ha hb
    have s0 : w2.cell? ⟨w.heap.size, 0, none⟩ = some (.slice none 0 0) := HS2.out.cell 0
    have s1 : w2.cell? ⟨w.heap.size, 1, none⟩ = some (.slice none 0 0) := HS2.out.cell 1
    have s2 : w2.cell? ⟨w.heap.size, 2, none⟩ = some (.slice none 0 0) := HS2.out.cell 2
    have s3 : w2.cell? ⟨w.heap.size, 3, none⟩ = some (.slice none 0 0) := HS2.out.cell 3
    have s4 : w2.cell? ⟨w.heap.size, 4, none⟩ = some (.slice none 0 0) := HS2.out.cell 4
    have s5 : w2.cell? ⟨w.heap.size, 5, none⟩ = some (.slice none 0 0) := HS2.out.cell 5
    have s6 : w2.cell? ⟨w.heap.size, 6, none⟩ = some (.slice none 0 0) := HS2.out.cell 6
    have z0 : w2.frozen? ⟨w.heap.size, 0, none⟩ = false := HS2.out.frozen 0
    have z1 : w2.frozen? ⟨w.heap.size, 1, none⟩ = false := HS2.out.frozen 1
    have z2 : w2.frozen? ⟨w.heap.size, 2, none⟩ = false := HS2.out.frozen 2
    have z3 : w2.frozen? ⟨w.heap.size, 3, none⟩ = false := HS2.out.frozen 3
    have z4 : w2.frozen? ⟨w.heap.size, 4, none⟩ = false := HS2.out.frozen 4
    have z5 : w2.frozen? ⟨w.heap.size, 5, none⟩ = false := HS2.out.frozen 5
    have z6 : w2.frozen? ⟨w.heap.size, 6, none⟩ = false := HS2.out.frozen 6)
  have hfr := far7 w2 w.heap.size (.slice M.r.A M.r.n M.r.c) (.slice M.l.A M.l.n M.l.c) (.slice M.p.A M.p.n M.p.c) (.slice M.o.A M.o.n M.o.c) (.slice M.g.A M.g.n M.g.c) (.slice M.s.A M.s.n M.s.c) (.slice M.m.A M.m.n M.m.c)
  obtain ⟨W', hW', hk', hB', _⟩ := store7 HS2.out.slot (Nat.le_refl _) (.slice M.r.A M.r.n M.r.c) (.slice M.l.A M.l.n M.l.c) (.slice M.p.A M.p.n M.p.c) (.slice M.o.A M.o.n M.o.c) (.slice M.g.A M.g.n M.g.c) (.slice M.s.A M.s.n M.s.c) (.slice M.m.A M.m.n M.m.c)
  rw [← hW'] at hfr ⊢
  clear hW' s0 s1 s2 s3 s4 s5 s6 z0 z1 z2 z3 z4 z5 z6
  refine bodyPost_ret (ret_config _ w.heap.size _ _ _ _ _ _ _ _ rfl (hk'.cell 0) (hk'.cell 1) (hk'.cell 2) (hk'.cell 3) (hk'.cell 4) (hk'.cell 5) (hk'.cell 6)) rfl ?_
  exact ⟨M, x', rfl, ((H2.out.ge (fun g hg _ => hfr g (by have := HZ.out; omega))).up (by have := HZ.out; omega)), H3.out, hB' _ H4.out⟩
end
end Go.Proofs.YtdljpokhcfhhfaaGreatDoor

