/- Package age's copied, Len, Get: what they hand back, over the seat's program. -/
import Derived.Test.YtnnppoamdllebaaAh
import Derived.Test.YtnnppoamdllebaaAppA
import Derived.Deep.Cut
namespace Go.Proofs.Ytnnppoamdllebaa
open Go.RowKit Go.MapKept Go.ChangeMaps Sm Ag
theorem AR.far {w w' : World} {A : Option Addr} {n : Nat} {xs : List Int} (h : AR w A n xs) (hz : w.heap.size ≤ w'.heap.size) (hk : 0 < n → ∃ g o, A = some ⟨g, o, none⟩ ∧ w'.heap[g]? = w.heap[g]?) : AR w' A n xs :=
  ⟨h.1, h.2.1, fun hn => by
    obtain ⟨g, o, e, hlt, hc⟩ := h.2.2 hn
    obtain ⟨g', o', e', hg⟩ := hk hn
    rw [e] at e'
    cases e'
    refine ⟨g, o, e, Nat.lt_of_lt_of_le hlt hz, fun i hi => ?_⟩
    rw [← hc i hi]
    simp [World.cell?, hg]⟩
theorem store15 {W : World} {N : Nat} {t : TypeId} {cs : Array Value} (hb : Blk W N t cs) (hz : cs.size = 15) (v0 v1 v2 v3 v4 v5 v6 v7 v8 v9 v10 v11 v12 v13 v14 : Value) : ∃ W', W' = (((((((((((((((W).setCell ⟨N, 0, none⟩ v0).setCell ⟨N, 1, none⟩ v1).setCell ⟨N, 2, none⟩ v2).setCell ⟨N, 3, none⟩ v3).setCell ⟨N, 4, none⟩ v4).setCell ⟨N, 5, none⟩ v5).setCell ⟨N, 6, none⟩ v6).setCell ⟨N, 7, none⟩ v7).setCell ⟨N, 8, none⟩ v8).setCell ⟨N, 9, none⟩ v9).setCell ⟨N, 10, none⟩ v10).setCell ⟨N, 11, none⟩ v11).setCell ⟨N, 12, none⟩ v12).setCell ⟨N, 13, none⟩ v13).setCell ⟨N, 14, none⟩ v14 ∧
    Blk W' N t #[v0, v1, v2, v3, v4, v5, v6, v7, v8, v9, v10, v11, v12, v13, v14] ∧ (∀ B w, B ≤ N → Below B w W → Below B w W') ∧ (∀ g, g ≠ N → W'.heap[g]? = W.heap[g]?) ∧ W'.heap.size = W.heap.size := by
  refine ⟨_, rfl, ?_, ?_, ?_, by simp⟩
  · have h := (((((((((((((((hb).set_ 0 v0).set_ 1 v1).set_ 2 v2).set_ 3 v3).set_ 4 v4).set_ 5 v5).set_ 6 v6).set_ 7 v7).set_ 8 v8).set_ 9 v9).set_ 10 v10).set_ 11 v11).set_ 12 v12).set_ 13 v13).set_ 14 v14
    have e : (((((((((((((((cs).setIfInBounds 0 v0).setIfInBounds 1 v1).setIfInBounds 2 v2).setIfInBounds 3 v3).setIfInBounds 4 v4).setIfInBounds 5 v5).setIfInBounds 6 v6).setIfInBounds 7 v7).setIfInBounds 8 v8).setIfInBounds 9 v9).setIfInBounds 10 v10).setIfInBounds 11 v11).setIfInBounds 12 v12).setIfInBounds 13 v13).setIfInBounds 14 v14 = #[v0, v1, v2, v3, v4, v5, v6, v7, v8, v9, v10, v11, v12, v13, v14] := by
      apply Array.ext_getElem?
      intro i
      rcases i with _ | _ | _ | _ | _ | _ | _ | _ | _ | _ | _ | _ | _ | _ | _ | i <;> simp [hz]
    rw [e] at h
    exact h
  · intro B w hN hB
    exact (((((((((((((((hB).setCell (by simpa using hN) _).setCell (by simpa using hN) _).setCell (by simpa using hN) _).setCell (by simpa using hN) _).setCell (by simpa using hN) _).setCell (by simpa using hN) _).setCell (by simpa using hN) _).setCell (by simpa using hN) _).setCell (by simpa using hN) _).setCell (by simpa using hN) _).setCell (by simpa using hN) _).setCell (by simpa using hN) _).setCell (by simpa using hN) _).setCell (by simpa using hN) _).setCell (by simpa using hN) _
  · intro g hn
    exact Below.heap_setCell _ _ _ g (by simpa using hn)|>.trans (Below.heap_setCell _ _ _ g (by simpa using hn)|>.trans (Below.heap_setCell _ _ _ g (by simpa using hn)|>.trans (Below.heap_setCell _ _ _ g (by simpa using hn)|>.trans (Below.heap_setCell _ _ _ g (by simpa using hn)|>.trans (Below.heap_setCell _ _ _ g (by simpa using hn)|>.trans (Below.heap_setCell _ _ _ g (by simpa using hn)|>.trans (Below.heap_setCell _ _ _ g (by simpa using hn)|>.trans (Below.heap_setCell _ _ _ g (by simpa using hn)|>.trans (Below.heap_setCell _ _ _ g (by simpa using hn)|>.trans (Below.heap_setCell _ _ _ g (by simpa using hn)|>.trans (Below.heap_setCell _ _ _ g (by simpa using hn)|>.trans (Below.heap_setCell _ _ _ g (by simpa using hn)|>.trans (Below.heap_setCell _ _ _ g (by simpa using hn)|>.trans (Below.heap_setCell _ _ _ g (by simpa using hn)))))))))))))))
theorem ret_copied (tm : Array Value) (N : Nat) (W : World) (v0 v1 v2 v3 v4 v5 v6 v7 v8 v9 v10 v11 v12 v13 v14 : Value) (h2 : tm.getD 2 undef = .pointer (some ⟨N, 0, none⟩)) (c0 : W.cell? ⟨N, 0, none⟩ = some v0) (c1 : W.cell? ⟨N, 1, none⟩ = some v1) (c2 : W.cell? ⟨N, 2, none⟩ = some v2) (c3 : W.cell? ⟨N, 3, none⟩ = some v3) (c4 : W.cell? ⟨N, 4, none⟩ = some v4) (c5 : W.cell? ⟨N, 5, none⟩ = some v5) (c6 : W.cell? ⟨N, 6, none⟩ = some v6) (c7 : W.cell? ⟨N, 7, none⟩ = some v7) (c8 : W.cell? ⟨N, 8, none⟩ = some v8) (c9 : W.cell? ⟨N, 9, none⟩ = some v9) (c10 : W.cell? ⟨N, 10, none⟩ = some v10) (c11 : W.cell? ⟨N, 11, none⟩ = some v11) (c12 : W.cell? ⟨N, 12, none⟩ = some v12) (c13 : W.cell? ⟨N, 13, none⟩ = some v13) (c14 : W.cell? ⟨N, 14, none⟩ = some v14) :
    (results Try.f25 tm).run Try.prog W = .ok (.agg #[v0, v1, v2, v3, v4, v5, v6, v7, v8, v9, v10, v11, v12, v13, v14]) W := by
  have h2' : tm[2]?.getD undef = .pointer (some ⟨N, 0, none⟩) := by simpa using h2
  simp [results, Try.results25, go_sem, h2', c0, c1, c2, c3, c4, c5, c6, c7, c8, c9, c10, c11, c12, c13, c14]
theorem ret_get (tm : Array Value) (N : Nat) (W : World) (v0 v1 v2 v3 v4 v5 v6 v7 v8 v9 v10 v11 v12 v13 v14 u : Value) (h2 : tm.getD 4 undef = .pointer (some ⟨N, 0, none⟩)) (h3 : tm.getD 5 undef = u) (c0 : W.cell? ⟨N, 0, none⟩ = some v0) (c1 : W.cell? ⟨N, 1, none⟩ = some v1) (c2 : W.cell? ⟨N, 2, none⟩ = some v2) (c3 : W.cell? ⟨N, 3, none⟩ = some v3) (c4 : W.cell? ⟨N, 4, none⟩ = some v4) (c5 : W.cell? ⟨N, 5, none⟩ = some v5) (c6 : W.cell? ⟨N, 6, none⟩ = some v6) (c7 : W.cell? ⟨N, 7, none⟩ = some v7) (c8 : W.cell? ⟨N, 8, none⟩ = some v8) (c9 : W.cell? ⟨N, 9, none⟩ = some v9) (c10 : W.cell? ⟨N, 10, none⟩ = some v10) (c11 : W.cell? ⟨N, 11, none⟩ = some v11) (c12 : W.cell? ⟨N, 12, none⟩ = some v12) (c13 : W.cell? ⟨N, 13, none⟩ = some v13) (c14 : W.cell? ⟨N, 14, none⟩ = some v14) :
    (results Try.f20 tm).run Try.prog W = .ok (.tuple #[.agg #[v0, v1, v2, v3, v4, v5, v6, v7, v8, v9, v10, v11, v12, v13, v14], u]) W := by
  have h2' : tm[4]?.getD undef = .pointer (some ⟨N, 0, none⟩) := by simpa using h2
  have h3' : tm[5]?.getD undef = u := by simpa using h3
  simp [results, Try.results20, go_sem, h2', h3', c0, c1, c2, c3, c4, c5, c6, c7, c8, c9, c10, c11, c12, c13, c14]
theorem ty_own {w : World} {base : Nat} {e : TypeId} {A : Option Addr} {n c : Nat} {ys : List Value} (h : w.ownsRow base e 1 (.slice A n c) n ys) : ∀ g, A = some ⟨g, 0, none⟩ → ∃ cs, Blk w g e cs := by
  intro g hA
  rcases h.2 with ⟨hv, _⟩ | ⟨g', cap, cur, hv, _, hh, _⟩
  · cases hv; cases hA
  · cases hv
    cases hA
    exact ⟨cur, hh⟩
/-- Sources that lie in new memory, if there are any -/
def NewA (w : World) (B : Nat) (A : Option Addr) (n : Nat) : Prop := 0 < n → ∃ g cs, A = some ⟨g, 0, none⟩ ∧ B ≤ g ∧ Blk w g 24 cs
theorem copied_raw (a0 a1 a2 a3 a4 a5 k f t s g r c : Int) (o : Bool) (A : Option Addr) (n cp : Nat) (l : List Int) (w : World) (h : AR w A n l) (hn : n ≤ 1000000) :
    Calls Try.prog 25 #[.agg #[.int .i64 a0, .int .i64 a1, .int .u32 a2, .int .u32 a3, .int .u32 a4, .int .i64 a5, .int .i64 k, .int .u32 f, .int .u32 t, .int .u32 s, .int .u32 g, .int .i64 r, .int .i64 c, .bool o, .slice A n cp]] w fun e w' => ∃ A' c', e = .returned (.agg #[.int .i64 a0, .int .i64 a1, .int .u32 a2, .int .u32 a3, .int .u32 a4, .int .i64 a5, .int .i64 k, .int .u32 f, .int .u32 t, .int .u32 s, .int .u32 g, .int .i64 r, .int .i64 c, .bool o, .slice A' n c']) ∧ AR w' A' n l ∧ NewA w' w.heap.size A' n ∧ Below w.heap.size w w' := by
  have hk1 := (Blk.new w 56 #[.int .i64 a0, .int .i64 a1, .int .u32 a2, .int .u32 a3, .int .u32 a4, .int .i64 a5, .int .i64 k, .int .u32 f, .int .u32 t, .int .u32 s, .int .u32 g, .int .i64 r, .int .i64 c, .bool o, .slice A n cp]).alloc (.cells #[.int .i64 0, .int .i64 0, .int .u32 0, .int .u32 0, .int .u32 0, .int .i64 0, .int .i64 0, .int .u32 0, .int .u32 0, .int .u32 0, .int .u32 0, .int .i64 0, .int .i64 0, .bool false, .slice none 0 0] 56)
  have hk2 := Blk.new (w.alloc (.cells #[.int .i64 a0, .int .i64 a1, .int .u32 a2, .int .u32 a3, .int .u32 a4, .int .i64 a5, .int .i64 k, .int .u32 f, .int .u32 t, .int .u32 s, .int .u32 g, .int .i64 r, .int .i64 c, .bool o, .slice A n cp] 56)) 56 #[.int .i64 0, .int .i64 0, .int .u32 0, .int .u32 0, .int .u32 0, .int .i64 0, .int .i64 0, .int .u32 0, .int .u32 0, .int .u32 0, .int .u32 0, .int .i64 0, .int .i64 0, .bool false, .slice none 0 0]
  rw [sz_alloc] at hk2
  have HB := Lib.hid (((Below.refl w.heap.size w).alloc (Nat.le_refl _) (.cells #[.int .i64 a0, .int .i64 a1, .int .u32 a2, .int .u32 a3, .int .u32 a4, .int .i64 a5, .int .i64 k, .int .u32 f, .int .u32 t, .int .u32 s, .int .u32 g, .int .i64 r, .int .i64 c, .bool o, .slice A n cp] 56)).alloc (by simp) (.cells #[.int .i64 0, .int .i64 0, .int .u32 0, .int .u32 0, .int .u32 0, .int .i64 0, .int .i64 0, .int .u32 0, .int .u32 0, .int .u32 0, .int .u32 0, .int .i64 0, .int .i64 0, .bool false, .slice none 0 0] 56))
  have hA := Lib.hid h
  clear h
  go_enter Try.func25, Try.ntmps25
  go_upto_region 1 with fail
  generalize (w.alloc (.cells #[.int .i64 a0, .int .i64 a1, .int .u32 a2, .int .u32 a3, .int .u32 a4, .int .i64 a5, .int .i64 k, .int .u32 f, .int .u32 t, .int .u32 s, .int .u32 g, .int .i64 r, .int .i64 c, .bool o, .slice A n cp] 56)).alloc (.cells #[.int .i64 0, .int .i64 0, .int .u32 0, .int .u32 0, .int .u32 0, .int .i64 0, .int .i64 0, .int .u32 0, .int .u32 0, .int .u32 0, .int .u32 0, .int .i64 0, .int .i64 0, .bool false, .slice none 0 0] 56) = W1 at *
  have hsz : W1.heap.size ≥ w.heap.size + 2 := by have := hk2.lt; omega
  have hc14 : W1.cell? ⟨w.heap.size, 14, none⟩ = some (.slice A n cp) := hk1.cell 14
  have HK1 := Lib.hid hk1
  have HK2 := Lib.hid hk2
  clear hk1 hk2
  go_wp2_with (at_builtin; refine wpList_appA rfl _ _ rfl W1.heap.size (.slice none 0 0) 0 [] rfl (World.ownsRow_nil _ _ _ _) A n cp l rfl (hA.out.next HB.out) (by omega) (by omega) (Nat.le_refl _) ?_; intro v' w2 hown hb2; obtain ⟨A', c', rfl, hc, har, hnew⟩ := own_forma hown (by simpa using hA.out.isAs); have hty := Lib.hid (ty_own hown); have k1 := HK1.out.next hb2; have k2 := HK2.out.next hb2; clear hc14; have x0 : w2.cell? ⟨w.heap.size, 0, none⟩ = some (Value.int .i64 a0) := k1.cell 0; have x1 : w2.cell? ⟨w.heap.size, 1, none⟩ = some (Value.int .i64 a1) := k1.cell 1; have x2 : w2.cell? ⟨w.heap.size, 2, none⟩ = some (Value.int .u32 a2) := k1.cell 2; have x3 : w2.cell? ⟨w.heap.size, 3, none⟩ = some (Value.int .u32 a3) := k1.cell 3; have x4 : w2.cell? ⟨w.heap.size, 4, none⟩ = some (Value.int .u32 a4) := k1.cell 4; have x5 : w2.cell? ⟨w.heap.size, 5, none⟩ = some (Value.int .i64 a5) := k1.cell 5; have x6 : w2.cell? ⟨w.heap.size, 6, none⟩ = some (Value.int .i64 k) := k1.cell 6; have x7 : w2.cell? ⟨w.heap.size, 7, none⟩ = some (Value.int .u32 f) := k1.cell 7; have x8 : w2.cell? ⟨w.heap.size, 8, none⟩ = some (Value.int .u32 t) := k1.cell 8; have x9 : w2.cell? ⟨w.heap.size, 9, none⟩ = some (Value.int .u32 s) := k1.cell 9; have x10 : w2.cell? ⟨w.heap.size, 10, none⟩ = some (Value.int .u32 g) := k1.cell 10; have x11 : w2.cell? ⟨w.heap.size, 11, none⟩ = some (Value.int .i64 r) := k1.cell 11; have x12 : w2.cell? ⟨w.heap.size, 12, none⟩ = some (Value.int .i64 c) := k1.cell 12; have x13 : w2.cell? ⟨w.heap.size, 13, none⟩ = some (Value.bool o) := k1.cell 13; have x14 : w2.cell? ⟨w.heap.size, 14, none⟩ = some (Value.slice A n cp) := k1.cell 14; have f14 := k1.frozen 14; have y0 : w2.cell? ⟨w.heap.size + 1, 0, none⟩ = some (.int .i64 0) := k2.cell 0; have y1 : w2.cell? ⟨w.heap.size + 1, 1, none⟩ = some (.int .i64 0) := k2.cell 1; have y2 : w2.cell? ⟨w.heap.size + 1, 2, none⟩ = some (.int .u32 0) := k2.cell 2; have y3 : w2.cell? ⟨w.heap.size + 1, 3, none⟩ = some (.int .u32 0) := k2.cell 3; have y4 : w2.cell? ⟨w.heap.size + 1, 4, none⟩ = some (.int .u32 0) := k2.cell 4; have y5 : w2.cell? ⟨w.heap.size + 1, 5, none⟩ = some (.int .i64 0) := k2.cell 5; have y6 : w2.cell? ⟨w.heap.size + 1, 6, none⟩ = some (.int .i64 0) := k2.cell 6; have y7 : w2.cell? ⟨w.heap.size + 1, 7, none⟩ = some (.int .u32 0) := k2.cell 7; have y8 : w2.cell? ⟨w.heap.size + 1, 8, none⟩ = some (.int .u32 0) := k2.cell 8; have y9 : w2.cell? ⟨w.heap.size + 1, 9, none⟩ = some (.int .u32 0) := k2.cell 9; have y10 : w2.cell? ⟨w.heap.size + 1, 10, none⟩ = some (.int .u32 0) := k2.cell 10; have y11 : w2.cell? ⟨w.heap.size + 1, 11, none⟩ = some (.int .i64 0) := k2.cell 11; have y12 : w2.cell? ⟨w.heap.size + 1, 12, none⟩ = some (.int .i64 0) := k2.cell 12; have y13 : w2.cell? ⟨w.heap.size + 1, 13, none⟩ = some (.bool false) := k2.cell 13; have y14 : w2.cell? ⟨w.heap.size + 1, 14, none⟩ = some (.slice none 0 0) := k2.cell 14; have g0 : w2.frozen? ⟨w.heap.size + 1, 0, none⟩ = false := k2.frozen 0; have g1 : w2.frozen? ⟨w.heap.size + 1, 1, none⟩ = false := k2.frozen 1; have g2 : w2.frozen? ⟨w.heap.size + 1, 2, none⟩ = false := k2.frozen 2; have g3 : w2.frozen? ⟨w.heap.size + 1, 3, none⟩ = false := k2.frozen 3; have g4 : w2.frozen? ⟨w.heap.size + 1, 4, none⟩ = false := k2.frozen 4; have g5 : w2.frozen? ⟨w.heap.size + 1, 5, none⟩ = false := k2.frozen 5; have g6 : w2.frozen? ⟨w.heap.size + 1, 6, none⟩ = false := k2.frozen 6; have g7 : w2.frozen? ⟨w.heap.size + 1, 7, none⟩ = false := k2.frozen 7; have g8 : w2.frozen? ⟨w.heap.size + 1, 8, none⟩ = false := k2.frozen 8; have g9 : w2.frozen? ⟨w.heap.size + 1, 9, none⟩ = false := k2.frozen 9; have g10 : w2.frozen? ⟨w.heap.size + 1, 10, none⟩ = false := k2.frozen 10; have g11 : w2.frozen? ⟨w.heap.size + 1, 11, none⟩ = false := k2.frozen 11; have g12 : w2.frozen? ⟨w.heap.size + 1, 12, none⟩ = false := k2.frozen 12; have g13 : w2.frozen? ⟨w.heap.size + 1, 13, none⟩ = false := k2.frozen 13; have g14 : w2.frozen? ⟨w.heap.size + 1, 14, none⟩ = false := k2.frozen 14; have hb3 := Lib.hid hb2; clear hb2)
  have hk4 : Blk (w2.setCell ⟨w.heap.size, 14, none⟩ (.slice A' n c')) (w.heap.size + 1) 56 #[.int .i64 0, .int .i64 0, .int .u32 0, .int .u32 0, .int .u32 0, .int .i64 0, .int .i64 0, .int .u32 0, .int .u32 0, .int .u32 0, .int .u32 0, .int .i64 0, .int .i64 0, .bool false, .slice none 0 0] := k2.far (by simp) _
  rw [Nat.zero_add, List.nil_append] at har
  obtain ⟨W', hW', hkr, hBr, hfr, hzr⟩ := store15 hk4 rfl (Value.int .i64 a0) (Value.int .i64 a1) (Value.int .u32 a2) (Value.int .u32 a3) (Value.int .u32 a4) (Value.int .i64 a5) (Value.int .i64 k) (Value.int .u32 f) (Value.int .u32 t) (Value.int .u32 s) (Value.int .u32 g) (Value.int .i64 r) (Value.int .i64 c) (Value.bool o) (Value.slice A' n c')
  rw [← hW']
  refine bodyPost_ret (ret_copied _ (w.heap.size + 1) W' (Value.int .i64 a0) (Value.int .i64 a1) (Value.int .u32 a2) (Value.int .u32 a3) (Value.int .u32 a4) (Value.int .i64 a5) (Value.int .i64 k) (Value.int .u32 f) (Value.int .u32 t) (Value.int .u32 s) (Value.int .u32 g) (Value.int .i64 r) (Value.int .i64 c) (Value.bool o) (Value.slice A' n c') rfl (hkr.cell 0) (hkr.cell 1) (hkr.cell 2) (hkr.cell 3) (hkr.cell 4) (hkr.cell 5) (hkr.cell 6) (hkr.cell 7) (hkr.cell 8) (hkr.cell 9) (hkr.cell 10) (hkr.cell 11) (hkr.cell 12) (hkr.cell 13) (hkr.cell 14)) rfl ?_
  have hbw := HB.out.trans (hb3.out.mono HB.out.size)
  refine ⟨A', c', rfl, har.far (by rw [hzr]; simp) (fun hn => ?_), fun hn => ?_, hBr _ w (by omega) (hbw.setCell (by simp) _)⟩
  all_goals obtain ⟨g, hg1, hg2, _⟩ := hnew (by omega)
  · exact ⟨g, 0, hg1, (hfr g (by omega)).trans (Below.heap_setCell _ _ _ g (by simp; omega))⟩
  · obtain ⟨cs, hcs⟩ := hty.out g hg1
    exact ⟨g, cs, hg1, by omega, ((hfr g (by omega)).trans (Below.heap_setCell _ _ _ g (by simp; omega))).trans hcs⟩
end Go.Proofs.Ytnnppoamdllebaa

