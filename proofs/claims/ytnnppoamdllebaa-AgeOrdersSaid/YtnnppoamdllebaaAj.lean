/- Package age's Len, Get, over the seat's program. -/
import Derived.Test.YtnnppoamdllebaaAi
namespace Go.Proofs.Ytnnppoamdllebaa
open Go.RowKit Go.MapKept Go.ChangeMaps Sm Ag
theorem copied_any (y : Ex) (w : World) (h : AR w y.A y.n y.e.m.l) (hn : y.n ≤ 1000000) :
    Calls Try.prog 25 #[ev y] w fun e w' => ∃ A' c', e = .returned (ev ⟨y.e, A', y.n, c'⟩) ∧ AR w' A' y.n y.e.m.l ∧ NewA w' w.heap.size A' y.n ∧ Below w.heap.size w w' :=
  copied_raw _ _ _ _ _ _ _ _ _ _ _ _ _ _ _ _ _ _ w h hn
section
variable {w : World} {N : Nat} {mb : Option Nat} {T : Row} {x : Th}
theorem TB.look (h : TB w N mb T) (hx : wfT x) (W : World) (hW : Below w.heap.size w W) :
    (Instr.lookup 31 (.map mb) (tv x) true).run Try.prog W = .ok (.tuple #[ev ((find T x).getD z0), .bool (find T x).isSome]) W := by
  rcases h.map with ⟨rfl, rfl⟩ | ⟨b, clock, rfl, hm⟩
  · exact look_nil hx W
  · exact hm.look hx W (hW.block b hm.lt)
theorem good_z0 (w : World) : Good w Ag.z0 := ⟨by unfold wfT i64 isA Ag.z0; simp, by unfold Ag.z0; simp, AR.none_ _ _, Nat.zero_le _⟩
theorem TB.found (h : TB w N mb T) (x : Th) : Good w ((find T x).getD z0) := by
  cases hf : find T x with
  | none => exact good_z0 w
  | some y =>
    obtain ⟨⟨n, hn⟩, _⟩ := find_of hf
    rcases h.map with ⟨_, rfl⟩ | ⟨b, clock, _, hm⟩
    · cases hn
    · exact hm.each _ hn
end
theorem wpList_len_mapA {P : Program} (w : World) {ops : Array Oper} {rest : List Oper} {o : Oper} {a : Act} {Q : Exit → Act → World → Prop}
    (hg : o.guard = none) (m : Operand) (t : TypeId) (hop : o.op = Op.call { callee := Callee.builtin Builtin.len, args := #[m], argTypes := #[t] })
    (k e : TypeId) (ht : P.underlying t = some (.map k e)) (b : Nat) (es : Array MapEntry) (clock : Nat) (hm : a.eval m = .map (some b)) (hb : w.heap[b]? = some (.map es clock))
    (hK : wpList P ops Q rest (a.put o.dst (.int .i64 es.size)) w) :
    wpList P ops Q (o :: rest) a w := by
  refine wpList_plain hg fun K' hK' => ?_
  unfold Oper.wp
  simp [execOp, hop, resolve, invoke, builtin, hm, Builtin.len_, run_underlying ht, MapKept.run_getObj_map hb, goInt, Result.andThen]
  exact hK' _ _ hK
set_option maxRecDepth 100000 in
theorem len_any (w : World) (N : Nat) (mb : Option Nat) (T : Row) (h : TB w N mb T) :
    Calls Try.prog 9 #[.pointer (some ⟨N, 0, none⟩)] w fun e w' => e = .returned (.int .i64 T.length) ∧ w = w' := by
  have hc := h.box.cell 0
  simp at hc
  rcases h.map with ⟨rfl, rfl⟩ | ⟨b, clock, rfl, h4⟩
  · go_enter Try.func9, Try.ntmps9
    go_wp2
    go_ret
    exact ⟨rfl, rfl⟩
  · have hs : Hid ((T.map mkE).toArray.size = T.length) := Lib.hid (by simp)
    have hb := h4.block
    generalize (T.map mkE).toArray = es at *
    go_enter Try.func9, Try.ntmps9
    go_wp2_with (at_len; refine wpList_len_mapA _ rfl _ 31 rfl 28 56 Try.underlying31 b es clock rfl hb ?_)
    go_wp2
    go_ret
    exact ⟨ret_int (by rw [hs.out]), rfl⟩
set_option maxRecDepth 100000 in
set_option maxHeartbeats 4000000 in
theorem get_raw (b0 b1 b2 b3 b4 : Int) (a0 a1 a2 a3 a4 a5 k f t s g r c : Int) (o is : Bool) (A : Option Addr) (n cp : Nat) (l : List Int) (m : Value) (N : Nat) (w : World) (hN : N < w.heap.size) (hc : w.cell? ⟨N, 0, none⟩ = some m)
    (hl : ∀ W, Below w.heap.size w W → (Instr.lookup 31 m (.agg #[.int .i64 b0, .int .i64 b1, .int .u32 b2, .int .u32 b3, .int .u32 b4]) true).run Try.prog W = .ok (.tuple #[.agg #[.int .i64 a0, .int .i64 a1, .int .u32 a2, .int .u32 a3, .int .u32 a4, .int .i64 a5, .int .i64 k, .int .u32 f, .int .u32 t, .int .u32 s, .int .u32 g, .int .i64 r, .int .i64 c, .bool o, .slice A n cp], .bool is]) W) (h : AR w A n l) (hn : n ≤ 1000000) :
    Calls Try.prog 20 #[.pointer (some ⟨N, 0, none⟩), .agg #[.int .i64 b0, .int .i64 b1, .int .u32 b2, .int .u32 b3, .int .u32 b4]] w fun e w' => ∃ A' c', e = .returned (.tuple #[.agg #[.int .i64 a0, .int .i64 a1, .int .u32 a2, .int .u32 a3, .int .u32 a4, .int .i64 a5, .int .i64 k, .int .u32 f, .int .u32 t, .int .u32 s, .int .u32 g, .int .i64 r, .int .i64 c, .bool o, .slice A' n c'], .bool is]) ∧ AR w' A' n l ∧ NewA w' w.heap.size A' n ∧ Below w.heap.size w w' := by
  have hk0 := (Blk.new w 28 #[.int .i64 b0, .int .i64 b1, .int .u32 b2, .int .u32 b3, .int .u32 b4]).alloc (.cells #[.int .i64 0, .int .i64 0, .int .u32 0, .int .u32 0, .int .u32 0, .int .i64 0, .int .i64 0, .int .u32 0, .int .u32 0, .int .u32 0, .int .u32 0, .int .i64 0, .int .i64 0, .bool false, .slice none 0 0] 56)
  have hk2 := Blk.new (w.alloc (.cells #[.int .i64 b0, .int .i64 b1, .int .u32 b2, .int .u32 b3, .int .u32 b4] 28)) 56 #[.int .i64 0, .int .i64 0, .int .u32 0, .int .u32 0, .int .u32 0, .int .i64 0, .int .i64 0, .int .u32 0, .int .u32 0, .int .u32 0, .int .u32 0, .int .i64 0, .int .i64 0, .bool false, .slice none 0 0]
  rw [sz_alloc] at hk2
  have hb := ((Below.refl w.heap.size w).alloc (Nat.le_refl _) (.cells #[.int .i64 b0, .int .i64 b1, .int .u32 b2, .int .u32 b3, .int .u32 b4] 28)).alloc (by simp) (.cells #[.int .i64 0, .int .i64 0, .int .u32 0, .int .u32 0, .int .u32 0, .int .i64 0, .int .i64 0, .int .u32 0, .int .u32 0, .int .u32 0, .int .u32 0, .int .i64 0, .int .i64 0, .bool false, .slice none 0 0] 56)
  go_enter Try.func20, Try.ntmps20
  go_upto_region 1 with fail
  generalize (w.alloc (.cells #[.int .i64 b0, .int .i64 b1, .int .u32 b2, .int .u32 b3, .int .u32 b4] 28)).alloc (.cells #[.int .i64 0, .int .i64 0, .int .u32 0, .int .u32 0, .int .u32 0, .int .i64 0, .int .i64 0, .int .u32 0, .int .u32 0, .int .u32 0, .int .u32 0, .int .i64 0, .int .i64 0, .bool false, .slice none 0 0] 56) = W1 at *
  have hlt1 := hk2.lt
  have c0 : ∀ W, Below W1.heap.size W1 W → W.cell? ⟨N, 0, none⟩ = some m := fun W hW => ((hb.trans (hW.mono hb.size)).cell (p := ⟨N, 0, none⟩) hN).trans hc
  have c1 := fun W (hW : Below W1.heap.size W1 W) => hl W (hb.trans (hW.mono hb.size))
  have d0 : W1.cell? ⟨N, 0, none⟩ = some m := c0 W1 (Below.refl _ _)
  have e0 : W1.cell? ⟨w.heap.size, 0, none⟩ = some (.int .i64 b0) := hk0.cell 0
  have e1 : W1.cell? ⟨w.heap.size, 1, none⟩ = some (.int .i64 b1) := hk0.cell 1
  have e2 : W1.cell? ⟨w.heap.size, 2, none⟩ = some (.int .u32 b2) := hk0.cell 2
  have e3 : W1.cell? ⟨w.heap.size, 3, none⟩ = some (.int .u32 b3) := hk0.cell 3
  have e4 : W1.cell? ⟨w.heap.size, 4, none⟩ = some (.int .u32 b4) := hk0.cell 4
  have k1 := c1 _ (Below.refl _ _).drew
  have k2 := c1 _ (((Below.refl _ _).alloc (Nat.le_refl _) (.cells #[.int .i64 0, .int .i64 0, .int .u32 0, .int .u32 0, .int .u32 0, .int .i64 0, .int .i64 0, .int .u32 0, .int .u32 0, .int .u32 0, .int .u32 0, .int .i64 0, .int .i64 0, .bool false, .slice none 0 0] 56)).drew)
  have l0 : w.heap.size < W1.heap.size := by omega
  have l1 : N < W1.heap.size := by omega
  have HK2 := Lib.hid hk2
  have HB := Lib.hid hb
  have HA := Lib.hid h
  clear hl hc c0 c1 h hk2 hb hk0
  go_region
  all_goals
    have hbz : Below W1.heap.size W1 (W1.alloc (.cells #[.int .i64 a0, .int .i64 a1, .int .u32 a2, .int .u32 a3, .int .u32 a4, .int .i64 a5, .int .i64 k, .int .u32 f, .int .u32 t, .int .u32 s, .int .u32 g, .int .i64 r, .int .i64 c, .bool o, .slice A n cp] 56)).drew := ((Below.refl _ _).alloc (Nat.le_refl _) _).drew
    have hk3 : Blk (W1.alloc (.cells #[.int .i64 a0, .int .i64 a1, .int .u32 a2, .int .u32 a3, .int .u32 a4, .int .i64 a5, .int .i64 k, .int .u32 f, .int .u32 t, .int .u32 s, .int .u32 g, .int .i64 r, .int .i64 c, .bool o, .slice A n cp] 56)).drew W1.heap.size 56 #[.int .i64 a0, .int .i64 a1, .int .u32 a2, .int .u32 a3, .int .u32 a4, .int .i64 a5, .int .i64 k, .int .u32 f, .int .u32 t, .int .u32 s, .int .u32 g, .int .i64 r, .int .i64 c, .bool o, .slice A n cp] := (Blk.new W1 56 #[.int .i64 a0, .int .i64 a1, .int .u32 a2, .int .u32 a3, .int .u32 a4, .int .i64 a5, .int .i64 k, .int .u32 f, .int .u32 t, .int .u32 s, .int .u32 g, .int .i64 r, .int .i64 c, .bool o, .slice A n cp]).drew
    generalize (W1.alloc (.cells #[.int .i64 a0, .int .i64 a1, .int .u32 a2, .int .u32 a3, .int .u32 a4, .int .i64 a5, .int .i64 k, .int .u32 f, .int .u32 t, .int .u32 s, .int .u32 g, .int .i64 r, .int .i64 c, .bool o, .slice A n cp] 56)).drew = W2 at *
    have f0 : ∀ i, W2.cell? ⟨W1.heap.size, i, none⟩ = (#[.int .i64 a0, .int .i64 a1, .int .u32 a2, .int .u32 a3, .int .u32 a4, .int .i64 a5, .int .i64 k, .int .u32 f, .int .u32 t, .int .u32 s, .int .u32 g, .int .i64 r, .int .i64 c, .bool o, .slice A n cp])[i]? := fun i => hk3.cell i
    have HZ := Lib.hid hbz
    clear hbz hk3 k1 k2 e0 e1 e2 e3 e4 d0
    have x0 : W2.cell? ⟨W1.heap.size, 0, none⟩ = some (Value.int .i64 a0) := f0 0
    have x1 : W2.cell? ⟨W1.heap.size, 1, none⟩ = some (Value.int .i64 a1) := f0 1
    have x2 : W2.cell? ⟨W1.heap.size, 2, none⟩ = some (Value.int .u32 a2) := f0 2
    have x3 : W2.cell? ⟨W1.heap.size, 3, none⟩ = some (Value.int .u32 a3) := f0 3
    have x4 : W2.cell? ⟨W1.heap.size, 4, none⟩ = some (Value.int .u32 a4) := f0 4
    have x5 : W2.cell? ⟨W1.heap.size, 5, none⟩ = some (Value.int .i64 a5) := f0 5
    have x6 : W2.cell? ⟨W1.heap.size, 6, none⟩ = some (Value.int .i64 k) := f0 6
    have x7 : W2.cell? ⟨W1.heap.size, 7, none⟩ = some (Value.int .u32 f) := f0 7
    have x8 : W2.cell? ⟨W1.heap.size, 8, none⟩ = some (Value.int .u32 t) := f0 8
    have x9 : W2.cell? ⟨W1.heap.size, 9, none⟩ = some (Value.int .u32 s) := f0 9
    have x10 : W2.cell? ⟨W1.heap.size, 10, none⟩ = some (Value.int .u32 g) := f0 10
    have x11 : W2.cell? ⟨W1.heap.size, 11, none⟩ = some (Value.int .i64 r) := f0 11
    have x12 : W2.cell? ⟨W1.heap.size, 12, none⟩ = some (Value.int .i64 c) := f0 12
    have x13 : W2.cell? ⟨W1.heap.size, 13, none⟩ = some (Value.bool o) := f0 13
    have x14 : W2.cell? ⟨W1.heap.size, 14, none⟩ = some (Value.slice A n cp) := f0 14
    go_wp2_with (go_at_call 25; refine (copied_raw a0 a1 a2 a3 a4 a5 k f t s g r c o A n cp l _ ((HA.out.next HB.out).next HZ.out) hn).mono ?_; rintro e w3 ⟨A', c', rfl, har, hna, hb3⟩; have k2 := (HK2.out.next HZ.out).next hb3; have y0 : w3.cell? ⟨w.heap.size + 1, 0, none⟩ = some (.int .i64 0) := k2.cell 0; have y1 : w3.cell? ⟨w.heap.size + 1, 1, none⟩ = some (.int .i64 0) := k2.cell 1; have y2 : w3.cell? ⟨w.heap.size + 1, 2, none⟩ = some (.int .u32 0) := k2.cell 2; have y3 : w3.cell? ⟨w.heap.size + 1, 3, none⟩ = some (.int .u32 0) := k2.cell 3; have y4 : w3.cell? ⟨w.heap.size + 1, 4, none⟩ = some (.int .u32 0) := k2.cell 4; have y5 : w3.cell? ⟨w.heap.size + 1, 5, none⟩ = some (.int .i64 0) := k2.cell 5; have y6 : w3.cell? ⟨w.heap.size + 1, 6, none⟩ = some (.int .i64 0) := k2.cell 6; have y7 : w3.cell? ⟨w.heap.size + 1, 7, none⟩ = some (.int .u32 0) := k2.cell 7; have y8 : w3.cell? ⟨w.heap.size + 1, 8, none⟩ = some (.int .u32 0) := k2.cell 8; have y9 : w3.cell? ⟨w.heap.size + 1, 9, none⟩ = some (.int .u32 0) := k2.cell 9; have y10 : w3.cell? ⟨w.heap.size + 1, 10, none⟩ = some (.int .u32 0) := k2.cell 10; have y11 : w3.cell? ⟨w.heap.size + 1, 11, none⟩ = some (.int .i64 0) := k2.cell 11; have y12 : w3.cell? ⟨w.heap.size + 1, 12, none⟩ = some (.int .i64 0) := k2.cell 12; have y13 : w3.cell? ⟨w.heap.size + 1, 13, none⟩ = some (.bool false) := k2.cell 13; have y14 : w3.cell? ⟨w.heap.size + 1, 14, none⟩ = some (.slice none 0 0) := k2.cell 14; have g0 : w3.frozen? ⟨w.heap.size + 1, 0, none⟩ = false := k2.frozen 0; have g1 : w3.frozen? ⟨w.heap.size + 1, 1, none⟩ = false := k2.frozen 1; have g2 : w3.frozen? ⟨w.heap.size + 1, 2, none⟩ = false := k2.frozen 2; have g3 : w3.frozen? ⟨w.heap.size + 1, 3, none⟩ = false := k2.frozen 3; have g4 : w3.frozen? ⟨w.heap.size + 1, 4, none⟩ = false := k2.frozen 4; have g5 : w3.frozen? ⟨w.heap.size + 1, 5, none⟩ = false := k2.frozen 5; have g6 : w3.frozen? ⟨w.heap.size + 1, 6, none⟩ = false := k2.frozen 6; have g7 : w3.frozen? ⟨w.heap.size + 1, 7, none⟩ = false := k2.frozen 7; have g8 : w3.frozen? ⟨w.heap.size + 1, 8, none⟩ = false := k2.frozen 8; have g9 : w3.frozen? ⟨w.heap.size + 1, 9, none⟩ = false := k2.frozen 9; have g10 : w3.frozen? ⟨w.heap.size + 1, 10, none⟩ = false := k2.frozen 10; have g11 : w3.frozen? ⟨w.heap.size + 1, 11, none⟩ = false := k2.frozen 11; have g12 : w3.frozen? ⟨w.heap.size + 1, 12, none⟩ = false := k2.frozen 12; have g13 : w3.frozen? ⟨w.heap.size + 1, 13, none⟩ = false := k2.frozen 13; have g14 : w3.frozen? ⟨w.heap.size + 1, 14, none⟩ = false := k2.frozen 14; have hb4 := Lib.hid hb3; clear hb3)
    obtain ⟨W', hW', hkr, hBr, hfr, hzr⟩ := store15 k2 rfl (Value.int .i64 a0) (Value.int .i64 a1) (Value.int .u32 a2) (Value.int .u32 a3) (Value.int .u32 a4) (Value.int .i64 a5) (Value.int .i64 k) (Value.int .u32 f) (Value.int .u32 t) (Value.int .u32 s) (Value.int .u32 g) (Value.int .i64 r) (Value.int .i64 c) (Value.bool o) (Value.slice A' n c')
    rw [← hW']
    refine bodyPost_ret (ret_get _ (w.heap.size + 1) W' (Value.int .i64 a0) (Value.int .i64 a1) (Value.int .u32 a2) (Value.int .u32 a3) (Value.int .u32 a4) (Value.int .i64 a5) (Value.int .i64 k) (Value.int .u32 f) (Value.int .u32 t) (Value.int .u32 s) (Value.int .u32 g) (Value.int .i64 r) (Value.int .i64 c) (Value.bool o) (Value.slice A' n c') (.bool is) rfl rfl (hkr.cell 0) (hkr.cell 1) (hkr.cell 2) (hkr.cell 3) (hkr.cell 4) (hkr.cell 5) (hkr.cell 6) (hkr.cell 7) (hkr.cell 8) (hkr.cell 9) (hkr.cell 10) (hkr.cell 11) (hkr.cell 12) (hkr.cell 13) (hkr.cell 14)) rfl ?_
    have hbw := HB.out.trans ((HZ.out.mono HB.out.size).trans (hb4.out.mono (Nat.le_trans HB.out.size HZ.out.size)))
    have hz2 := HZ.out.size
    refine ⟨A', c', rfl, har.far (by rw [hzr]; exact Nat.le_refl _) (fun hn => ?_), fun hn => ?_, hBr _ w (by omega) hbw⟩
    all_goals obtain ⟨g, cs, hg1, hg2, hcs⟩ := hna hn
    · exact ⟨g, 0, hg1, hfr g (by omega)⟩
    · exact ⟨g, cs, hg1, by omega, (hfr g (by omega)).trans hcs⟩
end Go.Proofs.Ytnnppoamdllebaa

