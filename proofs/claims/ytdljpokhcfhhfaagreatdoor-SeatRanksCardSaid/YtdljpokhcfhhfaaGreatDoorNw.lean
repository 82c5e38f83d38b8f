/- topo.New of a valid network: who is where, in new memory; over the seat's program. -/
import Derived.Test.YtdljpokhcfhhfaaGreatDoorNw0
namespace Go.Proofs.YtdljpokhcfhhfaaGreatDoor
open Go.RowKit Lx Sm Go.Maps Go.Sort Go.Shelf
set_option maxHeartbeats 8000000 in
set_option maxRecDepth 20000 in
theorem new_ok (ads : List Addr) (M : Cm) (x : Cfg) (gs : List Int) (w : World) (hE : EnvC ads w) (h : CW w M x) (hv : vcode x = 0) (hrn : ∀ y ∈ x.rs, (str y.1).size ≤ 281474976710656) (hln : ∀ y ∈ x.ls, (str y.1).size ≤ 281474976710656)
    (hG : ∀ W, Below w.heap.size w W → Calls Tryz.prog 47 #[.agg #[.slice M.r.A M.r.n M.r.c, .slice M.l.A M.l.n M.l.c, .slice M.p.A M.p.n M.p.c, .slice M.o.A M.o.n M.o.c, .slice M.g.A M.g.n M.g.c, .slice M.s.A M.s.n M.s.c, .slice M.m.A M.m.n M.m.c]] W fun e w' => ∃ (A : Option Addr) (c : Nat), e = .returned (.slice A gs.length c) ∧ w'.ownsRow W.heap.size 42 1 (.slice A gs.length c) gs.length (A32 gs) ∧ Below W.heap.size W w')
    (hpo : ∀ y ∈ x.ps, 0 ≤ y.1 ∧ y.1 < x.rs.length ∧ 0 ≤ y.2.1 ∧ y.2.1 < x.ls.length) (hmo : ∀ y ∈ x.ms, 0 ≤ y.l ∧ y.l < x.ls.length) :
    Calls Tryz.prog 9 #[.agg #[.slice M.r.A M.r.n M.r.c, .slice M.l.A M.l.n M.l.c, .slice M.p.A M.p.n M.p.c, .slice M.o.A M.o.n M.o.c, .slice M.g.A M.g.n M.g.c, .slice M.s.A M.s.n M.s.c, .slice M.m.A M.m.n M.m.c]] w fun e w' => ∃ (T : TP) (x' : Cfg), e = .returned (.tuple #[.pointer (some ⟨T.N, 0, none⟩), .nilIface]) ∧ TW w' w.heap.size T x' gs ∧ Alike x x' ∧ Below w.heap.size w w' := by
  have HB0 := Lib.hid ((Below.refl w.heap.size w).alloc (Nat.le_refl _) (.cells #[.slice M.r.A M.r.n M.r.c, .slice M.l.A M.l.n M.l.c, .slice M.p.A M.p.n M.p.c, .slice M.o.A M.o.n M.o.c, .slice M.g.A M.g.n M.g.c, .slice M.s.A M.s.n M.s.c, .slice M.m.A M.m.n M.m.c] 30))
  have HK0 : Hid (Blk (w.alloc (.cells #[.slice M.r.A M.r.n M.r.c, .slice M.l.A M.l.n M.l.c, .slice M.p.A M.p.n M.p.c, .slice M.o.A M.o.n M.o.c, .slice M.g.A M.g.n M.g.c, .slice M.s.A M.s.n M.s.c, .slice M.m.A M.m.n M.m.c] 30)) w.heap.size 30 #[.slice M.r.A M.r.n M.r.c, .slice M.l.A M.l.n M.l.c, .slice M.p.A M.p.n M.p.c, .slice M.o.A M.o.n M.o.c, .slice M.g.A M.g.n M.g.c, .slice M.s.A M.s.n M.s.c, .slice M.m.A M.m.n M.m.c]) := Lib.hid (Blk.new _ _ _)
  have HVA := Lib.hid (valid_conf ads M x (w.alloc (.cells #[.slice M.r.A M.r.n M.r.c, .slice M.l.A M.l.n M.l.c, .slice M.p.A M.p.n M.p.c, .slice M.o.A M.o.n M.o.c, .slice M.g.A M.g.n M.g.c, .slice M.s.A M.s.n M.s.c, .slice M.m.A M.m.n M.m.c] 30)) (hE.below HB0.out) (h.next HB0.out))
  rw [hv] at HVA
  have HC := Lib.hid h
  have HG := Lib.hid hG
  have HRN := Lib.hid hrn
  have HLN := Lib.hid hln
  clear h hG hrn hln hE hv
  go_enter Tryz.func9, Tryz.ntmps9
  go_wp2_with (go_at_call 45; refine HVA.out.mono ?_; rintro e W1 ⟨rfl, hb1⟩; have hb1' := hb1; dsimp only [erS])

  have y0 : ∀ W, Below W1.heap.size W1 W → W.cell? ⟨w.heap.size, 0, none⟩ = some (.slice M.r.A M.r.n M.r.c) := fun W hW => Blk.cell (HK0.out.next (below_next hb1' hW)) 0
  have y1 : ∀ W, Below W1.heap.size W1 W → W.cell? ⟨w.heap.size, 1, none⟩ = some (.slice M.l.A M.l.n M.l.c) := fun W hW => Blk.cell (HK0.out.next (below_next hb1' hW)) 1
  have y2 : ∀ W, Below W1.heap.size W1 W → W.cell? ⟨w.heap.size, 2, none⟩ = some (.slice M.p.A M.p.n M.p.c) := fun W hW => Blk.cell (HK0.out.next (below_next hb1' hW)) 2
  have y3 : ∀ W, Below W1.heap.size W1 W → W.cell? ⟨w.heap.size, 3, none⟩ = some (.slice M.o.A M.o.n M.o.c) := fun W hW => Blk.cell (HK0.out.next (below_next hb1' hW)) 3
  have y4 : ∀ W, Below W1.heap.size W1 W → W.cell? ⟨w.heap.size, 4, none⟩ = some (.slice M.g.A M.g.n M.g.c) := fun W hW => Blk.cell (HK0.out.next (below_next hb1' hW)) 4
  have y5 : ∀ W, Below W1.heap.size W1 W → W.cell? ⟨w.heap.size, 5, none⟩ = some (.slice M.s.A M.s.n M.s.c) := fun W hW => Blk.cell (HK0.out.next (below_next hb1' hW)) 5
  have y6 : ∀ W, Below W1.heap.size W1 W → W.cell? ⟨w.heap.size, 6, none⟩ = some (.slice M.m.A M.m.n M.m.c) := fun W hW => Blk.cell (HK0.out.next (below_next hb1' hW)) 6
  have HB1 := Lib.hid (HB0.out.trans (hb1'.mono HB0.out.size))
  have HCW : Hid (∀ W, Below W1.heap.size W1 W → CW W M x) := Lib.hid fun W hW => HC.out.next (HB1.out.trans (hW.mono HB1.out.size))
  have HKW := Lib.hid (HK0.out.next hb1')
  clear hb1 hb1' HVA HK0
  clear HB0
  have hS0 : Below W1.heap.size W1 W1.drew := (Below.refl _ _).drew
  refine wp_region_held_drew (S := fun w' => Below W1.heap.size W1 w') (by kernel_rfl) hS0 (fun hHeld => ?_)
  have hH : Below W1.heap.size W1 W1.drew := hHeld
  clear hHeld hS0
  refine wpAnyH_take (i := 0) (v := .agg #[.slice M.r.A M.r.n M.r.c, .slice M.l.A M.l.n M.l.c, .slice M.p.A M.p.n M.p.c, .slice M.o.A M.o.n M.o.c, .slice M.g.A M.g.n M.g.c, .slice M.s.A M.s.n M.s.c, .slice M.m.A M.m.n M.m.c]) rfl (by kernel_rfl) (by kernel_rfl) (by kernel_rfl) (fun _ _ _ h => h) (Or.inl ⟨by rfl, fun w' hSw => by (try dsimp only at hSw); go_simp⟩) hH ?_
  try go_simp
  refine wpAnyH_take (i := 2) (v := .pointer (some ⟨w.heap.size, 1, none⟩)) rfl (by kernel_rfl) (by kernel_rfl) (by kernel_rfl) (fun _ _ _ h => h) (Or.inl ⟨by rfl, fun w' hSw => by (try dsimp only at hSw); go_simp⟩) hH ?_
  try go_simp
  refine wpAnyH_take (i := 3) (v := .slice M.l.A M.l.n M.l.c) rfl (by kernel_rfl) (by kernel_rfl) (by kernel_rfl) (fun _ _ _ h => h) (Or.inl ⟨by rfl, fun w' hSw => by (try dsimp only at hSw); go_simp⟩) hH ?_
  try go_simp
  refine wpAnyH_take (i := 4) (v := .int .i64 M.l.n) rfl (by kernel_rfl) (by kernel_rfl) (by kernel_rfl) (fun _ _ _ h => h) (Or.inl ⟨by rfl, fun w' hSw => by (try dsimp only at hSw); go_simp⟩) hH ?_
  try go_simp
  refine wpAnyH_take (i := 6) (v := .pointer (some ⟨w.heap.size, 0, none⟩)) rfl (by kernel_rfl) (by kernel_rfl) (by kernel_rfl) (fun _ _ _ h => h) (Or.inl ⟨by rfl, fun w' hSw => by (try dsimp only at hSw); go_simp⟩) hH ?_
  try go_simp
  refine wpAnyH_take (i := 7) (v := .slice M.r.A M.r.n M.r.c) rfl (by kernel_rfl) (by kernel_rfl) (by kernel_rfl) (fun _ _ _ h => h) (Or.inl ⟨by rfl, fun w' hSw => by (try dsimp only at hSw); go_simp⟩) hH ?_
  try go_simp
  refine wpAnyH_take (i := 8) (v := .int .i64 M.r.n) rfl (by kernel_rfl) (by kernel_rfl) (by kernel_rfl) (fun _ _ _ h => h) (Or.inl ⟨by rfl, fun w' hSw => by (try dsimp only at hSw); go_simp⟩) hH ?_
  try go_simp
  refine wpAnyH_take (i := 10) (v := .pointer (some ⟨w.heap.size, 1, none⟩)) rfl (by kernel_rfl) (by kernel_rfl) (by kernel_rfl) (fun _ _ _ h => h) (Or.inl ⟨by rfl, fun w' hSw => by (try dsimp only at hSw); go_simp⟩) hH ?_
  try go_simp
  refine wpAnyH_take (i := 11) (v := .slice M.l.A M.l.n M.l.c) rfl (by kernel_rfl) (by kernel_rfl) (by kernel_rfl) (fun _ _ _ h => h) (Or.inl ⟨by rfl, fun w' hSw => by (try dsimp only at hSw); go_simp⟩) hH ?_
  try go_simp
  refine wpAnyH_take (i := 12) (v := .int .i64 M.l.n) rfl (by kernel_rfl) (by kernel_rfl) (by kernel_rfl) (fun _ _ _ h => h) (Or.inl ⟨by rfl, fun w' hSw => by (try dsimp only at hSw); go_simp⟩) hH ?_
  try go_simp
  refine wpAnyH_take (i := 15) (v := .agg #[.slice M.r.A M.r.n M.r.c, .slice M.l.A M.l.n M.l.c, .slice M.p.A M.p.n M.p.c, .slice M.o.A M.o.n M.o.c, .slice M.g.A M.g.n M.g.c, .slice M.s.A M.s.n M.s.c, .slice M.m.A M.m.n M.m.c]) rfl (by kernel_rfl) (by kernel_rfl) (by kernel_rfl) (fun _ _ _ h => h) (Or.inl ⟨by rfl, fun w' hSw => by (try dsimp only at hSw); go_simp⟩) hH ?_
  try go_simp
  refine wpAnyH_each (md := .any) (m := 2) (rem := [1, 5, 9, 13, 14, 16, 17]) (tail := [18, 19]) (deps := fun i => match i with | 17 => [1, 5, 9, 13, 14, 16] | _ => []) (fun _ W => Below W1.heap.size W1 W) (fun i W v W' => Below W.heap.size W W' ∧ (i = 5 ∨ i = 9 ∨ i = 13 → ∀ g, v.ownBlock = some g → W.heap.size ≤ g))
    (fun i ds v W => match i with | 1 => ∃ (M' : Cm) (x' : Cfg), v = .agg #[.slice M'.r.A M'.r.n M'.r.c, .slice M'.l.A M'.l.n M'.l.c, .slice M'.p.A M'.p.n M'.p.c, .slice M'.o.A M'.o.n M'.o.c, .slice M'.g.A M'.g.n M'.g.c, .slice M'.s.A M'.s.n M'.s.c, .slice M'.m.A M'.m.n M'.m.c] ∧ CWo W w.heap.size M' x' ∧ Alike x x' | 5 => NewT W1.heap.size M.l.n v W | 9 => NewT W1.heap.size M.r.n v W | 13 => NewT W1.heap.size M.l.n v W | 14 => ∃ mb, v = .map (some mb) ∧ W1.heap.size ≤ mb ∧ W.ownsMap Tryz.prog 42 (plainElem (H := Unit) Tryz.prog 3) mb 0 (.map []) | 16 => ∃ (A : Option Addr) (c : Nat), v = .slice A gs.length c ∧ W.ownsRow w.heap.size 42 1 (.slice A gs.length c) gs.length (A32 gs) | 17 => ∃ (M' : Cm) (v5 v9 v13 v14 v16 : Value), v = .agg #[.slice M'.r.A M'.r.n M'.r.c, .slice M'.l.A M'.l.n M'.l.c, .slice M'.p.A M'.p.n M'.p.c, .slice M'.o.A M'.o.n M'.o.c, .slice M'.g.A M'.g.n M'.g.c, .slice M'.s.A M'.s.n M'.s.c, .slice M'.m.A M'.m.n M'.m.c, v5, v9, v13, v14, v16] ∧ ds = [.agg #[.slice M'.r.A M'.r.n M'.r.c, .slice M'.l.A M'.l.n M'.l.c, .slice M'.p.A M'.p.n M'.p.c, .slice M'.o.A M'.o.n M'.o.c, .slice M'.g.A M'.g.n M'.g.c, .slice M'.s.A M'.s.n M'.s.c, .slice M'.m.A M'.m.n M'.m.c], v5, v9, v13, v14, v16] | _ => True) (eachB_spec (by kernel_rfl)) (fun _ _ _ _ _ _ _ h k => h.trans (k.1.mono h.size)) (fun _ _ h => h) ?_ (fun i j v u => (i = 5 ∨ i = 9 ∨ i = 13) → (j = 5 ∨ j = 9 ∨ j = 13) → ∀ g, v.ownBlock = some g → u.ownBlock ≠ some g) ?_ ?_ ?_ hH
  · intro i hi j _ _ _ ds v u _ W W' _ _ hb h
    have hb := hb.1
    simp only [List.mem_cons, List.not_mem_nil, or_false] at hi
    rcases hi with rfl | rfl | rfl | rfl | rfl | rfl | rfl
    · obtain ⟨M', x', e, hc, ha⟩ := h
      exact ⟨M', x', e, hc.fr (Fr2.below hb), ha⟩
    · exact NewT.next h hb
    · exact NewT.next h hb
    · exact NewT.next h hb
    · obtain ⟨mb, e, hm, ho⟩ := h
      exact ⟨mb, e, hm, by
        obtain ⟨es, clock, h1, h2⟩ := ho
        exact ⟨es, clock, (hb.block mb (Array.getElem?_eq_some_iff.1 h1).1).trans h1, h2⟩⟩
    · obtain ⟨A, c, e, hi⟩ := h
      exact ⟨A, c, e, ownk_next hi hb⟩
    · exact h
  · intro i hi j _ _ ds v u _ W W' _ hk h
    have hlt : (i = 5 ∨ i = 9 ∨ i = 13) → ∀ g, v.ownBlock = some g → g < W.heap.size := by
      intro h3 g hg
      have hN : ∃ b n, NewT b n v W := by
        rcases h3 with rfl | rfl | rfl <;> exact ⟨_, _, h⟩
      obtain ⟨b, n, g', cs, rfl, _, hk', _⟩ := hN
      simp only [Value.ownBlock, Option.some.injEq] at hg
      subst hg
      exact hk'.lt
    refine ⟨fun h3 h4 g hg e => ?_, fun h4 h3 g hg e => ?_⟩
    · have := hlt h3 g hg
      have := hk.2 h4 g e
      omega
    · have := hlt h3 g e
      have := hk.2 h4 g hg
      omega
  · refine AllO.cons [] rfl rfl (fun vs _ W _ hW _ => ?_) ?_
    · have hC := Lib.hid (clone_any M x W (HCW.out W hW) HRN.out HLN.out)
      dsimp only [lay, List.foldl, List.map]
      go_wp2_with (go_at_call 46; refine hC.out.mono ?_; rintro e wr ⟨M', x', rfl, ho, ha, hb⟩)
      have ho' : CWo wr w.heap.size M' x' := ho.up (Nat.le_trans HB1.out.size hW.size)
      exact ⟨rfl, _, rfl, ⟨hb, fun h => by omega⟩, M', x', rfl, ho', ha⟩
    refine AllO.cons [] rfl rfl (fun vs _ W _ hW _ => ?_) ?_
    · obtain ⟨i0, hi, hz0, hz1, hz2⟩ := info_parts info_row
      have h6 := HC.out.lok.2
      have hle : W1.heap.size ≤ W.heap.size := hW.size
      dsimp only [lay, List.foldl, List.map]
      refine wpList_make_full _ rfl _ _ 109 rfl W1.heap.size 52 i0 (.slice none 0 0) 1 Tryz.underlying109 hi hz0 hz1 .i64 .i64 _ _ M.l.n rfl rfl rfl rfl (by rw [hz2]; omega) (by unfold maxLen; omega) hle ?_
      intro w0 hown0 hgrow0
      refine wpList_nil ?_
      have hb0 : Below W.heap.size W w0 := (Below.refl _ _).grown hgrow0 (Nat.le_refl _) (by intro k hk; cases hk)
      exact ⟨rfl, _, rfl, ⟨hb0, fun _ g hg => by simp only [Value.ownBlock, Option.some.injEq] at hg; omega⟩, newT_of hown0⟩
    refine AllO.cons [] rfl rfl (fun vs _ W _ hW _ => ?_) ?_
    · obtain ⟨i0, hi, hz0, hz1, hz2⟩ := info_parts info_row
      have h6 := HC.out.rok.2
      have hle : W1.heap.size ≤ W.heap.size := hW.size
      dsimp only [lay, List.foldl, List.map]
      refine wpList_make_full _ rfl _ _ 109 rfl W1.heap.size 52 i0 (.slice none 0 0) 1 Tryz.underlying109 hi hz0 hz1 .i64 .i64 _ _ M.r.n rfl rfl rfl rfl (by rw [hz2]; omega) (by unfold maxLen; omega) hle ?_
      intro w0 hown0 hgrow0
      refine wpList_nil ?_
      have hb0 : Below W.heap.size W w0 := (Below.refl _ _).grown hgrow0 (Nat.le_refl _) (by intro k hk; cases hk)
      exact ⟨rfl, _, rfl, ⟨hb0, fun _ g hg => by simp only [Value.ownBlock, Option.some.injEq] at hg; omega⟩, newT_of hown0⟩
    refine AllO.cons [] rfl rfl (fun vs _ W _ hW _ => ?_) ?_
    · obtain ⟨i0, hi, hz0, hz1, hz2⟩ := info_parts info_row
      have h6 := HC.out.lok.2
      have hle : W1.heap.size ≤ W.heap.size := hW.size
      dsimp only [lay, List.foldl, List.map]
      refine wpList_make_full _ rfl _ _ 109 rfl W1.heap.size 52 i0 (.slice none 0 0) 1 Tryz.underlying109 hi hz0 hz1 .i64 .i64 _ _ M.l.n rfl rfl rfl rfl (by rw [hz2]; omega) (by unfold maxLen; omega) hle ?_
      intro w0 hown0 hgrow0
      refine wpList_nil ?_
      have hb0 : Below W.heap.size W w0 := (Below.refl _ _).grown hgrow0 (Nat.le_refl _) (by intro k hk; cases hk)
      exact ⟨rfl, _, rfl, ⟨hb0, fun _ g hg => by simp only [Value.ownBlock, Option.some.injEq] at hg; omega⟩, newT_of hown0⟩
    refine AllO.cons [] rfl rfl (fun vs _ W _ hW _ => ?_) ?_
    · have hmm := @run_makeMap Tryz.prog
      have hle : W1.heap.size ≤ W.heap.size := hW.size
      dsimp only [lay, List.foldl, List.map]
      go_wp2
      exact ⟨rfl, _, rfl, (Below.refl _ _).alloc (Nat.le_refl _) _, _, rfl, hle, World.ownsMap_made _ _ _ _⟩
    refine AllO.cons [] rfl rfl (fun vs _ W _ hW _ => ?_) ?_
    · have hC := Lib.hid (HG.out W (HB1.out.trans (hW.mono HB1.out.size)))
      dsimp only [lay, List.foldl, List.map]
      go_wp2_with (go_at_call 47; refine hC.out.mono ?_; rintro e wr ⟨A', c', rfl, hi, hb⟩)
      exact ⟨rfl, _, rfl, ⟨hb, fun h => by omega⟩, A', c', rfl, ownk_up hi (Nat.le_trans HB1.out.size hW.size)⟩
    refine AllO.cons [1, 5, 9, 13, 14, 16] rfl rfl (fun vs _ W _ hW hd => ?_) AllO.nil
    · have f1 := hd 1 (by simp)
      have f5 := hd 5 (by simp)
      have f9 := hd 9 (by simp)
      have f13 := hd 13 (by simp)
      have f14 := hd 14 (by simp)
      have f16 := hd 16 (by simp)
      clear hd
      obtain ⟨M', x', e1, _, _⟩ := f1
      obtain ⟨g5, cs5, e5, _⟩ := f5
      obtain ⟨g9, cs9, e9, _⟩ := f9
      obtain ⟨g13, cs13, e13, _⟩ := f13
      obtain ⟨mb, e14, _⟩ := f14
      obtain ⟨A16, c16, e16, _⟩ := f16
      dsimp only [lay, List.foldl, List.map, dstOf]
      rw [e1, e5, e9, e13, e14, e16]
      go_wp2
      exact ⟨rfl, _, rfl, Below.refl _ _, M', _, _, _, _, _, rfl, by simp⟩
  · intro vs _ W _ hW hF hP aE LE ha hL
    obtain ⟨M', x', e1, o1, a1⟩ := hF 1 (by simp)
    have hN5 : NewT W1.heap.size M.l.n (vs 5) W := hF 5 (by simp)
    have hN9 : NewT W1.heap.size M.r.n (vs 9) W := hF 9 (by simp)
    have hN13 : NewT W1.heap.size M.l.n (vs 13) W := hF 13 (by simp)
    obtain ⟨mb, e14, hmb, om⟩ := hF 14 (by simp)
    obtain ⟨A16, c16, e16, hgr⟩ := hF 16 (by simp)
    obtain ⟨M2, v5, v9, v13, v14, v16, e17, hds⟩ := hF 17 (by simp)
    have hds : [vs 1, vs 5, vs 9, vs 13, vs 14, vs 16] = _ := hds
    have p59 := hP 5 (by simp) 9 (by simp) (by decide) (.inl rfl) (.inr (.inl rfl))
    have p513 := hP 5 (by simp) 13 (by simp) (by decide) (.inl rfl) (.inr (.inr rfl))
    have p913 := hP 9 (by simp) 13 (by simp) (by decide) (.inr (.inl rfl)) (.inr (.inr rfl))
    obtain ⟨g0, cs0, e5, hg0⟩ := id hN5
    obtain ⟨g1, cs1, e9, hg1⟩ := id hN9
    obtain ⟨g2, cs2, e13, hg2⟩ := id hN13
    rw [e5] at hN5 p59 p513
    rw [e9] at hN9 p59 p913
    rw [e13] at hN13 p513 p913
    have q01 : g0 ≠ g1 := fun e => p59 g0 rfl (by rw [e]; rfl)
    have q02 : g0 ≠ g2 := fun e => p513 g0 rfl (by rw [e]; rfl)
    have q12 : g1 ≠ g2 := fun e => p913 g1 rfl (by rw [e]; rfl)
    rw [e1, e5, e9, e13, e14, e16] at hds
    simp only [List.cons.injEq, Value.agg.injEq, Array.mk.injEq, Value.slice.injEq, and_true] at hds
    obtain ⟨⟨⟨d1, d2, d3⟩, ⟨d4, d5, d6⟩, ⟨d7, d8, d9⟩, ⟨d10, d11, d12⟩, ⟨d13, d14, d15⟩, ⟨d16, d17, d18⟩, d19, d20, d21⟩, rfl, rfl, rfl, rfl, rfl⟩ := hds
    rw [← d1, ← d2, ← d3, ← d4, ← d5, ← d6, ← d7, ← d8, ← d9, ← d10, ← d11, ← d12, ← d13, ← d14, ← d15, ← d16, ← d17, ← d18, ← d19, ← d20, ← d21] at e17
    clear d1 d2 d3 d4 d5 d6 d7 d8 d9 d10 d11 d12 d13 d14 d15 d16 d17 d18 d19 d20 d21 p59 p513 p913 hP hF hg0 hg1 hg2
    have ha' : aE = (⟨#[.agg #[.slice M.r.A M.r.n M.r.c, .slice M.l.A M.l.n M.l.c, .slice M.p.A M.p.n M.p.c, .slice M.o.A M.o.n M.o.c, .slice M.g.A M.g.n M.g.c, .slice M.s.A M.s.n M.s.c, .slice M.m.A M.m.n M.m.c], .pointer (some ⟨w.heap.size, 0, none⟩), .pointer none, .nilIface, .nilIface, undef, undef, undef, undef, undef, .agg #[.slice M.r.A M.r.n M.r.c, .slice M.l.A M.l.n M.l.c, .slice M.p.A M.p.n M.p.c, .slice M.o.A M.o.n M.o.c, .slice M.g.A M.g.n M.g.c, .slice M.s.A M.s.n M.s.c, .slice M.m.A M.m.n M.m.c], .nilIface, .nilIface, .bool false, undef, .agg #[.slice M.r.A M.r.n M.r.c, .slice M.l.A M.l.n M.l.c, .slice M.p.A M.p.n M.p.c, .slice M.o.A M.o.n M.o.c, .slice M.g.A M.g.n M.g.c, .slice M.s.A M.s.n M.s.c, .slice M.m.A M.m.n M.m.c], vs 1, .pointer (some ⟨w.heap.size, 1, none⟩), .slice M.l.A M.l.n M.l.c, .int .i64 M.l.n, vs 5, .pointer (some ⟨w.heap.size, 0, none⟩), .slice M.r.A M.r.n M.r.c, .int .i64 M.r.n, vs 9, .pointer (some ⟨w.heap.size, 1, none⟩), .slice M.l.A M.l.n M.l.c, .int .i64 M.l.n, vs 13, vs 14, .agg #[.slice M.r.A M.r.n M.r.c, .slice M.l.A M.l.n M.l.c, .slice M.p.A M.p.n M.p.c, .slice M.o.A M.o.n M.o.c, .slice M.g.A M.g.n M.g.c, .slice M.s.A M.s.n M.s.c, .slice M.m.A M.m.n M.m.c], vs 16, vs 17, undef, undef, undef, undef, undef, undef, undef, undef, undef, undef, undef, undef, undef, undef, undef, undef, undef, undef, undef, undef, undef, undef, undef, undef, undef, undef, undef, undef, undef, undef, undef, undef, undef, undef, undef, undef, undef, undef, undef, undef, undef, undef, undef, undef, undef, undef, undef, undef, undef, undef, undef, undef, undef, undef, undef, undef, undef, undef, undef, undef, undef, undef, undef, undef, undef, undef, undef, undef, undef, undef, undef, undef, undef, undef, undef, undef, undef, undef, undef, undef, undef], []⟩ : Act) := ha.trans (by kernel_rfl)
    have hL' : LE = #[true, true, true, true, true, true, true, true, true, true, true, true, true, true, true, true, true, true, false, false] := hL.trans (by kernel_rfl)
    clear ha hL
    rw [e1, e5, e9, e13, e14, e16, e17] at ha'
    clear e1 e5 e9 e13 e14 e16 e17
    subst ha' hL'
    refine wpAnyH_ready (rs := [18]) (by kernel_rfl) (by simp) ?_
    refine AllReadyH.cons rfl (fun K hK => ?_) AllReadyH.nil
    go_simp
    have hA1 : Below W.heap.size W (W.alloc (.cells #[.slice M'.r.A M'.r.n M'.r.c, .slice M'.l.A M'.l.n M'.l.c, .slice M'.p.A M'.p.n M'.p.c, .slice M'.o.A M'.o.n M'.o.c, .slice M'.g.A M'.g.n M'.g.c, .slice M'.s.A M'.s.n M'.s.c, .slice M'.m.A M'.m.n M'.m.c, .slice (some ⟨g0, 0, none⟩) M.l.n M.l.n, .slice (some ⟨g1, 0, none⟩) M.r.n M.r.n, .slice (some ⟨g2, 0, none⟩) M.l.n M.l.n, .map (some mb), .slice A16 gs.length c16] 113)) := (Below.refl _ _).alloc (Nat.le_refl _) _
    have hbN : Blk (W.alloc (.cells #[.slice M'.r.A M'.r.n M'.r.c, .slice M'.l.A M'.l.n M'.l.c, .slice M'.p.A M'.p.n M'.p.c, .slice M'.o.A M'.o.n M'.o.c, .slice M'.g.A M'.g.n M'.g.c, .slice M'.s.A M'.s.n M'.s.c, .slice M'.m.A M'.m.n M'.m.c, .slice (some ⟨g0, 0, none⟩) M.l.n M.l.n, .slice (some ⟨g1, 0, none⟩) M.r.n M.r.n, .slice (some ⟨g2, 0, none⟩) M.l.n M.l.n, .map (some mb), .slice A16 gs.length c16] 113)) W.heap.size 113 #[.slice M'.r.A M'.r.n M'.r.c, .slice M'.l.A M'.l.n M'.l.c, .slice M'.p.A M'.p.n M'.p.c, .slice M'.o.A M'.o.n M'.o.c, .slice M'.g.A M'.g.n M'.g.c, .slice M'.s.A M'.s.n M'.s.c, .slice M'.m.A M'.m.n M'.m.c, .slice (some ⟨g0, 0, none⟩) M.l.n M.l.n, .slice (some ⟨g1, 0, none⟩) M.r.n M.r.n, .slice (some ⟨g2, 0, none⟩) M.l.n M.l.n, .map (some mb), .slice A16 gs.length c16] := Blk.new _ _ _
    have hNI : NI W1 (W.alloc (.cells #[.slice M'.r.A M'.r.n M'.r.c, .slice M'.l.A M'.l.n M'.l.c, .slice M'.p.A M'.p.n M'.p.c, .slice M'.o.A M'.o.n M'.o.c, .slice M'.g.A M'.g.n M'.g.c, .slice M'.s.A M'.s.n M'.s.c, .slice M'.m.A M'.m.n M'.m.c, .slice (some ⟨g0, 0, none⟩) M.l.n M.l.n, .slice (some ⟨g1, 0, none⟩) M.r.n M.r.n, .slice (some ⟨g2, 0, none⟩) M.l.n M.l.n, .map (some mb), .slice A16 gs.length c16] 113)) (fun t => if t = 0 then g0 else if t = 1 then g1 else g2) mb x 0 0 0 0 (W.alloc (.cells #[.slice M'.r.A M'.r.n M'.r.c, .slice M'.l.A M'.l.n M'.l.c, .slice M'.p.A M'.p.n M'.p.c, .slice M'.o.A M'.o.n M'.o.c, .slice M'.g.A M'.g.n M'.g.c, .slice M'.s.A M'.s.n M'.s.c, .slice M'.m.A M'.m.n M'.m.c, .slice (some ⟨g0, 0, none⟩) M.l.n M.l.n, .slice (some ⟨g1, 0, none⟩) M.r.n M.r.n, .slice (some ⟨g2, 0, none⟩) M.l.n M.l.n, .map (some mb), .slice A16 gs.length c16] 113)) :=
      ⟨Fr2.refl _, hW.trans (hA1.mono hW.size), (rt_new HC.out.l.len HC.out.r.len hN5 hN9 hN13 q01 q02 q12).next hA1, _, om.alloc _, isMap_empty, fun a _ => ⟨rfl, rfl⟩⟩
    have o1' := o1.fr (Fr2.below hA1)
    have gr' := ownk_next hgr hA1
    have hlo := hNI.lo
    generalize hW4 : W.alloc (.cells #[.slice M'.r.A M'.r.n M'.r.c, .slice M'.l.A M'.l.n M'.l.c, .slice M'.p.A M'.p.n M'.p.c, .slice M'.o.A M'.o.n M'.o.c, .slice M'.g.A M'.g.n M'.g.c, .slice M'.s.A M'.s.n M'.s.c, .slice M'.m.A M'.m.n M'.m.c, .slice (some ⟨g0, 0, none⟩) M.l.n M.l.n, .slice (some ⟨g1, 0, none⟩) M.r.n M.r.n, .slice (some ⟨g2, 0, none⟩) M.l.n M.l.n, .map (some mb), .slice A16 gs.length c16] 113) = W4 at *
    generalize hNN : W.heap.size = N at *
    have HNI := Lib.hid hNI
    have HBN := Lib.hid hbN
    have HNET := Lib.hid o1'
    have HGR := Lib.hid gr'
    have HAL := Lib.hid a1
    have HMB := Lib.hid hmb
    clear hNI hbN o1' gr' a1 hN5 hN9 hN13 om hgr o1 hA1 hW4 hNN q01 q02 q12 hmb hH hW
    refine hK.out _ _ hlo (fun hHeld => ?_)
    clear hHeld hK
    clear K
    refine wpAnyH_ready (rs := [19]) (by kernel_rfl) (by simp) ?_
    refine AllReadyH.cons rfl (fun K hK => ?_) AllReadyH.nil
    go_simp
    refine hK.out _ _ hlo (fun hHeld => ?_)
    clear hHeld hK
    clear K
    refine wpAnyH_done (by kernel_rfl) ?_ _
    have z2 := y2 W4 hlo
    have HLO := Lib.hid hlo
    have HY0 := Lib.hid y2
    have HY6 := Lib.hid y6
    clear y0 y1 y2 y3 y4 y5 y6 hlo
    have hp6 := HC.out.pok.2
    have hm6 := HC.out.mok.2
    go_wp2
    clear z2
    generalize hpA : M.p.A = pA at *
    have HPA := Lib.hid hpA
    clear hpA
    go_loopw [37] (fun i wr => ∃ k : Nat, k ≤ M.p.n ∧ i = .int .i64 k ∧ Hid (NI W1 W4 (fun t => if t = 0 then g0 else if t = 1 then g1 else g2) mb x k k 0 k wr)) (fun i _ => M.p.n - (intOf i).toNat)
    case atStart => exact ⟨0, Nat.zero_le _, rfl, HNI⟩
    case round =>
      obtain ⟨k, hk, rfl, HI⟩ := hrel
      rcases Nat.lt_or_ge k M.p.n with hlt | hge
      · obtain ⟨pb, po, xx, hA, hpl, hx, hc⟩ := IR.at_ (HCW.out wr HI.out.lo).p hlt
        have hpx := hpo xx (List.mem_of_getElem? hx)
        obtain ⟨r1, l1, a1⟩ := xx
        dsimp only at hpx
        obtain ⟨rN, rfl⟩ : ∃ m : Nat, r1 = m := ⟨r1.toNat, by omega⟩
        obtain ⟨lN, rfl⟩ : ∃ m : Nat, l1 = m := ⟨l1.toNat, by omega⟩
        have hrN : rN < x.rs.length := by omega
        have hlN : lN < x.ls.length := by omega
        have d0 : wr.cell? ⟨pb, po + k * 3, none⟩ = some (.int .i64 (rN : Int)) := hc 0 _ rfl
        have d1 : wr.cell? ⟨pb, po + k * 3 + 1, none⟩ = some (.int .i64 (lN : Int)) := hc 1 _ rfl
        have d2 : wr.cell? ⟨pb, po + k * 3 + 2, none⟩ = some (.int .u32 a1) := hc 2 _ rfl
        have hi0 : (k : Int) < (M.p.n : Int) := by omega
        have HX := Lib.hid hx
        clear hc hx hpl hpx
        rw [HPA.out] at hA
        subst hA
        go_wp2
        have HB5 := Lib.hid ((Below.refl wr.heap.size wr).alloc (Nat.le_refl _) (.cells #[.int .i64 (rN : Int), .int .i64 (lN : Int), .int .u32 a1] 80))
        have HVB : Hid (Blk (wr.alloc (.cells #[.int .i64 (rN : Int), .int .i64 (lN : Int), .int .u32 a1] 80)) wr.heap.size 80 #[.int .i64 (rN : Int), .int .i64 (lN : Int), .int .u32 a1]) := Lib.hid (Blk.new _ _ _)
        have HI5 := Lib.hid (HI.out.next HB5.out)
        clear d0 d1 d2
        generalize wr.alloc (.cells #[.int .i64 (rN : Int), .int .i64 (lN : Int), .int .u32 a1] 80) = W5 at *
        generalize wr.heap.size = PB at *
        clear HB5
        have HRT := Lib.hid HI5.out.tab
        have HLO5 := Lib.hid HI5.out.lo
        have HBN5 := Lib.hid (HI5.out.fr.blk HBN.out (by decide) (by decide))
        have hl0 : lN < sizes x 0 := by simpa [sizes] using hlN
        have hr1 : rN < sizes x 1 := by simpa [sizes] using hrN
        have hlM : lN < M.l.n := by have := HC.out.l.len; omega
        have hrM : rN < M.r.n := by have := HC.out.r.len; omega
        obtain ⟨vl, hcv, hov⟩ := HRT.out.cell (t := 0) (by decide) hl0
        have C13 : Hid (W5.cell? ⟨g0, lN, none⟩ = some vl) := Lib.hid hcv
        have HVLT : Hid (∀ g, vl.ownBlock = some g → g < W5.heap.size) := Lib.hid fun g hg => (hov.lt g hg).2
        have HVO : Hid (W5.ownsRow W1.heap.size 3 1 vl (tabs x k k 0 0 lN).length (I64 (tabs x k k 0 0 lN))) := Lib.hid hov
        have HLL : Hid ((tabs x k k 0 0 lN).length ≤ 1000000) := Lib.hid (tabs_len _ _ _ _ _ _ _ (by omega) (by omega) (by omega))
        have C3 : Hid (W5.cell? ⟨N, 7, none⟩ = some (.slice (some ⟨g0, 0, none⟩) M.l.n M.l.n)) := Lib.hid (HBN5.out.cell 7)
        have R3 : Hid (vl.ownBlock ≠ some N) := Lib.hid (HRT.out.row_ne (by decide) hl0 hcv HBN5.out (by decide))
        have C5 : Hid (W5.cell? ⟨PB, 1, none⟩ = some (.int .i64 (lN : Nat))) := Lib.hid (HVB.out.cell 1)
        have R5 : Hid (vl.ownBlock ≠ some PB) := Lib.hid (HRT.out.row_ne (by decide) hl0 hcv HVB.out (by decide))
        have R13 : Hid (vl.ownBlock ≠ some g0) := Lib.hid (by
          obtain ⟨cs, _, hb⟩ := HRT.out.tab 0 (by decide)
          exact HRT.out.row_ne (by decide) hl0 hcv hb (by decide))
        clear hcv hov
        refine wp_region_held_drew (S := fun _ => True) (by kernel_rfl) trivial (fun _ => ?_)
        refine wpAnyH_each (md := .any) (m := 1) (rem := [0, 1, 2, 3, 4, 5, 6, 7, 8, 9, 10, 11, 12, 13, 14, 15, 16, 17]) (tail := [18]) (deps := fun i => match i with | 1 => [0] | 2 => [1] | 3 => [2] | 5 => [4] | 7 => [6] | 8 => [7] | 9 => [8] | 11 => [10] | 12 => [9, 11] | 13 => [12] | 15 => [14] | 16 => [13, 15] | 17 => [3, 5] | _ => []) (Tg W5 vl.ownBlock 16) (Kg vl.ownBlock 15 16)
          (fun i ds v W => match i with | 0 => v = .pointer (some ⟨N, 0, none⟩) | 1 => v = .pointer (some ⟨N, 0, none⟩) | 2 => v = .pointer (some ⟨N, 7, none⟩) | 3 => v = .slice (some ⟨g0, 0, none⟩) M.l.n M.l.n | 4 => v = .pointer (some ⟨PB, 1, none⟩) | 5 => v = .int .i64 (lN : Nat) | 6 => v = .pointer (some ⟨N, 0, none⟩) | 7 => v = .pointer (some ⟨N, 0, none⟩) | 8 => v = .pointer (some ⟨N, 7, none⟩) | 9 => v = .slice (some ⟨g0, 0, none⟩) M.l.n M.l.n | 10 => v = .pointer (some ⟨PB, 1, none⟩) | 11 => v = .int .i64 (lN : Nat) | 12 => v = .pointer (some ⟨g0, lN, none⟩) | 13 => v = vl | 14 => v = .int .i64 (k : Nat) | 17 => v = .pointer (some ⟨g0, lN, none⟩) | 15 => ∃ h, v = .slice (some ⟨h, 0, none⟩) 1 1 ∧ W5.heap.size ≤ h ∧ Blk W h 3 #[.int .i64 (k : Nat)] | 16 => W.ownsRow W1.heap.size 3 1 v ((tabs x k k 0 0 lN).length + 1) (I64 (tabs x k k 0 0 lN) ++ [.int .i64 (k : Nat)]) ∧ (v.ownBlock = vl.ownBlock ∨ ∃ h, v.ownBlock = some h ∧ W5.heap.size ≤ h) | _ => True) (eachB_spec (by kernel_rfl)) (fun _ _ _ _ _ _ _ h k => h.step k) (fun _ _ _ => trivial) ?_ (fun _ _ _ _ => True) (fun _ _ _ _ _ _ _ _ _ _ _ _ _ _ => ⟨trivial, trivial⟩) ?_ ?_ (Tg.nil (Below.refl _ _).drew)
        · intro i hi j _ hij hjd ds v u l W W' _ _ hk h
          simp only [List.mem_cons, List.not_mem_nil, or_false] at hi
          rcases hi with rfl | rfl | rfl | rfl | rfl | rfl | rfl | rfl | rfl | rfl | rfl | rfl | rfl | rfl | rfl | rfl | rfl | rfl
          · exact h
          · exact h
          · exact h
          · exact h
          · exact h
          · exact h
          · exact h
          · exact h
          · exact h
          · exact h
          · exact h
          · exact h
          · exact h
          · exact h
          · exact h
          · obtain ⟨h', e, hs, hb⟩ := h
            exact ⟨h', e, hs, (hk.grown.block h' hb.lt (fun e => by have := HVLT.out h' e.symm; omega)).trans hb⟩
          · have e := hk.is_ (Ne.symm hij) (fun e => hjd (by rw [e]; simp))
            subst e
            exact h
          · exact h
        · refine AllO.cons [] rfl rfl (fun vs l W hl hT hd => ?_) ?_
          · dsimp only [lay, List.foldl, List.map, dstOf]
            go_wp2
            exact ⟨rfl, _, rfl, Kg.quiet (by decide) (by decide), rfl⟩
          refine AllO.cons [0] rfl rfl (fun vs l W hl hT hd => ?_) ?_
          · have e0 : vs 0 = .pointer (some ⟨N, 0, none⟩) := hd 0 (by simp)
            dsimp only [lay, List.foldl, List.map, dstOf]
            rw [e0]
            go_wp2
            exact ⟨rfl, _, rfl, Kg.quiet (by decide) (by decide), rfl⟩
          refine AllO.cons [1] rfl rfl (fun vs l W hl hT hd => ?_) ?_
          · have e1 : vs 1 = .pointer (some ⟨N, 0, none⟩) := hd 1 (by simp)
            dsimp only [lay, List.foldl, List.map, dstOf]
            rw [e1]
            go_wp2
            exact ⟨rfl, _, rfl, Kg.quiet (by decide) (by decide), rfl⟩
          refine AllO.cons [2] rfl rfl (fun vs l W hl hT hd => ?_) ?_
          · have e2 : vs 2 = .pointer (some ⟨N, 7, none⟩) := hd 2 (by simp)
            have c3 : W.cell? ⟨N, 7, none⟩ = some (.slice (some ⟨g0, 0, none⟩) M.l.n M.l.n) := hT.cell C3.out R3.out
            dsimp only [lay, List.foldl, List.map, dstOf]
            rw [e2]
            go_wp2
            exact ⟨rfl, _, rfl, Kg.quiet (by decide) (by decide), rfl⟩
          refine AllO.cons [] rfl rfl (fun vs l W hl hT hd => ?_) ?_
          · dsimp only [lay, List.foldl, List.map, dstOf]
            go_wp2
            exact ⟨rfl, _, rfl, Kg.quiet (by decide) (by decide), rfl⟩
          refine AllO.cons [4] rfl rfl (fun vs l W hl hT hd => ?_) ?_
          · have e4 : vs 4 = .pointer (some ⟨PB, 1, none⟩) := hd 4 (by simp)
            have c5 : W.cell? ⟨PB, 1, none⟩ = some (.int .i64 (lN : Nat)) := hT.cell C5.out R5.out
            dsimp only [lay, List.foldl, List.map, dstOf]
            rw [e4]
            go_wp2
            exact ⟨rfl, _, rfl, Kg.quiet (by decide) (by decide), rfl⟩
          refine AllO.cons [] rfl rfl (fun vs l W hl hT hd => ?_) ?_
          · dsimp only [lay, List.foldl, List.map, dstOf]
            go_wp2
            exact ⟨rfl, _, rfl, Kg.quiet (by decide) (by decide), rfl⟩
          refine AllO.cons [6] rfl rfl (fun vs l W hl hT hd => ?_) ?_
          · have e6 : vs 6 = .pointer (some ⟨N, 0, none⟩) := hd 6 (by simp)
            dsimp only [lay, List.foldl, List.map, dstOf]
            rw [e6]
            go_wp2
            exact ⟨rfl, _, rfl, Kg.quiet (by decide) (by decide), rfl⟩
          refine AllO.cons [7] rfl rfl (fun vs l W hl hT hd => ?_) ?_
          · have e7 : vs 7 = .pointer (some ⟨N, 0, none⟩) := hd 7 (by simp)
            dsimp only [lay, List.foldl, List.map, dstOf]
            rw [e7]
            go_wp2
            exact ⟨rfl, _, rfl, Kg.quiet (by decide) (by decide), rfl⟩
          refine AllO.cons [8] rfl rfl (fun vs l W hl hT hd => ?_) ?_
          · have e8 : vs 8 = .pointer (some ⟨N, 7, none⟩) := hd 8 (by simp)
            have c3 : W.cell? ⟨N, 7, none⟩ = some (.slice (some ⟨g0, 0, none⟩) M.l.n M.l.n) := hT.cell C3.out R3.out
            dsimp only [lay, List.foldl, List.map, dstOf]
            rw [e8]
            go_wp2
            exact ⟨rfl, _, rfl, Kg.quiet (by decide) (by decide), rfl⟩
          refine AllO.cons [] rfl rfl (fun vs l W hl hT hd => ?_) ?_
          · dsimp only [lay, List.foldl, List.map, dstOf]
            go_wp2
            exact ⟨rfl, _, rfl, Kg.quiet (by decide) (by decide), rfl⟩
          refine AllO.cons [10] rfl rfl (fun vs l W hl hT hd => ?_) ?_
          · have e10 : vs 10 = .pointer (some ⟨PB, 1, none⟩) := hd 10 (by simp)
            have c5 : W.cell? ⟨PB, 1, none⟩ = some (.int .i64 (lN : Nat)) := hT.cell C5.out R5.out
            dsimp only [lay, List.foldl, List.map, dstOf]
            rw [e10]
            go_wp2
            exact ⟨rfl, _, rfl, Kg.quiet (by decide) (by decide), rfl⟩
          refine AllO.cons [9, 11] rfl rfl (fun vs l W hl hT hd => ?_) ?_
          · have e9 : vs 9 = .slice (some ⟨g0, 0, none⟩) M.l.n M.l.n := hd 9 (by simp)
            have e11 : vs 11 = .int .i64 (lN : Nat) := hd 11 (by simp)
            have hib : ((lN : Nat) : Int) < ((M.l.n : Nat) : Int) := by omega
            dsimp only [lay, List.foldl, List.map, dstOf]
            rw [e9, e11]
            go_wp2
            exact ⟨rfl, _, rfl, Kg.quiet (by decide) (by decide), rfl⟩
          refine AllO.cons [12] rfl rfl (fun vs l W hl hT hd => ?_) ?_
          · have e12 : vs 12 = .pointer (some ⟨g0, lN, none⟩) := hd 12 (by simp)
            have c13 : W.cell? ⟨g0, lN, none⟩ = some vl := hT.cell C13.out R13.out
            dsimp only [lay, List.foldl, List.map, dstOf]
            rw [e12]
            go_wp2
            exact ⟨rfl, _, rfl, Kg.quiet (by decide) (by decide), rfl⟩
          refine AllO.cons [] rfl rfl (fun vs l W hl hT hd => ?_) ?_
          · dsimp only [lay, List.foldl, List.map, dstOf]
            go_wp2
            exact ⟨rfl, _, rfl, Kg.quiet (by decide) (by decide), rfl⟩
          refine AllO.cons [14] rfl rfl (fun vs l W hl hT hd => ?_) ?_
          · have e14 : vs 14 = .int .i64 (k : Nat) := hd 14 (by simp)
            dsimp only [lay, List.foldl, List.map, dstOf]
            rw [e14]
            go_wp2
            exact ⟨rfl, _, rfl, Kg.new ((Below.refl _ _).alloc (Nat.le_refl _) _) (by decide), _, rfl, hT.grown.size, Blk.new _ _ _⟩
          refine AllO.cons [13, 15] rfl rfl (fun vs l W hl hT hd => ?_) ?_
          · have e13 : vs 13 = vl := hd 13 (by simp)
            obtain ⟨h', e15, hs', hb'⟩ := hd 15 (by simp)
            dsimp only [lay, List.foldl, List.map, dstOf]
            rw [e13, e15]
            obtain ⟨i0, hi, hz0, hz1, hz2⟩ := info_parts info_int
            have hbp := hT.pre hl
            refine wpList_append_own_at _ rfl _ _ 52 rfl W1.heap.size 3 i0 (.int .i64 0) 1 8 Tryz.underlying52 hi hz0 hz1 hz2 rfl (by decide) vl (tabs x k k 0 0 lN).length (I64 (tabs x k k 0 0 lN)) (by rfl) (ownk_next HVO.out hbp) ⟨h', 0, none⟩ 1 1 [.int .i64 (k : Nat)] (by rfl) rfl (fun j u hj => by
              rcases j with _ | j
              · simp at hj; subst hj; exact hb'.cell 0
              · simp at hj) (by intro x hx; simp at hx; subst hx; rfl) (by have := HLL.out; unfold maxLen; omega) (by have := HLL.out; omega) (Nat.le_trans HLO5.out.size hT.grown.size) ?_
            intro v' w' hown hg _ hat
            refine wpList_nil ?_
            exact ⟨rfl, _, rfl, Kg.app hg, hown, hat.imp id (fun e => ⟨_, e, hT.grown.size⟩)⟩
          refine AllO.cons [3, 5] rfl rfl (fun vs l W hl hT hd => ?_) AllO.nil
          · have e3 : vs 3 = .slice (some ⟨g0, 0, none⟩) M.l.n M.l.n := hd 3 (by simp)
            have e5 : vs 5 = .int .i64 (lN : Nat) := hd 5 (by simp)
            have hib : ((lN : Nat) : Int) < ((M.l.n : Nat) : Int) := by omega
            dsimp only [lay, List.foldl, List.map, dstOf]
            rw [e3, e5]
            go_wp2
            exact ⟨rfl, _, rfl, Kg.quiet (by decide) (by decide), rfl⟩
        · intro vs l W hall hT hF _ aE LE ha hL
          have e0 : vs 0 = .pointer (some ⟨N, 0, none⟩) := hF 0 (by simp)
          have e1 : vs 1 = .pointer (some ⟨N, 0, none⟩) := hF 1 (by simp)
          have e2 : vs 2 = .pointer (some ⟨N, 7, none⟩) := hF 2 (by simp)
          have e3 : vs 3 = .slice (some ⟨g0, 0, none⟩) M.l.n M.l.n := hF 3 (by simp)
          have e4 : vs 4 = .pointer (some ⟨PB, 1, none⟩) := hF 4 (by simp)
          have e5 : vs 5 = .int .i64 (lN : Nat) := hF 5 (by simp)
          have e6 : vs 6 = .pointer (some ⟨N, 0, none⟩) := hF 6 (by simp)
          have e7 : vs 7 = .pointer (some ⟨N, 0, none⟩) := hF 7 (by simp)
          have e8 : vs 8 = .pointer (some ⟨N, 7, none⟩) := hF 8 (by simp)
          have e9 : vs 9 = .slice (some ⟨g0, 0, none⟩) M.l.n M.l.n := hF 9 (by simp)
          have e10 : vs 10 = .pointer (some ⟨PB, 1, none⟩) := hF 10 (by simp)
          have e11 : vs 11 = .int .i64 (lN : Nat) := hF 11 (by simp)
          have e12 : vs 12 = .pointer (some ⟨g0, lN, none⟩) := hF 12 (by simp)
          have e13 : vs 13 = vl := hF 13 (by simp)
          have e14 : vs 14 = .int .i64 (k : Nat) := hF 14 (by simp)
          have e17 : vs 17 = .pointer (some ⟨g0, lN, none⟩) := hF 17 (by simp)
          obtain ⟨h15, e15, -, -⟩ := hF 15 (by simp)
          obtain ⟨hown16, hat16⟩ := hF 16 (by simp)
          have hL' : LE = #[true, true, true, true, true, true, true, true, true, true, true, true, true, true, true, true, true, true, false] := hL.trans (by kernel_rfl)
          dsimp only [lay, List.foldl, dstOf] at ha
          rw [e0, e1, e2, e3, e4, e5, e6, e7, e8, e9, e10, e11, e12, e13, e14, e15, e17] at ha
          clear e0 e1 e2 e3 e4 e5 e6 e7 e8 e9 e10 e11 e12 e13 e14 e15 e17 hL hF
          subst ha hL'
          generalize vs 16 = v16 at *
          obtain ⟨g16, cap16, rfl⟩ := ownsRow_succ hown16
          have c13 : W.cell? ⟨g0, lN, none⟩ = some vl := hT.cell C13.out R13.out
          have f13 : W.frozen? ⟨g0, lN, none⟩ = false := by
            obtain ⟨cs, _, hb⟩ := HRT.out.tab 0 (by decide)
            exact (hT.blk hb (HRT.out.row_ne (by decide) hl0 C13.out hb (by decide))).frozen _
          obtain ⟨hrt', hfr', hlo', hmp'⟩ := HRT.out.stepG (t := 0) (gt := g0) rfl (by decide) hl0 C13.out hown16 hT.grown hat16
          refine wpAnyH_ready (rs := [18]) (by kernel_rfl) (by simp) ?_
          refine AllReadyH.cons rfl (fun K hK => ?_) AllReadyH.nil
          go_simp
          refine hK.out _ _ trivial (fun _ => ?_)
          clear hK
          clear K
          refine wpAnyH_done (by kernel_rfl) ?_ _
          have HRT1 := Lib.hid hrt'
          have HFR1 := Lib.hid hfr'
          have HLO1 := Lib.hid hlo'
          have HMP1 := Lib.hid hmp'
          clear hrt' hfr' hlo' hmp' c13 f13 hown16 hat16 hall
          generalize W.setCell ⟨g0, lN, none⟩ (.slice (some ⟨g16, 0, none⟩) ((tabs x k k 0 0 lN).length + 1) cap16) = W6 at *
          clear hT
          clear C13 HVLT HVO HLL C3 R3 C5 R5 R13
          have HRT2 : Hid (RT W1.heap.size (fun t => if t = 0 then g0 else if t = 1 then g1 else g2) (sizes x) (tabs x (k + 1) k 0) W6) := Lib.hid (by rw [← tabs_0 HX.out rfl]; exact HRT1.out)
          have HI6 := Lib.hid (HI5.out.row HFR1.out (HLO1.out _ _ (Nat.le_refl _)) HRT2.out HMP1.out)
          have HVB6 := Lib.hid (HFR1.out.blk HVB.out (by decide) (by decide))
          have HBN6 := Lib.hid (HI6.out.fr.blk HBN.out (by decide) (by decide))
          have HLO6 := Lib.hid HI6.out.lo
          clear HRT HRT1 HFR1 HLO1 HMP1 HVB HBN5 HLO5 HI5
          clear W5
          go_wp2
          obtain ⟨vl, hcv, hov⟩ := HRT2.out.cell (t := 1) (by decide) hr1
          have C13 : Hid (W6.cell? ⟨g1, rN, none⟩ = some vl) := Lib.hid hcv
          have HVLT : Hid (∀ g, vl.ownBlock = some g → g < W6.heap.size) := Lib.hid fun g hg => (hov.lt g hg).2
          have HVO : Hid (W6.ownsRow W1.heap.size 3 1 vl (tabs x (k + 1) k 0 1 rN).length (I64 (tabs x (k + 1) k 0 1 rN))) := Lib.hid hov
          have HLL : Hid ((tabs x (k + 1) k 0 1 rN).length ≤ 1000000) := Lib.hid (tabs_len _ _ _ _ _ _ _ (by omega) (by omega) (by omega))
          have C3 : Hid (W6.cell? ⟨N, 8, none⟩ = some (.slice (some ⟨g1, 0, none⟩) M.r.n M.r.n)) := Lib.hid (HBN6.out.cell 8)
          have R3 : Hid (vl.ownBlock ≠ some N) := Lib.hid (HRT2.out.row_ne (by decide) hr1 hcv HBN6.out (by decide))
          have C5 : Hid (W6.cell? ⟨PB, 0, none⟩ = some (.int .i64 (rN : Nat))) := Lib.hid (HVB6.out.cell 0)
          have R5 : Hid (vl.ownBlock ≠ some PB) := Lib.hid (HRT2.out.row_ne (by decide) hr1 hcv HVB6.out (by decide))
          have R13 : Hid (vl.ownBlock ≠ some g1) := Lib.hid (by
            obtain ⟨cs, _, hb⟩ := HRT2.out.tab 1 (by decide)
            exact HRT2.out.row_ne (by decide) hr1 hcv hb (by decide))
          clear hcv hov
          refine wp_region_held_drew (S := fun _ => True) (by kernel_rfl) trivial (fun _ => ?_)
          refine wpAnyH_each (md := .any) (m := 1) (rem := [0, 1, 2, 3, 4, 5, 6, 7, 8, 9, 10, 11, 12, 13, 14, 15, 16, 17]) (tail := [18]) (deps := fun i => match i with | 1 => [0] | 2 => [1] | 3 => [2] | 5 => [4] | 7 => [6] | 8 => [7] | 9 => [8] | 11 => [10] | 12 => [9, 11] | 13 => [12] | 15 => [14] | 16 => [13, 15] | 17 => [3, 5] | _ => []) (Tg W6 vl.ownBlock 16) (Kg vl.ownBlock 15 16)
            (fun i ds v W => match i with | 0 => v = .pointer (some ⟨N, 0, none⟩) | 1 => v = .pointer (some ⟨N, 0, none⟩) | 2 => v = .pointer (some ⟨N, 8, none⟩) | 3 => v = .slice (some ⟨g1, 0, none⟩) M.r.n M.r.n | 4 => v = .pointer (some ⟨PB, 0, none⟩) | 5 => v = .int .i64 (rN : Nat) | 6 => v = .pointer (some ⟨N, 0, none⟩) | 7 => v = .pointer (some ⟨N, 0, none⟩) | 8 => v = .pointer (some ⟨N, 8, none⟩) | 9 => v = .slice (some ⟨g1, 0, none⟩) M.r.n M.r.n | 10 => v = .pointer (some ⟨PB, 0, none⟩) | 11 => v = .int .i64 (rN : Nat) | 12 => v = .pointer (some ⟨g1, rN, none⟩) | 13 => v = vl | 14 => v = .int .i64 (k : Nat) | 17 => v = .pointer (some ⟨g1, rN, none⟩) | 15 => ∃ h, v = .slice (some ⟨h, 0, none⟩) 1 1 ∧ W6.heap.size ≤ h ∧ Blk W h 3 #[.int .i64 (k : Nat)] | 16 => W.ownsRow W1.heap.size 3 1 v ((tabs x (k + 1) k 0 1 rN).length + 1) (I64 (tabs x (k + 1) k 0 1 rN) ++ [.int .i64 (k : Nat)]) ∧ (v.ownBlock = vl.ownBlock ∨ ∃ h, v.ownBlock = some h ∧ W6.heap.size ≤ h) | _ => True) (eachB_spec (by kernel_rfl)) (fun _ _ _ _ _ _ _ h k => h.step k) (fun _ _ _ => trivial) ?_ (fun _ _ _ _ => True) (fun _ _ _ _ _ _ _ _ _ _ _ _ _ _ => ⟨trivial, trivial⟩) ?_ ?_ (Tg.nil (Below.refl _ _).drew)
          · intro i hi j _ hij hjd ds v u l W W' _ _ hk h
            simp only [List.mem_cons, List.not_mem_nil, or_false] at hi
            rcases hi with rfl | rfl | rfl | rfl | rfl | rfl | rfl | rfl | rfl | rfl | rfl | rfl | rfl | rfl | rfl | rfl | rfl | rfl
            · exact h
            · exact h
            · exact h
            · exact h
            · exact h
            · exact h
            · exact h
            · exact h
            · exact h
            · exact h
            · exact h
            · exact h
            · exact h
            · exact h
            · exact h
            · obtain ⟨h', e, hs, hb⟩ := h
              exact ⟨h', e, hs, (hk.grown.block h' hb.lt (fun e => by have := HVLT.out h' e.symm; omega)).trans hb⟩
            · have e := hk.is_ (Ne.symm hij) (fun e => hjd (by rw [e]; simp))
              subst e
              exact h
            · exact h
          · refine AllO.cons [] rfl rfl (fun vs l W hl hT hd => ?_) ?_
            · dsimp only [lay, List.foldl, List.map, dstOf]
              go_wp2
              exact ⟨rfl, _, rfl, Kg.quiet (by decide) (by decide), rfl⟩
            refine AllO.cons [0] rfl rfl (fun vs l W hl hT hd => ?_) ?_
            · have e0 : vs 0 = .pointer (some ⟨N, 0, none⟩) := hd 0 (by simp)
              dsimp only [lay, List.foldl, List.map, dstOf]
              rw [e0]
              go_wp2
              exact ⟨rfl, _, rfl, Kg.quiet (by decide) (by decide), rfl⟩
            refine AllO.cons [1] rfl rfl (fun vs l W hl hT hd => ?_) ?_
            · have e1 : vs 1 = .pointer (some ⟨N, 0, none⟩) := hd 1 (by simp)
              dsimp only [lay, List.foldl, List.map, dstOf]
              rw [e1]
              go_wp2
              exact ⟨rfl, _, rfl, Kg.quiet (by decide) (by decide), rfl⟩
            refine AllO.cons [2] rfl rfl (fun vs l W hl hT hd => ?_) ?_
            · have e2 : vs 2 = .pointer (some ⟨N, 8, none⟩) := hd 2 (by simp)
              have c3 : W.cell? ⟨N, 8, none⟩ = some (.slice (some ⟨g1, 0, none⟩) M.r.n M.r.n) := hT.cell C3.out R3.out
              dsimp only [lay, List.foldl, List.map, dstOf]
              rw [e2]
              go_wp2
              exact ⟨rfl, _, rfl, Kg.quiet (by decide) (by decide), rfl⟩
            refine AllO.cons [] rfl rfl (fun vs l W hl hT hd => ?_) ?_
            · dsimp only [lay, List.foldl, List.map, dstOf]
              go_wp2
              exact ⟨rfl, _, rfl, Kg.quiet (by decide) (by decide), rfl⟩
            refine AllO.cons [4] rfl rfl (fun vs l W hl hT hd => ?_) ?_
            · have e4 : vs 4 = .pointer (some ⟨PB, 0, none⟩) := hd 4 (by simp)
              have c5 : W.cell? ⟨PB, 0, none⟩ = some (.int .i64 (rN : Nat)) := hT.cell C5.out R5.out
              dsimp only [lay, List.foldl, List.map, dstOf]
              rw [e4]
              go_wp2
              exact ⟨rfl, _, rfl, Kg.quiet (by decide) (by decide), rfl⟩
            refine AllO.cons [] rfl rfl (fun vs l W hl hT hd => ?_) ?_
            · dsimp only [lay, List.foldl, List.map, dstOf]
              go_wp2
              exact ⟨rfl, _, rfl, Kg.quiet (by decide) (by decide), rfl⟩
            refine AllO.cons [6] rfl rfl (fun vs l W hl hT hd => ?_) ?_
            · have e6 : vs 6 = .pointer (some ⟨N, 0, none⟩) := hd 6 (by simp)
              dsimp only [lay, List.foldl, List.map, dstOf]
              rw [e6]
              go_wp2
              exact ⟨rfl, _, rfl, Kg.quiet (by decide) (by decide), rfl⟩
            refine AllO.cons [7] rfl rfl (fun vs l W hl hT hd => ?_) ?_
            · have e7 : vs 7 = .pointer (some ⟨N, 0, none⟩) := hd 7 (by simp)
              dsimp only [lay, List.foldl, List.map, dstOf]
              rw [e7]
              go_wp2
              exact ⟨rfl, _, rfl, Kg.quiet (by decide) (by decide), rfl⟩
            refine AllO.cons [8] rfl rfl (fun vs l W hl hT hd => ?_) ?_
            · have e8 : vs 8 = .pointer (some ⟨N, 8, none⟩) := hd 8 (by simp)
              have c3 : W.cell? ⟨N, 8, none⟩ = some (.slice (some ⟨g1, 0, none⟩) M.r.n M.r.n) := hT.cell C3.out R3.out
              dsimp only [lay, List.foldl, List.map, dstOf]
              rw [e8]
              go_wp2
              exact ⟨rfl, _, rfl, Kg.quiet (by decide) (by decide), rfl⟩
            refine AllO.cons [] rfl rfl (fun vs l W hl hT hd => ?_) ?_
            · dsimp only [lay, List.foldl, List.map, dstOf]
              go_wp2
              exact ⟨rfl, _, rfl, Kg.quiet (by decide) (by decide), rfl⟩
            refine AllO.cons [10] rfl rfl (fun vs l W hl hT hd => ?_) ?_
            · have e10 : vs 10 = .pointer (some ⟨PB, 0, none⟩) := hd 10 (by simp)
              have c5 : W.cell? ⟨PB, 0, none⟩ = some (.int .i64 (rN : Nat)) := hT.cell C5.out R5.out
              dsimp only [lay, List.foldl, List.map, dstOf]
              rw [e10]
              go_wp2
              exact ⟨rfl, _, rfl, Kg.quiet (by decide) (by decide), rfl⟩
            refine AllO.cons [9, 11] rfl rfl (fun vs l W hl hT hd => ?_) ?_
            · have e9 : vs 9 = .slice (some ⟨g1, 0, none⟩) M.r.n M.r.n := hd 9 (by simp)
              have e11 : vs 11 = .int .i64 (rN : Nat) := hd 11 (by simp)
              have hib : ((rN : Nat) : Int) < ((M.r.n : Nat) : Int) := by omega
              dsimp only [lay, List.foldl, List.map, dstOf]
              rw [e9, e11]
              go_wp2
              exact ⟨rfl, _, rfl, Kg.quiet (by decide) (by decide), rfl⟩
            refine AllO.cons [12] rfl rfl (fun vs l W hl hT hd => ?_) ?_
            · have e12 : vs 12 = .pointer (some ⟨g1, rN, none⟩) := hd 12 (by simp)
              have c13 : W.cell? ⟨g1, rN, none⟩ = some vl := hT.cell C13.out R13.out
              dsimp only [lay, List.foldl, List.map, dstOf]
              rw [e12]
              go_wp2
              exact ⟨rfl, _, rfl, Kg.quiet (by decide) (by decide), rfl⟩
            refine AllO.cons [] rfl rfl (fun vs l W hl hT hd => ?_) ?_
            · dsimp only [lay, List.foldl, List.map, dstOf]
              go_wp2
              exact ⟨rfl, _, rfl, Kg.quiet (by decide) (by decide), rfl⟩
            refine AllO.cons [14] rfl rfl (fun vs l W hl hT hd => ?_) ?_
            · have e14 : vs 14 = .int .i64 (k : Nat) := hd 14 (by simp)
              dsimp only [lay, List.foldl, List.map, dstOf]
              rw [e14]
              go_wp2
              exact ⟨rfl, _, rfl, Kg.new ((Below.refl _ _).alloc (Nat.le_refl _) _) (by decide), _, rfl, hT.grown.size, Blk.new _ _ _⟩
            refine AllO.cons [13, 15] rfl rfl (fun vs l W hl hT hd => ?_) ?_
            · have e13 : vs 13 = vl := hd 13 (by simp)
              obtain ⟨h', e15, hs', hb'⟩ := hd 15 (by simp)
              dsimp only [lay, List.foldl, List.map, dstOf]
              rw [e13, e15]
              obtain ⟨i0, hi, hz0, hz1, hz2⟩ := info_parts info_int
              have hbp := hT.pre hl
              refine wpList_append_own_at _ rfl _ _ 52 rfl W1.heap.size 3 i0 (.int .i64 0) 1 8 Tryz.underlying52 hi hz0 hz1 hz2 rfl (by decide) vl (tabs x (k + 1) k 0 1 rN).length (I64 (tabs x (k + 1) k 0 1 rN)) (by rfl) (ownk_next HVO.out hbp) ⟨h', 0, none⟩ 1 1 [.int .i64 (k : Nat)] (by rfl) rfl (fun j u hj => by
                rcases j with _ | j
                · simp at hj; subst hj; exact hb'.cell 0
                · simp at hj) (by intro x hx; simp at hx; subst hx; rfl) (by have := HLL.out; unfold maxLen; omega) (by have := HLL.out; omega) (Nat.le_trans HLO6.out.size hT.grown.size) ?_
              intro v' w' hown hg _ hat
              refine wpList_nil ?_
              exact ⟨rfl, _, rfl, Kg.app hg, hown, hat.imp id (fun e => ⟨_, e, hT.grown.size⟩)⟩
            refine AllO.cons [3, 5] rfl rfl (fun vs l W hl hT hd => ?_) AllO.nil
            · have e3 : vs 3 = .slice (some ⟨g1, 0, none⟩) M.r.n M.r.n := hd 3 (by simp)
              have e5 : vs 5 = .int .i64 (rN : Nat) := hd 5 (by simp)
              have hib : ((rN : Nat) : Int) < ((M.r.n : Nat) : Int) := by omega
              dsimp only [lay, List.foldl, List.map, dstOf]
              rw [e3, e5]
              go_wp2
              exact ⟨rfl, _, rfl, Kg.quiet (by decide) (by decide), rfl⟩
          · intro vs l W hall hT hF _ aE LE ha hL
            have e0 : vs 0 = .pointer (some ⟨N, 0, none⟩) := hF 0 (by simp)
            have e1 : vs 1 = .pointer (some ⟨N, 0, none⟩) := hF 1 (by simp)
            have e2 : vs 2 = .pointer (some ⟨N, 8, none⟩) := hF 2 (by simp)
            have e3 : vs 3 = .slice (some ⟨g1, 0, none⟩) M.r.n M.r.n := hF 3 (by simp)
            have e4 : vs 4 = .pointer (some ⟨PB, 0, none⟩) := hF 4 (by simp)
            have e5 : vs 5 = .int .i64 (rN : Nat) := hF 5 (by simp)
            have e6 : vs 6 = .pointer (some ⟨N, 0, none⟩) := hF 6 (by simp)
            have e7 : vs 7 = .pointer (some ⟨N, 0, none⟩) := hF 7 (by simp)
            have e8 : vs 8 = .pointer (some ⟨N, 8, none⟩) := hF 8 (by simp)
            have e9 : vs 9 = .slice (some ⟨g1, 0, none⟩) M.r.n M.r.n := hF 9 (by simp)
            have e10 : vs 10 = .pointer (some ⟨PB, 0, none⟩) := hF 10 (by simp)
            have e11 : vs 11 = .int .i64 (rN : Nat) := hF 11 (by simp)
            have e12 : vs 12 = .pointer (some ⟨g1, rN, none⟩) := hF 12 (by simp)
            have e13 : vs 13 = vl := hF 13 (by simp)
            have e14 : vs 14 = .int .i64 (k : Nat) := hF 14 (by simp)
            have e17 : vs 17 = .pointer (some ⟨g1, rN, none⟩) := hF 17 (by simp)
            obtain ⟨h15, e15, -, -⟩ := hF 15 (by simp)
            obtain ⟨hown16, hat16⟩ := hF 16 (by simp)
            have hL' : LE = #[true, true, true, true, true, true, true, true, true, true, true, true, true, true, true, true, true, true, false] := hL.trans (by kernel_rfl)
            dsimp only [lay, List.foldl, dstOf] at ha
            rw [e0, e1, e2, e3, e4, e5, e6, e7, e8, e9, e10, e11, e12, e13, e14, e15, e17] at ha
            clear e0 e1 e2 e3 e4 e5 e6 e7 e8 e9 e10 e11 e12 e13 e14 e15 e17 hL hF
            subst ha hL'
            generalize vs 16 = v16 at *
            obtain ⟨g16, cap16, rfl⟩ := ownsRow_succ hown16
            have c13 : W.cell? ⟨g1, rN, none⟩ = some vl := hT.cell C13.out R13.out
            have f13 : W.frozen? ⟨g1, rN, none⟩ = false := by
              obtain ⟨cs, _, hb⟩ := HRT2.out.tab 1 (by decide)
              exact (hT.blk hb (HRT2.out.row_ne (by decide) hr1 C13.out hb (by decide))).frozen _
            obtain ⟨hrt', hfr', hlo', hmp'⟩ := HRT2.out.stepG (t := 1) (gt := g1) rfl (by decide) hr1 C13.out hown16 hT.grown hat16
            refine wpAnyH_ready (rs := [18]) (by kernel_rfl) (by simp) ?_
            refine AllReadyH.cons rfl (fun K hK => ?_) AllReadyH.nil
            go_simp
            refine hK.out _ _ trivial (fun _ => ?_)
            clear hK
            clear K
            refine wpAnyH_done (by kernel_rfl) ?_ _
            have HRT1 := Lib.hid hrt'
            have HFR1 := Lib.hid hfr'
            have HLO1 := Lib.hid hlo'
            have HMP1 := Lib.hid hmp'
            clear hrt' hfr' hlo' hmp' c13 f13 hown16 hat16 hall
            generalize W.setCell ⟨g1, rN, none⟩ (.slice (some ⟨g16, 0, none⟩) ((tabs x (k + 1) k 0 1 rN).length + 1) cap16) = W7 at *
            clear hT
            clear C13 HVLT HVO HLL C3 R3 C5 R5 R13
            have HRT3 : Hid (RT W1.heap.size (fun t => if t = 0 then g0 else if t = 1 then g1 else g2) (sizes x) (tabs x (k + 1) (k + 1) 0) W7) := Lib.hid (by rw [← tabs_1 HX.out rfl]; exact HRT1.out)
            have HI7 := Lib.hid (HI6.out.row HFR1.out (HLO1.out _ _ (Nat.le_refl _)) HRT3.out HMP1.out)
            have HVB7 := Lib.hid (HFR1.out.blk HVB6.out (by decide) (by decide))
            have HBN7 := Lib.hid (HI7.out.fr.blk HBN.out (by decide) (by decide))
            clear HRT2 HRT3 HRT1 HFR1 HLO1 HMP1 HVB6 HBN6 HLO6 HI6
            clear W6
            obtain ⟨D, hmD, hDi, hDa⟩ := HI7.out.at_
            have hua : U32 a1 := HC.out.ok.2.1 _ (List.mem_of_getElem? HX.out)
            obtain ⟨W8, hrun, hm8, hg8⟩ := hmD.drew.update keyedU Tryz.underlying110 (by unfold maxLen; omega) (keyOf_int_mk Tryz.underlying42 (wf_a hua)) (plainElem_int Tryz.underlying3 (wf_k (k := k) (by omega)))
            have hg8 : W7.grownBy W8 (some mb) := (grown_below (Below.refl _ _).drew).trans hg8
            have HI8 := Lib.hid (NI.put HI7.out HMB.out HX.out hDi hDa hmD hm8 hg8)
            have q0 : ∀ W, W7.grownBy W (some mb) → W.cell? ⟨N, 10, none⟩ = some (.map (some mb)) := fun W hW => grown_cell hW (HBN7.out.cell 10) (map_ne hmD HBN7.out)
            have q1 : ∀ W, W7.grownBy W (some mb) → W.cell? ⟨PB, 2, none⟩ = some (.int .u32 a1) := fun W hW => grown_cell hW (HVB7.out.cell 2) (map_ne hmD HVB7.out)
            clear hmD hDi hDa hm8 hua
            go_wp2
            go_region_held3 (fun w' => W7.grownBy w' (some mb)) (first | with_reducible assumption | exact grown_below (Below.refl _ _).drew) (fail)
            clear q0 q1 hrun hg8
            clear HVB7 HBN7 HI7
            go_wp2
            go_roundw
            case rel => exact ⟨k + 1, by omega, by go_num, HI8⟩
            case measure => simp [intOf]; omega
      · obtain rfl : k = M.p.n := by omega
        have z6 := HY6.out wr HI.out.lo
        go_wp2
        clear z6
        generalize hmA : M.m.A = mA at *
        have HMA := Lib.hid hmA
        clear hmA
        go_loopw [89] (fun i wr => ∃ k : Nat, k ≤ M.m.n ∧ i = .int .i64 k ∧ Hid (NI W1 W4 (fun t => if t = 0 then g0 else if t = 1 then g1 else g2) mb x M.p.n M.p.n k M.p.n wr)) (fun i _ => M.m.n - (intOf i).toNat)
        case atStart => exact ⟨0, Nat.zero_le _, rfl, HI⟩
        case round =>
          clear HI
          obtain ⟨k, hk2, rfl, HI⟩ := hrel
          rcases Nat.lt_or_ge k M.m.n with hlt | hge
          · obtain ⟨pb, po, xx, hA, hpl, hx, hc⟩ := IR.at_ (HCW.out _ HI.out.lo).m hlt
            have hpx := hmo xx (List.mem_of_getElem? hx)
            obtain ⟨l1, g1', o1, Am, nm, cm, xsm⟩ := xx
            dsimp only at hpx
            obtain ⟨lN, rfl⟩ : ∃ m : Nat, l1 = m := ⟨l1.toNat, by omega⟩
            have hlN : lN < x.ls.length := by omega
            have d0 : wr.cell? ⟨pb, po + k * 4, none⟩ = some (.int .i64 (lN : Int)) := hc 0 _ rfl
            have d1 : wr.cell? ⟨pb, po + k * 4 + 1, none⟩ = some (.int .u32 g1') := hc 1 _ rfl
            have d2 : wr.cell? ⟨pb, po + k * 4 + 2, none⟩ = some (.bool o1) := hc 2 _ rfl
            have d3 : wr.cell? ⟨pb, po + k * 4 + 3, none⟩ = some (.slice Am nm cm) := hc 3 _ rfl
            have hi0 : (k : Int) < (M.m.n : Int) := by omega
            have HX := Lib.hid hx
            clear hc hx hpl hpx
            rw [HMA.out] at hA
            subst hA
            go_wp2
            have HB5 := Lib.hid ((Below.refl wr.heap.size wr).alloc (Nat.le_refl _) (.cells #[.int .i64 (lN : Int), .int .u32 g1', .bool o1, .slice Am nm cm] 115))
            have HVB : Hid (Blk (wr.alloc (.cells #[.int .i64 (lN : Int), .int .u32 g1', .bool o1, .slice Am nm cm] 115)) wr.heap.size 115 #[.int .i64 (lN : Int), .int .u32 g1', .bool o1, .slice Am nm cm]) := Lib.hid (Blk.new _ _ _)
            have HI5 := Lib.hid (HI.out.next HB5.out)
            clear d0 d1 d2 d3
            generalize wr.alloc (.cells #[.int .i64 (lN : Int), .int .u32 g1', .bool o1, .slice Am nm cm] 115) = W5 at *
            generalize wr.heap.size = PB at *
            clear HB5
            have HRT := Lib.hid HI5.out.tab
            have HLO5 := Lib.hid HI5.out.lo
            have HBN5 := Lib.hid (HI5.out.fr.blk HBN.out (by decide) (by decide))
            have hl2 : lN < sizes x 2 := by simpa [sizes] using hlN
            have hlM : lN < M.l.n := by have := HC.out.l.len; omega
            obtain ⟨vl, hcv, hov⟩ := HRT.out.cell (t := 2) (by decide) hl2
            have C13 : Hid (W5.cell? ⟨g2, lN, none⟩ = some vl) := Lib.hid hcv
            have HVLT : Hid (∀ g, vl.ownBlock = some g → g < W5.heap.size) := Lib.hid fun g hg => (hov.lt g hg).2
            have HVO : Hid (W5.ownsRow W1.heap.size 3 1 vl (tabs x M.p.n M.p.n k 2 lN).length (I64 (tabs x M.p.n M.p.n k 2 lN))) := Lib.hid hov
            have HLL : Hid ((tabs x M.p.n M.p.n k 2 lN).length ≤ 1000000) := Lib.hid (tabs_len _ _ _ _ _ _ _ (by omega) (by omega) (by omega))
            have C3 : Hid (W5.cell? ⟨N, 9, none⟩ = some (.slice (some ⟨g2, 0, none⟩) M.l.n M.l.n)) := Lib.hid (HBN5.out.cell 9)
            have R3 : Hid (vl.ownBlock ≠ some N) := Lib.hid (HRT.out.row_ne (by decide) hl2 hcv HBN5.out (by decide))
            have C5 : Hid (W5.cell? ⟨PB, 0, none⟩ = some (.int .i64 (lN : Nat))) := Lib.hid (HVB.out.cell 0)
            have R5 : Hid (vl.ownBlock ≠ some PB) := Lib.hid (HRT.out.row_ne (by decide) hl2 hcv HVB.out (by decide))
            have R13 : Hid (vl.ownBlock ≠ some g2) := Lib.hid (by
              obtain ⟨cs, _, hb⟩ := HRT.out.tab 2 (by decide)
              exact HRT.out.row_ne (by decide) hl2 hcv hb (by decide))
            clear hcv hov
            refine wp_region_held_drew (S := fun _ => True) (by kernel_rfl) trivial (fun _ => ?_)
            refine wpAnyH_each (md := .any) (m := 1) (rem := [0, 1, 2, 3, 4, 5, 6, 7, 8, 9, 10, 11, 12, 13, 14, 15, 16, 17]) (tail := [18]) (deps := fun i => match i with | 1 => [0] | 2 => [1] | 3 => [2] | 5 => [4] | 7 => [6] | 8 => [7] | 9 => [8] | 11 => [10] | 12 => [9, 11] | 13 => [12] | 15 => [14] | 16 => [13, 15] | 17 => [3, 5] | _ => []) (Tg W5 vl.ownBlock 16) (Kg vl.ownBlock 15 16)
              (fun i ds v W => match i with | 0 => v = .pointer (some ⟨N, 0, none⟩) | 1 => v = .pointer (some ⟨N, 0, none⟩) | 2 => v = .pointer (some ⟨N, 9, none⟩) | 3 => v = .slice (some ⟨g2, 0, none⟩) M.l.n M.l.n | 4 => v = .pointer (some ⟨PB, 0, none⟩) | 5 => v = .int .i64 (lN : Nat) | 6 => v = .pointer (some ⟨N, 0, none⟩) | 7 => v = .pointer (some ⟨N, 0, none⟩) | 8 => v = .pointer (some ⟨N, 9, none⟩) | 9 => v = .slice (some ⟨g2, 0, none⟩) M.l.n M.l.n | 10 => v = .pointer (some ⟨PB, 0, none⟩) | 11 => v = .int .i64 (lN : Nat) | 12 => v = .pointer (some ⟨g2, lN, none⟩) | 13 => v = vl | 14 => v = .int .i64 (k : Nat) | 17 => v = .pointer (some ⟨g2, lN, none⟩) | 15 => ∃ h, v = .slice (some ⟨h, 0, none⟩) 1 1 ∧ W5.heap.size ≤ h ∧ Blk W h 3 #[.int .i64 (k : Nat)] | 16 => W.ownsRow W1.heap.size 3 1 v ((tabs x M.p.n M.p.n k 2 lN).length + 1) (I64 (tabs x M.p.n M.p.n k 2 lN) ++ [.int .i64 (k : Nat)]) ∧ (v.ownBlock = vl.ownBlock ∨ ∃ h, v.ownBlock = some h ∧ W5.heap.size ≤ h) | _ => True) (eachB_spec (by kernel_rfl)) (fun _ _ _ _ _ _ _ h k => h.step k) (fun _ _ _ => trivial) ?_ (fun _ _ _ _ => True) (fun _ _ _ _ _ _ _ _ _ _ _ _ _ _ => ⟨trivial, trivial⟩) ?_ ?_ (Tg.nil (Below.refl _ _).drew)
            · intro i hi j _ hij hjd ds v u l W W' _ _ hk h
              simp only [List.mem_cons, List.not_mem_nil, or_false] at hi
              rcases hi with rfl | rfl | rfl | rfl | rfl | rfl | rfl | rfl | rfl | rfl | rfl | rfl | rfl | rfl | rfl | rfl | rfl | rfl
              · exact h
              · exact h
              · exact h
              · exact h
              · exact h
              · exact h
              · exact h
              · exact h
              · exact h
              · exact h
              · exact h
              · exact h
              · exact h
              · exact h
              · exact h
              · obtain ⟨h', e, hs, hb⟩ := h
                exact ⟨h', e, hs, (hk.grown.block h' hb.lt (fun e => by have := HVLT.out h' e.symm; omega)).trans hb⟩
              · have e := hk.is_ (Ne.symm hij) (fun e => hjd (by rw [e]; simp))
                subst e
                exact h
              · exact h
            · refine AllO.cons [] rfl rfl (fun vs l W hl hT hd => ?_) ?_
              · dsimp only [lay, List.foldl, List.map, dstOf]
                go_wp2
                exact ⟨rfl, _, rfl, Kg.quiet (by decide) (by decide), rfl⟩
              refine AllO.cons [0] rfl rfl (fun vs l W hl hT hd => ?_) ?_
              · have e0 : vs 0 = .pointer (some ⟨N, 0, none⟩) := hd 0 (by simp)
                dsimp only [lay, List.foldl, List.map, dstOf]
                rw [e0]
                go_wp2
                exact ⟨rfl, _, rfl, Kg.quiet (by decide) (by decide), rfl⟩
              refine AllO.cons [1] rfl rfl (fun vs l W hl hT hd => ?_) ?_
              · have e1 : vs 1 = .pointer (some ⟨N, 0, none⟩) := hd 1 (by simp)
                dsimp only [lay, List.foldl, List.map, dstOf]
                rw [e1]
                go_wp2
                exact ⟨rfl, _, rfl, Kg.quiet (by decide) (by decide), rfl⟩
              refine AllO.cons [2] rfl rfl (fun vs l W hl hT hd => ?_) ?_
              · have e2 : vs 2 = .pointer (some ⟨N, 9, none⟩) := hd 2 (by simp)
                have c3 : W.cell? ⟨N, 9, none⟩ = some (.slice (some ⟨g2, 0, none⟩) M.l.n M.l.n) := hT.cell C3.out R3.out
                dsimp only [lay, List.foldl, List.map, dstOf]
                rw [e2]
                go_wp2
                exact ⟨rfl, _, rfl, Kg.quiet (by decide) (by decide), rfl⟩
              refine AllO.cons [] rfl rfl (fun vs l W hl hT hd => ?_) ?_
              · dsimp only [lay, List.foldl, List.map, dstOf]
                go_wp2
                exact ⟨rfl, _, rfl, Kg.quiet (by decide) (by decide), rfl⟩
              refine AllO.cons [4] rfl rfl (fun vs l W hl hT hd => ?_) ?_
              · have e4 : vs 4 = .pointer (some ⟨PB, 0, none⟩) := hd 4 (by simp)
                have c5 : W.cell? ⟨PB, 0, none⟩ = some (.int .i64 (lN : Nat)) := hT.cell C5.out R5.out
                dsimp only [lay, List.foldl, List.map, dstOf]
                rw [e4]
                go_wp2
                exact ⟨rfl, _, rfl, Kg.quiet (by decide) (by decide), rfl⟩
              refine AllO.cons [] rfl rfl (fun vs l W hl hT hd => ?_) ?_
              · dsimp only [lay, List.foldl, List.map, dstOf]
                go_wp2
                exact ⟨rfl, _, rfl, Kg.quiet (by decide) (by decide), rfl⟩
              refine AllO.cons [6] rfl rfl (fun vs l W hl hT hd => ?_) ?_
              · have e6 : vs 6 = .pointer (some ⟨N, 0, none⟩) := hd 6 (by simp)
                dsimp only [lay, List.foldl, List.map, dstOf]
                rw [e6]
                go_wp2
                exact ⟨rfl, _, rfl, Kg.quiet (by decide) (by decide), rfl⟩
              refine AllO.cons [7] rfl rfl (fun vs l W hl hT hd => ?_) ?_
              · have e7 : vs 7 = .pointer (some ⟨N, 0, none⟩) := hd 7 (by simp)
                dsimp only [lay, List.foldl, List.map, dstOf]
                rw [e7]
                go_wp2
                exact ⟨rfl, _, rfl, Kg.quiet (by decide) (by decide), rfl⟩
              refine AllO.cons [8] rfl rfl (fun vs l W hl hT hd => ?_) ?_
              · have e8 : vs 8 = .pointer (some ⟨N, 9, none⟩) := hd 8 (by simp)
                have c3 : W.cell? ⟨N, 9, none⟩ = some (.slice (some ⟨g2, 0, none⟩) M.l.n M.l.n) := hT.cell C3.out R3.out
                dsimp only [lay, List.foldl, List.map, dstOf]
                rw [e8]
                go_wp2
                exact ⟨rfl, _, rfl, Kg.quiet (by decide) (by decide), rfl⟩
              refine AllO.cons [] rfl rfl (fun vs l W hl hT hd => ?_) ?_
              · dsimp only [lay, List.foldl, List.map, dstOf]
                go_wp2
                exact ⟨rfl, _, rfl, Kg.quiet (by decide) (by decide), rfl⟩
              refine AllO.cons [10] rfl rfl (fun vs l W hl hT hd => ?_) ?_
              · have e10 : vs 10 = .pointer (some ⟨PB, 0, none⟩) := hd 10 (by simp)
                have c5 : W.cell? ⟨PB, 0, none⟩ = some (.int .i64 (lN : Nat)) := hT.cell C5.out R5.out
                dsimp only [lay, List.foldl, List.map, dstOf]
                rw [e10]
                go_wp2
                exact ⟨rfl, _, rfl, Kg.quiet (by decide) (by decide), rfl⟩
              refine AllO.cons [9, 11] rfl rfl (fun vs l W hl hT hd => ?_) ?_
              · have e9 : vs 9 = .slice (some ⟨g2, 0, none⟩) M.l.n M.l.n := hd 9 (by simp)
                have e11 : vs 11 = .int .i64 (lN : Nat) := hd 11 (by simp)
                have hib : ((lN : Nat) : Int) < ((M.l.n : Nat) : Int) := by omega
                dsimp only [lay, List.foldl, List.map, dstOf]
                rw [e9, e11]
                go_wp2
                exact ⟨rfl, _, rfl, Kg.quiet (by decide) (by decide), rfl⟩
              refine AllO.cons [12] rfl rfl (fun vs l W hl hT hd => ?_) ?_
              · have e12 : vs 12 = .pointer (some ⟨g2, lN, none⟩) := hd 12 (by simp)
                have c13 : W.cell? ⟨g2, lN, none⟩ = some vl := hT.cell C13.out R13.out
                dsimp only [lay, List.foldl, List.map, dstOf]
                rw [e12]
                go_wp2
                exact ⟨rfl, _, rfl, Kg.quiet (by decide) (by decide), rfl⟩
              refine AllO.cons [] rfl rfl (fun vs l W hl hT hd => ?_) ?_
              · dsimp only [lay, List.foldl, List.map, dstOf]
                go_wp2
                exact ⟨rfl, _, rfl, Kg.quiet (by decide) (by decide), rfl⟩
              refine AllO.cons [14] rfl rfl (fun vs l W hl hT hd => ?_) ?_
              · have e14 : vs 14 = .int .i64 (k : Nat) := hd 14 (by simp)
                dsimp only [lay, List.foldl, List.map, dstOf]
                rw [e14]
                go_wp2
                exact ⟨rfl, _, rfl, Kg.new ((Below.refl _ _).alloc (Nat.le_refl _) _) (by decide), _, rfl, hT.grown.size, Blk.new _ _ _⟩
              refine AllO.cons [13, 15] rfl rfl (fun vs l W hl hT hd => ?_) ?_
              · have e13 : vs 13 = vl := hd 13 (by simp)
                obtain ⟨h', e15, hs', hb'⟩ := hd 15 (by simp)
                dsimp only [lay, List.foldl, List.map, dstOf]
                rw [e13, e15]
                obtain ⟨i0, hi, hz0, hz1, hz2⟩ := info_parts info_int
                have hbp := hT.pre hl
                refine wpList_append_own_at _ rfl _ _ 52 rfl W1.heap.size 3 i0 (.int .i64 0) 1 8 Tryz.underlying52 hi hz0 hz1 hz2 rfl (by decide) vl (tabs x M.p.n M.p.n k 2 lN).length (I64 (tabs x M.p.n M.p.n k 2 lN)) (by rfl) (ownk_next HVO.out hbp) ⟨h', 0, none⟩ 1 1 [.int .i64 (k : Nat)] (by rfl) rfl (fun j u hj => by
                  rcases j with _ | j
                  · simp at hj; subst hj; exact hb'.cell 0
                  · simp at hj) (by intro x hx; simp at hx; subst hx; rfl) (by have := HLL.out; unfold maxLen; omega) (by have := HLL.out; omega) (Nat.le_trans HLO5.out.size hT.grown.size) ?_
                intro v' w' hown hg _ hat
                refine wpList_nil ?_
                exact ⟨rfl, _, rfl, Kg.app hg, hown, hat.imp id (fun e => ⟨_, e, hT.grown.size⟩)⟩
              refine AllO.cons [3, 5] rfl rfl (fun vs l W hl hT hd => ?_) AllO.nil
              · have e3 : vs 3 = .slice (some ⟨g2, 0, none⟩) M.l.n M.l.n := hd 3 (by simp)
                have e5 : vs 5 = .int .i64 (lN : Nat) := hd 5 (by simp)
                have hib : ((lN : Nat) : Int) < ((M.l.n : Nat) : Int) := by omega
                dsimp only [lay, List.foldl, List.map, dstOf]
                rw [e3, e5]
                go_wp2
                exact ⟨rfl, _, rfl, Kg.quiet (by decide) (by decide), rfl⟩
            · intro vs l W hall hT hF _ aE LE ha hL
              have e0 : vs 0 = .pointer (some ⟨N, 0, none⟩) := hF 0 (by simp)
              have e1 : vs 1 = .pointer (some ⟨N, 0, none⟩) := hF 1 (by simp)
              have e2 : vs 2 = .pointer (some ⟨N, 9, none⟩) := hF 2 (by simp)
              have e3 : vs 3 = .slice (some ⟨g2, 0, none⟩) M.l.n M.l.n := hF 3 (by simp)
              have e4 : vs 4 = .pointer (some ⟨PB, 0, none⟩) := hF 4 (by simp)
              have e5 : vs 5 = .int .i64 (lN : Nat) := hF 5 (by simp)
              have e6 : vs 6 = .pointer (some ⟨N, 0, none⟩) := hF 6 (by simp)
              have e7 : vs 7 = .pointer (some ⟨N, 0, none⟩) := hF 7 (by simp)
              have e8 : vs 8 = .pointer (some ⟨N, 9, none⟩) := hF 8 (by simp)
              have e9 : vs 9 = .slice (some ⟨g2, 0, none⟩) M.l.n M.l.n := hF 9 (by simp)
              have e10 : vs 10 = .pointer (some ⟨PB, 0, none⟩) := hF 10 (by simp)
              have e11 : vs 11 = .int .i64 (lN : Nat) := hF 11 (by simp)
              have e12 : vs 12 = .pointer (some ⟨g2, lN, none⟩) := hF 12 (by simp)
              have e13 : vs 13 = vl := hF 13 (by simp)
              have e14 : vs 14 = .int .i64 (k : Nat) := hF 14 (by simp)
              have e17 : vs 17 = .pointer (some ⟨g2, lN, none⟩) := hF 17 (by simp)
              obtain ⟨h15, e15, -, -⟩ := hF 15 (by simp)
              obtain ⟨hown16, hat16⟩ := hF 16 (by simp)
              have hL' : LE = #[true, true, true, true, true, true, true, true, true, true, true, true, true, true, true, true, true, true, false] := hL.trans (by kernel_rfl)
              dsimp only [lay, List.foldl, dstOf] at ha
              rw [e0, e1, e2, e3, e4, e5, e6, e7, e8, e9, e10, e11, e12, e13, e14, e15, e17] at ha
              clear e0 e1 e2 e3 e4 e5 e6 e7 e8 e9 e10 e11 e12 e13 e14 e15 e17 hL hF
              subst ha hL'
              generalize vs 16 = v16 at *
              obtain ⟨g16, cap16, rfl⟩ := ownsRow_succ hown16
              have c13 : W.cell? ⟨g2, lN, none⟩ = some vl := hT.cell C13.out R13.out
              have f13 : W.frozen? ⟨g2, lN, none⟩ = false := by
                obtain ⟨cs, _, hb⟩ := HRT.out.tab 2 (by decide)
                exact (hT.blk hb (HRT.out.row_ne (by decide) hl2 C13.out hb (by decide))).frozen _
              obtain ⟨hrt', hfr', hlo', hmp'⟩ := HRT.out.stepG (t := 2) (gt := g2) rfl (by decide) hl2 C13.out hown16 hT.grown hat16
              refine wpAnyH_ready (rs := [18]) (by kernel_rfl) (by simp) ?_
              refine AllReadyH.cons rfl (fun K hK => ?_) AllReadyH.nil
              go_simp
              refine hK.out _ _ trivial (fun _ => ?_)
              clear hK
              clear K
              refine wpAnyH_done (by kernel_rfl) ?_ _
              have HRT1 := Lib.hid hrt'
              have HFR1 := Lib.hid hfr'
              have HLO1 := Lib.hid hlo'
              have HMP1 := Lib.hid hmp'
              clear hrt' hfr' hlo' hmp' c13 f13 hown16 hat16 hall
              generalize W.setCell ⟨g2, lN, none⟩ (.slice (some ⟨g16, 0, none⟩) ((tabs x M.p.n M.p.n k 2 lN).length + 1) cap16) = W6 at *
              clear hT
              clear C13 HVLT HVO HLL C3 R3 C5 R5 R13
              have HRT2 : Hid (RT W1.heap.size (fun t => if t = 0 then g0 else if t = 1 then g1 else g2) (sizes x) (tabs x M.p.n M.p.n (k + 1)) W6) := Lib.hid (by rw [← tabs_2 HX.out rfl]; exact HRT1.out)
              have HI6 := Lib.hid (HI5.out.row HFR1.out (HLO1.out _ _ (Nat.le_refl _)) HRT2.out HMP1.out)
              clear HRT HRT1 HRT2 HFR1 HLO1 HMP1 HVB HBN5 HLO5 HI5
              clear W5
              go_wp2
              go_roundw
              case rel => exact ⟨k + 1, by omega, by go_num, HI6⟩
              case measure => simp [intOf]; omega
          · obtain rfl : k = M.m.n := by omega
            go_wp2
            go_ret2
            have hle : w.heap.size ≤ W1.heap.size := HB1.out.size
            have el : x'.ls.length = M.l.n := by rw [HAL.out.l]; exact HC.out.l.len
            have er : x'.rs.length = M.r.n := by rw [HAL.out.r]; exact HC.out.r.len
            refine ⟨⟨M', N, (fun t => if t = 0 then g0 else if t = 1 then g1 else g2), mb, A16, c16⟩, x', rfl, ⟨HNET.out.fr HI.out.fr, ?_, ?_, ?_, HI.out.fr.own HGR.out (by decide) (by decide)⟩, HAL.out, HB1.out.trans (HI.out.lo.mono hle)⟩
            · rw [el, er]
              exact HI.out.fr.blk HBN.out (by decide) (by decide)
            · have hps : x'.ps.length = M.p.n := by rw [HAL.out.p]; exact HC.out.p.len
              have hms : x'.ms.length = M.m.n := by rw [alike_ms HAL.out]; exact HC.out.m.len
              rw [alike_sizes HAL.out, alike_tabs HAL.out, hps, hms]
              exact HI.out.tab.up hle
            · obtain ⟨D, h1, _, h3⟩ := HI.out.at_
              exact ⟨M.p.n, D, h1, by
                have hps : x'.ps.length = M.p.n := by rw [HAL.out.p]; exact HC.out.p.len
                rw [hps, HAL.out.p]
                exact h3⟩
end Go.Proofs.YtdljpokhcfhhfaaGreatDoor

