/- conf.Clone over a network in memory: the same network in new memory; over the seat's program. -/
import Derived.Test.YtdljpokhcfhhfaaGreatDoorCl0
namespace Go.Proofs.YtdljpokhcfhhfaaGreatDoor
open Go.RowKit Lx Sm
set_option maxHeartbeats 8000000 in
set_option maxRecDepth 20000 in
theorem clone_any (M : Cm) (x : Cfg) (w : World) (h : CW w M x) (hrn : ∀ y ∈ x.rs, (str y.1).size ≤ 281474976710656) (hln : ∀ y ∈ x.ls, (str y.1).size ≤ 281474976710656) :
    Calls Tryz.prog 46 #[.agg #[.slice M.r.A M.r.n M.r.c, .slice M.l.A M.l.n M.l.c, .slice M.p.A M.p.n M.p.c, .slice M.o.A M.o.n M.o.c, .slice M.g.A M.g.n M.g.c, .slice M.s.A M.s.n M.s.c, .slice M.m.A M.m.n M.m.c]] w fun e w' => ∃ (M' : Cm) (x' : Cfg), e = .returned (.agg #[.slice M'.r.A M'.r.n M'.r.c, .slice M'.l.A M'.l.n M'.l.c, .slice M'.p.A M'.p.n M'.p.c, .slice M'.o.A M'.o.n M'.o.c, .slice M'.g.A M'.g.n M'.g.c, .slice M'.s.A M'.s.n M'.s.c, .slice M'.m.A M'.m.n M'.m.c]) ∧ CWo w' w.heap.size M' x' ∧ Alike x x' ∧ Below w.heap.size w w' := by
  have HB0 := Lib.hid ((Below.refl w.heap.size w).alloc (Nat.le_refl _) (.cells #[.slice M.r.A M.r.n M.r.c, .slice M.l.A M.l.n M.l.c, .slice M.p.A M.p.n M.p.c, .slice M.o.A M.o.n M.o.c, .slice M.g.A M.g.n M.g.c, .slice M.s.A M.s.n M.s.c, .slice M.m.A M.m.n M.m.c] 30))
  have HK0 : Hid (Blk (w.alloc (.cells #[.slice M.r.A M.r.n M.r.c, .slice M.l.A M.l.n M.l.c, .slice M.p.A M.p.n M.p.c, .slice M.o.A M.o.n M.o.c, .slice M.g.A M.g.n M.g.c, .slice M.s.A M.s.n M.s.c, .slice M.m.A M.m.n M.m.c] 30)) w.heap.size 30 #[.slice M.r.A M.r.n M.r.c, .slice M.l.A M.l.n M.l.c, .slice M.p.A M.p.n M.p.c, .slice M.o.A M.o.n M.o.c, .slice M.g.A M.g.n M.g.c, .slice M.s.A M.s.n M.s.c, .slice M.m.A M.m.n M.m.c]) := Lib.hid (Blk.new _ _ _)
  go_enter Tryz.func46, Tryz.ntmps46
  go_wp2
  generalize hW0 : w.alloc (.cells #[.slice M.r.A M.r.n M.r.c, .slice M.l.A M.l.n M.l.c, .slice M.p.A M.p.n M.p.c, .slice M.o.A M.o.n M.o.c, .slice M.g.A M.g.n M.g.c, .slice M.s.A M.s.n M.s.c, .slice M.m.A M.m.n M.m.c] 30) = W0 at *
  have Hz01 := Lib.hid ((Below.refl W0.heap.size W0).alloc (Nat.le_refl _) (.cells #[.slice none 0 0, .slice none 0 0, .slice none 0 0, .slice none 0 0, .slice none 0 0, .slice none 0 0, .slice none 0 0] 30))
  generalize hW1 : W0.alloc (.cells #[.slice none 0 0, .slice none 0 0, .slice none 0 0, .slice none 0 0, .slice none 0 0, .slice none 0 0, .slice none 0 0] 30) = W1 at *
  have HK1 : Hid (Slot W1 (w.heap.size + 1) 30 7) := by
    have h1 := (Blk.new W0 30 #[.slice none 0 0, .slice none 0 0, .slice none 0 0, .slice none 0 0, .slice none 0 0, .slice none 0 0, .slice none 0 0]).slot
    rw [hW1] at h1
    rw [← hW0] at h1
    exact Lib.hid (by simpa using h1)
  have HW : Hid (∀ W, Below W1.heap.size W1 W → CW W M x) := Lib.hid fun W hW => h.next ((HB0.out.trans (Hz01.out.mono HB0.out.size)).trans (hW.mono (Nat.le_trans HB0.out.size Hz01.out.size)))
  have y0 : ∀ W, Below W1.heap.size W1 W → W.cell? ⟨w.heap.size, 0, none⟩ = some (.slice M.r.A M.r.n M.r.c) := fun W hW => Blk.cell (HK0.out.next (Hz01.out.trans (hW.mono Hz01.out.size))) 0
  have y1 : ∀ W, Below W1.heap.size W1 W → W.cell? ⟨w.heap.size, 1, none⟩ = some (.slice M.l.A M.l.n M.l.c) := fun W hW => Blk.cell (HK0.out.next (Hz01.out.trans (hW.mono Hz01.out.size))) 1
  have y2 : ∀ W, Below W1.heap.size W1 W → W.cell? ⟨w.heap.size, 2, none⟩ = some (.slice M.p.A M.p.n M.p.c) := fun W hW => Blk.cell (HK0.out.next (Hz01.out.trans (hW.mono Hz01.out.size))) 2
  have y3 : ∀ W, Below W1.heap.size W1 W → W.cell? ⟨w.heap.size, 3, none⟩ = some (.slice M.o.A M.o.n M.o.c) := fun W hW => Blk.cell (HK0.out.next (Hz01.out.trans (hW.mono Hz01.out.size))) 3
  have y4 : ∀ W, Below W1.heap.size W1 W → W.cell? ⟨w.heap.size, 4, none⟩ = some (.slice M.g.A M.g.n M.g.c) := fun W hW => Blk.cell (HK0.out.next (Hz01.out.trans (hW.mono Hz01.out.size))) 4
  have y5 : ∀ W, Below W1.heap.size W1 W → W.cell? ⟨w.heap.size, 5, none⟩ = some (.slice M.s.A M.s.n M.s.c) := fun W hW => Blk.cell (HK0.out.next (Hz01.out.trans (hW.mono Hz01.out.size))) 5
  have y6 : ∀ W, Below W1.heap.size W1 W → W.cell? ⟨w.heap.size, 6, none⟩ = some (.slice M.m.A M.m.n M.m.c) := fun W hW => Blk.cell (HK0.out.next (Hz01.out.trans (hW.mono Hz01.out.size))) 6
  have hS0 : Below W1.heap.size W1 W1.drew := (Below.refl _ _).drew
  refine wp_region_held_drew (S := fun w' => Below W1.heap.size W1 w') (by kernel_rfl) hS0 (fun hHeld => ?_)
  have hH : Below W1.heap.size W1 W1.drew := hHeld
  clear hHeld hS0
  refine wpAnyH_take (i := 0) (v := .pointer (some ⟨w.heap.size, 0, none⟩)) rfl (by kernel_rfl) (by kernel_rfl) (by kernel_rfl) (fun _ _ _ h => h) (Or.inl ⟨by rfl, fun w' hSw => by (try dsimp only at hSw); go_simp⟩) hH ?_
  try go_simp
  refine wpAnyH_take (i := 1) (v := .slice M.r.A M.r.n M.r.c) rfl (by kernel_rfl) (by kernel_rfl) (by kernel_rfl) (fun _ _ _ h => h) (Or.inl ⟨by rfl, fun w' hSw => by (try dsimp only at hSw); go_simp⟩) hH ?_
  try go_simp
  refine wpAnyH_take (i := 3) (v := .pointer (some ⟨w.heap.size, 1, none⟩)) rfl (by kernel_rfl) (by kernel_rfl) (by kernel_rfl) (fun _ _ _ h => h) (Or.inl ⟨by rfl, fun w' hSw => by (try dsimp only at hSw); go_simp⟩) hH ?_
  try go_simp
  refine wpAnyH_take (i := 4) (v := .slice M.l.A M.l.n M.l.c) rfl (by kernel_rfl) (by kernel_rfl) (by kernel_rfl) (fun _ _ _ h => h) (Or.inl ⟨by rfl, fun w' hSw => by (try dsimp only at hSw); go_simp⟩) hH ?_
  try go_simp
  refine wpAnyH_take (i := 6) (v := .pointer (some ⟨w.heap.size, 2, none⟩)) rfl (by kernel_rfl) (by kernel_rfl) (by kernel_rfl) (fun _ _ _ h => h) (Or.inl ⟨by rfl, fun w' hSw => by (try dsimp only at hSw); go_simp⟩) hH ?_
  try go_simp
  refine wpAnyH_take (i := 7) (v := .slice M.p.A M.p.n M.p.c) rfl (by kernel_rfl) (by kernel_rfl) (by kernel_rfl) (fun _ _ _ h => h) (Or.inl ⟨by rfl, fun w' hSw => by (try dsimp only at hSw); go_simp⟩) hH ?_
  try go_simp
  refine wpAnyH_take (i := 9) (v := .pointer (some ⟨w.heap.size, 3, none⟩)) rfl (by kernel_rfl) (by kernel_rfl) (by kernel_rfl) (fun _ _ _ h => h) (Or.inl ⟨by rfl, fun w' hSw => by (try dsimp only at hSw); go_simp⟩) hH ?_
  try go_simp
  refine wpAnyH_take (i := 10) (v := .slice M.o.A M.o.n M.o.c) rfl (by kernel_rfl) (by kernel_rfl) (by kernel_rfl) (fun _ _ _ h => h) (Or.inl ⟨by rfl, fun w' hSw => by (try dsimp only at hSw); go_simp⟩) hH ?_
  try go_simp
  refine wpAnyH_take (i := 12) (v := .pointer (some ⟨w.heap.size, 4, none⟩)) rfl (by kernel_rfl) (by kernel_rfl) (by kernel_rfl) (fun _ _ _ h => h) (Or.inl ⟨by rfl, fun w' hSw => by (try dsimp only at hSw); go_simp⟩) hH ?_
  try go_simp
  refine wpAnyH_take (i := 13) (v := .slice M.g.A M.g.n M.g.c) rfl (by kernel_rfl) (by kernel_rfl) (by kernel_rfl) (fun _ _ _ h => h) (Or.inl ⟨by rfl, fun w' hSw => by (try dsimp only at hSw); go_simp⟩) hH ?_
  try go_simp
  refine wpAnyH_take (i := 15) (v := .pointer (some ⟨w.heap.size, 5, none⟩)) rfl (by kernel_rfl) (by kernel_rfl) (by kernel_rfl) (fun _ _ _ h => h) (Or.inl ⟨by rfl, fun w' hSw => by (try dsimp only at hSw); go_simp⟩) hH ?_
  try go_simp
  refine wpAnyH_take (i := 16) (v := .slice M.s.A M.s.n M.s.c) rfl (by kernel_rfl) (by kernel_rfl) (by kernel_rfl) (fun _ _ _ h => h) (Or.inl ⟨by rfl, fun w' hSw => by (try dsimp only at hSw); go_simp⟩) hH ?_
  try go_simp
  refine wpAnyH_take (i := 18) (v := .pointer (some ⟨w.heap.size, 6, none⟩)) rfl (by kernel_rfl) (by kernel_rfl) (by kernel_rfl) (fun _ _ _ h => h) (Or.inl ⟨by rfl, fun w' hSw => by (try dsimp only at hSw); go_simp⟩) hH ?_
  try go_simp
  refine wpAnyH_take (i := 19) (v := .slice M.m.A M.m.n M.m.c) rfl (by kernel_rfl) (by kernel_rfl) (by kernel_rfl) (fun _ _ _ h => h) (Or.inl ⟨by rfl, fun w' hSw => by (try dsimp only at hSw); go_simp⟩) hH ?_
  try go_simp
  refine wpAnyH_each (md := .any) (m := 1) (rem := [2, 5, 8, 11, 14, 17, 20, 21, 22]) (tail := [23]) (deps := fun i => match i with | 21 => [2, 5, 8, 11, 14, 17, 20] | _ => []) (fun _ W => Below W1.heap.size W1 W) (fun _ W _ W' => Below W.heap.size W W')
    (fun i ds v W => match i with | 2 => OwnS W1.heap.size 77 2 CRouter M.r.n x.rs v W | 5 => OwnS W1.heap.size 125 3 CLink M.l.n x.ls v W | 8 => OwnS W1.heap.size 80 3 CPort M.p.n x.ps v W | 11 => OwnS W1.heap.size 128 5 CRoute M.o.n x.os v W | 14 => OwnS W1.heap.size 149 3 CRange M.g.n x.gs v W | 17 => OwnS W1.heap.size 147 3 CSource M.s.n x.ss v W | 20 => OwnS W1.heap.size 115 4 CMember M.m.n x.ms v W | 21 => v = .agg ds.toArray | 22 => NewV W1.heap.size 30 7 v W | _ => True) (eachB_spec (by kernel_rfl)) (fun _ _ _ _ _ _ _ h k => h.trans (k.mono h.size)) (fun _ _ h => h) ?_ (fun _ _ _ _ => True) (fun _ _ _ _ _ _ _ _ _ _ _ _ _ _ => ⟨trivial, trivial⟩) ?_ ?_ hH
  · intro i hi j _ _ _ ds v u _ W W' _ _ hb h
    simp only [List.mem_cons, List.not_mem_nil, or_false] at hi
    rcases hi with rfl | rfl | rfl | rfl | rfl | rfl | rfl | rfl | rfl
    · exact OwnS.next h hb
    · exact OwnS.next h hb
    · exact OwnS.next h hb
    · exact OwnS.next h hb
    · exact OwnS.next h hb
    · exact OwnS.next h hb
    · exact OwnS.next h hb
    · exact h
    · exact NewV.next h hb
  · refine AllO.cons [] rfl rfl (fun vs _ W _ hW _ => ?_) ?_
    · have hC := Lib.hid (copied_router M.r.A M.r.n M.r.c x.rs W (HW.out W hW).r h.rok.2)
      dsimp only [lay, List.foldl, List.map]
      go_wp2_with (go_at_call 97; refine hC.out.mono ?_; rintro e wr ⟨A', c', rfl, hc, ho, _, hb⟩)
      exact ⟨rfl, _, rfl, hb, A', c', rfl, hc, ownk_up ho hW.size⟩
    refine AllO.cons [] rfl rfl (fun vs _ W _ hW _ => ?_) ?_
    · have hC := Lib.hid (copied_link M.l.A M.l.n M.l.c x.ls W (HW.out W hW).l h.lok.2)
      dsimp only [lay, List.foldl, List.map]
      go_wp2_with (go_at_call 98; refine hC.out.mono ?_; rintro e wr ⟨A', c', rfl, hc, ho, _, hb⟩)
      exact ⟨rfl, _, rfl, hb, A', c', rfl, hc, ownk_up ho hW.size⟩
    refine AllO.cons [] rfl rfl (fun vs _ W _ hW _ => ?_) ?_
    · have hC := Lib.hid (copied_port M.p.A M.p.n M.p.c x.ps W (HW.out W hW).p h.pok.2)
      dsimp only [lay, List.foldl, List.map]
      go_wp2_with (go_at_call 99; refine hC.out.mono ?_; rintro e wr ⟨A', c', rfl, hc, ho, _, hb⟩)
      exact ⟨rfl, _, rfl, hb, A', c', rfl, hc, ownk_up ho hW.size⟩
    refine AllO.cons [] rfl rfl (fun vs _ W _ hW _ => ?_) ?_
    · have hC := Lib.hid (copied_route M.o.A M.o.n M.o.c x.os W (HW.out W hW).o h.ook.2)
      dsimp only [lay, List.foldl, List.map]
      go_wp2_with (go_at_call 100; refine hC.out.mono ?_; rintro e wr ⟨A', c', rfl, hc, ho, _, hb⟩)
      exact ⟨rfl, _, rfl, hb, A', c', rfl, hc, ownk_up ho hW.size⟩
    refine AllO.cons [] rfl rfl (fun vs _ W _ hW _ => ?_) ?_
    · have hC := Lib.hid (copied_range M.g.A M.g.n M.g.c x.gs W (HW.out W hW).g h.gok.2)
      dsimp only [lay, List.foldl, List.map]
      go_wp2_with (go_at_call 101; refine hC.out.mono ?_; rintro e wr ⟨A', c', rfl, hc, ho, _, hb⟩)
      exact ⟨rfl, _, rfl, hb, A', c', rfl, hc, ownk_up ho hW.size⟩
    refine AllO.cons [] rfl rfl (fun vs _ W _ hW _ => ?_) ?_
    · have hC := Lib.hid (copied_source M.s.A M.s.n M.s.c x.ss W (HW.out W hW).s h.sok.2)
      dsimp only [lay, List.foldl, List.map]
      go_wp2_with (go_at_call 102; refine hC.out.mono ?_; rintro e wr ⟨A', c', rfl, hc, ho, _, hb⟩)
      exact ⟨rfl, _, rfl, hb, A', c', rfl, hc, ownk_up ho hW.size⟩
    refine AllO.cons [] rfl rfl (fun vs _ W _ hW _ => ?_) ?_
    · have hC := Lib.hid (copied_member M.m.A M.m.n M.m.c x.ms W (HW.out W hW).m h.mok.2)
      dsimp only [lay, List.foldl, List.map]
      go_wp2_with (go_at_call 103; refine hC.out.mono ?_; rintro e wr ⟨A', c', rfl, hc, ho, _, hb⟩)
      exact ⟨rfl, _, rfl, hb, A', c', rfl, hc, ownk_up ho hW.size⟩
    refine AllO.cons [2, 5, 8, 11, 14, 17, 20] rfl rfl (fun vs _ W _ hW hd => ?_) ?_
    · have f2 := hd 2 (by simp)
      have f5 := hd 5 (by simp)
      have f8 := hd 8 (by simp)
      have f11 := hd 11 (by simp)
      have f14 := hd 14 (by simp)
      have f17 := hd 17 (by simp)
      have f20 := hd 20 (by simp)
      clear hd
      obtain ⟨A2, c2, e2, _, _⟩ := f2
      obtain ⟨A5, c5, e5, _, _⟩ := f5
      obtain ⟨A8, c8, e8, _, _⟩ := f8
      obtain ⟨A11, c11, e11, _, _⟩ := f11
      obtain ⟨A14, c14, e14, _, _⟩ := f14
      obtain ⟨A17, c17, e17, _, _⟩ := f17
      obtain ⟨A20, c20, e20, _, _⟩ := f20
      dsimp only [lay, List.foldl, List.map, dstOf]
      rw [e2, e5, e8, e11, e14, e17, e20]
      go_wp2
      exact ⟨rfl, _, rfl, Below.refl _ _, rfl⟩
    refine AllO.cons [] rfl rfl (fun vs _ W _ hW _ => ?_) AllO.nil
    · dsimp only [lay, List.foldl, List.map, dstOf]
      go_wp2
      exact ⟨rfl, _, rfl, (Below.refl _ _).alloc (Nat.le_refl _) _, _, rfl, hW.size, (Blk.new _ _ _).slot⟩
  · intro vs _ W _ hW hF _ aE LE ha hL
    have f2 := hF 2 (by simp)
    have f5 := hF 5 (by simp)
    have f8 := hF 8 (by simp)
    have f11 := hF 11 (by simp)
    have f14 := hF 14 (by simp)
    have f17 := hF 17 (by simp)
    have f20 := hF 20 (by simp)
    have f21 : vs 21 = .agg #[vs 2, vs 5, vs 8, vs 11, vs 14, vs 17, vs 20] := hF 21 (by simp)
    have f22 := hF 22 (by simp)
    obtain ⟨A2, c2, e2, h2, o2⟩ := f2
    obtain ⟨A5, c5, e5, h5, o5⟩ := f5
    obtain ⟨A8, c8, e8, h8, o8⟩ := f8
    obtain ⟨A11, c11, e11, h11, o11⟩ := f11
    obtain ⟨A14, c14, e14, h14, o14⟩ := f14
    obtain ⟨A17, c17, e17, h17, o17⟩ := f17
    obtain ⟨A20, c20, e20, h20, o20⟩ := f20
    obtain ⟨N, e22, hN, hs⟩ := f22
    rw [e2, e5, e8, e11, e14, e17, e20] at f21
    have ha' : aE = (⟨#[.agg #[.slice M.r.A M.r.n M.r.c, .slice M.l.A M.l.n M.l.c, .slice M.p.A M.p.n M.p.c, .slice M.o.A M.o.n M.o.c, .slice M.g.A M.g.n M.g.c, .slice M.s.A M.s.n M.s.c, .slice M.m.A M.m.n M.m.c], .pointer (some ⟨w.heap.size, 0, none⟩), .pointer (some ⟨w.heap.size + 1, 0, none⟩), vs 22, undef, undef, undef, undef, undef, undef, .pointer (some ⟨w.heap.size, 0, none⟩), .slice M.r.A M.r.n M.r.c, vs 2, .pointer (some ⟨w.heap.size, 1, none⟩), .slice M.l.A M.l.n M.l.c, vs 5, .pointer (some ⟨w.heap.size, 2, none⟩), .slice M.p.A M.p.n M.p.c, vs 8, .pointer (some ⟨w.heap.size, 3, none⟩), .slice M.o.A M.o.n M.o.c, vs 11, .pointer (some ⟨w.heap.size, 4, none⟩), .slice M.g.A M.g.n M.g.c, vs 14, .pointer (some ⟨w.heap.size, 5, none⟩), .slice M.s.A M.s.n M.s.c, vs 17, .pointer (some ⟨w.heap.size, 6, none⟩), .slice M.m.A M.m.n M.m.c, vs 20, vs 21, undef, undef, undef, undef, undef, undef, undef, undef, undef, undef, undef, undef, undef, undef, undef, undef, undef, undef, undef, undef, undef, undef, undef, undef, undef, undef, undef, undef, undef, undef, undef, undef, undef, undef, undef, undef, undef, undef, undef, undef, undef, undef, undef, undef, undef, undef, undef, undef, undef, undef, undef, undef], []⟩ : Act) := ha.trans (by kernel_rfl)
    have hL' : LE = #[true, true, true, true, true, true, true, true, true, true, true, true, true, true, true, true, true, true, true, true, true, true, true, false] := hL.trans (by kernel_rfl)
    clear ha hL
    rw [e2, e5, e8, e11, e14, e17, e20, e22, f21] at ha'
    subst ha' hL'
    clear f21 e2 e5 e8 e11 e14 e17 e20 e22 hF
    refine wpAnyH_ready (rs := [23]) (by kernel_rfl) (by simp) ?_
    refine AllReadyH.cons rfl (fun K hK => ?_) AllReadyH.nil
    obtain ⟨⟨t0, t1, t2, t3, t4, t5, t6⟩, q0, q1, q2, q3, q4, q5, q6⟩ := slot7 hs
    obtain ⟨W2, hW2, hk2, hb2, ho2⟩ := store7 hs hN (.slice A2 M.r.n c2) (.slice A5 M.l.n c5) (.slice A8 M.p.n c8) (.slice A11 M.o.n c11) (.slice A14 M.g.n c14) (.slice A17 M.s.n c17) (.slice A20 M.m.n c20)
    have hb2 := hb2 W1 hW
    replace o2 := ho2 (by decide) o2
    replace o5 := ho2 (by decide) o5
    replace o8 := ho2 (by decide) o8
    replace o11 := ho2 (by decide) o11
    replace o14 := ho2 (by decide) o14
    replace o17 := ho2 (by decide) o17
    replace o20 := ho2 (by decide) o20
    go_simp
    rw [← hW2]
    clear hW2 hs t0 t1 t2 t3 t4 t5 t6 q0 q1 q2 q3 q4 q5 q6
    clear ho2
    refine hK.out _ _ hb2 (fun hHeld => ?_)
    clear hHeld hK
    clear K
    refine wpAnyH_done (by kernel_rfl) ?_ _
    have HB2 := Lib.hid hb2
    have HK2 := Lib.hid hk2
    have HR := Lib.hid o2
    have HL := Lib.hid o5
    have HP := Lib.hid o8
    have HO := Lib.hid o11
    have HG := Lib.hid o14
    have HS := Lib.hid o17
    have HM := Lib.hid o20
    have HC := Lib.hid h
    have HRN := Lib.hid hrn
    have HLN := Lib.hid hln
    have hr6 := h.rok.2
    have hl6 := h.lok.2
    have hm6 := h.mok.2
    have HW2 := Lib.hid (HW.out W2 hb2)
    clear y0 y1 y2 y3 y4 y5 y6 hW hH hb2 hk2 o2 o5 o8 o11 o14 o17 o20 h hrn hln HW
    have z0 : W2.cell? ⟨N, 0, none⟩ = some (.slice A2 M.r.n c2) := Blk.cell HK2.out 0
    go_wp2
    go_loopw [35] (fun i wr => ∃ k : Nat, k ≤ M.r.n ∧ i = .int .i64 k ∧ Below W2.heap.size W2 wr) (fun i _ => M.r.n - (intOf i).toNat)
    case atStart => exact ⟨0, Nat.zero_le _, rfl, Below.refl _ _⟩
    case round =>
      obtain ⟨k, hk, rfl, hbw⟩ := hrel
      rcases Nat.lt_or_ge k M.r.n with hlt | hge
      · obtain ⟨g, o, xx, hA, ho0, hbg, hgl, ⟨cs, hblk⟩, hx, hc⟩ := own_item router_len HR.out HC.out.r.len hlt
        obtain ⟨s1, r1⟩ := xx
        have k0 : ∀ W, Below W2.heap.size W2 W → W.cell? ⟨g, o + k * 2, none⟩ = some (.string (str s1)) := fun W hW => (hW.cell (p := ⟨g, o + k * 2, none⟩) hgl).trans (hc 0 _ rfl)
        have d0 := k0 wr hbw
        have d1 : wr.cell? ⟨g, o + k * 2 + 1, none⟩ = some (.int .i64 r1) := (hbw.cell (p := ⟨g, o + k * 2 + 1, none⟩) hgl).trans (hc 1 _ rfl)
        have HF : Hid (∀ W, Below W2.heap.size W2 W → W.frozen? ⟨g, o + k * 2, none⟩ = false) := Lib.hid fun W hW => (Blk.next hblk hW).frozen _
        have HSZ := Lib.hid (HRN.out _ (List.mem_of_getElem? hx))
        have hi0 : (k : Int) < (M.r.n : Int) := by omega
        have HK0 := Lib.hid k0
        have HBW := Lib.hid hbw
        clear hc hx hblk ho0 hbg hgl k0 hbw
        subst hA
        have y0 : wr.cell? ⟨N, 0, none⟩ = some (.slice (some ⟨g, o, none⟩) M.r.n c2) := Blk.cell (HK2.out.next HBW.out) 0
        go_wp2
        have HV : Hid (Blk (wr.alloc (.cells #[.string (str s1), .int .i64 r1] 77)) wr.heap.size 77 #[.string (str s1), .int .i64 r1]) := Lib.hid (Blk.new _ _ _)
        have HB3 := Lib.hid (HBW.out.alloc HBW.out.size (.cells #[.string (str s1), .int .i64 r1] 77))
        generalize wr.alloc (.cells #[.string (str s1), .int .i64 r1] 77) = W3 at *
        have q0 : ∀ W, Below W3.heap.size W3 W → W.cell? ⟨N, 0, none⟩ = some (.slice (some ⟨g, o, none⟩) M.r.n c2) := fun W hW => Blk.cell (HK2.out.next (below_next HB3.out hW)) 0
        have q1 : ∀ W, Below W3.heap.size W3 W → W.cell? ⟨wr.heap.size, 0, none⟩ = some (.string (str s1)) := fun W hW => Blk.cell (HV.out.next hW) 0
        have q2 : ∀ W, Below W3.heap.size W3 W → W.cell? ⟨g, o + k * 2, none⟩ = some (.string (str s1)) := fun W hW => HK0.out W (below_next HB3.out hW)
        have q3 : ∀ W, Below W3.heap.size W3 W → W.frozen? ⟨g, o + k * 2, none⟩ = false := fun W hW => HF.out W (below_next HB3.out hW)
        have HQ2 := Lib.hid q2
        have hbs : Below W3.heap.size W3 W3 := Below.refl _ _
        clear y0 d0 d1
        go_region_held3 (fun w' => Below W3.heap.size W3 w')
          (first | with_reducible assumption | exact (Below.refl _ _).drew | (refine below_idem (by with_reducible assumption) ?_; exact HQ2.out _ (by with_reducible assumption)))
          ((go_at_call 104; refine (clone_str (str s1) _ HSZ.out).mono ?_; rintro e w4 ⟨rfl, hb4⟩; have hb5 : Below W3.heap.size W3 w4 := below_next (by with_reducible assumption) hb4; clear hb4))
        rw [setCell_idem (HQ2.out _ hb5)]
        have HB5 := Lib.hid (below_next HB3.out hb5)
        clear q0 q1 q2 q3 HQ2 hb5 hbs
        go_wp2
        go_roundw
        case rel => exact ⟨k + 1, by omega, by go_num, HB5.out⟩
        case measure => simp [intOf]; omega
      · obtain rfl : k = M.r.n := by omega
        have z1 : wr.cell? ⟨N, 1, none⟩ = some (.slice A5 M.l.n c5) := Blk.cell (HK2.out.next hbw) 1
        have HB6 := Lib.hid hbw
        clear hbw
        go_wp2
        clear z1
        go_loopw [52] (fun i wr => ∃ k : Nat, k ≤ M.l.n ∧ i = .int .i64 k ∧ Below W2.heap.size W2 wr) (fun i _ => M.l.n - (intOf i).toNat)
        case atStart => exact ⟨0, Nat.zero_le _, rfl, HB6.out⟩
        case round =>
          obtain ⟨k, hk, rfl, hbw⟩ := hrel
          rcases Nat.lt_or_ge k M.l.n with hlt | hge
          · obtain ⟨g, o, xx, hA, ho0, hbg, hgl, ⟨cs, hblk⟩, hx, hc⟩ := own_item link_len HL.out HC.out.l.len hlt
            obtain ⟨s1, p1, b1⟩ := xx
            have k0 : ∀ W, Below W2.heap.size W2 W → W.cell? ⟨g, o + k * 3, none⟩ = some (.string (str s1)) := fun W hW => (hW.cell (p := ⟨g, o + k * 3, none⟩) hgl).trans (hc 0 _ rfl)
            have d0 := k0 wr hbw
            have d1 : wr.cell? ⟨g, o + k * 3 + 1, none⟩ = some (.int .u32 p1) := (hbw.cell (p := ⟨g, o + k * 3 + 1, none⟩) hgl).trans (hc 1 _ rfl)
            have d2 : wr.cell? ⟨g, o + k * 3 + 2, none⟩ = some (.int .i64 b1) := (hbw.cell (p := ⟨g, o + k * 3 + 2, none⟩) hgl).trans (hc 2 _ rfl)
            have HF : Hid (∀ W, Below W2.heap.size W2 W → W.frozen? ⟨g, o + k * 3, none⟩ = false) := Lib.hid fun W hW => (Blk.next hblk hW).frozen _
            have HSZ := Lib.hid (HLN.out _ (List.mem_of_getElem? hx))
            have hi0 : (k : Int) < (M.l.n : Int) := by omega
            have HK0 := Lib.hid k0
            have HBW := Lib.hid hbw
            clear hc hx hblk ho0 hbg hgl k0 hbw
            subst hA
            have y0 : wr.cell? ⟨N, 1, none⟩ = some (.slice (some ⟨g, o, none⟩) M.l.n c5) := Blk.cell (HK2.out.next HBW.out) 1
            go_wp2
            have HV : Hid (Blk (wr.alloc (.cells #[.string (str s1), .int .u32 p1, .int .i64 b1] 125)) wr.heap.size 125 #[.string (str s1), .int .u32 p1, .int .i64 b1]) := Lib.hid (Blk.new _ _ _)
            have HB3 := Lib.hid (HBW.out.alloc HBW.out.size (.cells #[.string (str s1), .int .u32 p1, .int .i64 b1] 125))
            generalize wr.alloc (.cells #[.string (str s1), .int .u32 p1, .int .i64 b1] 125) = W3 at *
            have q0 : ∀ W, Below W3.heap.size W3 W → W.cell? ⟨N, 1, none⟩ = some (.slice (some ⟨g, o, none⟩) M.l.n c5) := fun W hW => Blk.cell (HK2.out.next (below_next HB3.out hW)) 1
            have q1 : ∀ W, Below W3.heap.size W3 W → W.cell? ⟨wr.heap.size, 0, none⟩ = some (.string (str s1)) := fun W hW => Blk.cell (HV.out.next hW) 0
            have q2 : ∀ W, Below W3.heap.size W3 W → W.cell? ⟨g, o + k * 3, none⟩ = some (.string (str s1)) := fun W hW => HK0.out W (below_next HB3.out hW)
            have q3 : ∀ W, Below W3.heap.size W3 W → W.frozen? ⟨g, o + k * 3, none⟩ = false := fun W hW => HF.out W (below_next HB3.out hW)
            have HQ2 := Lib.hid q2
            have hbs : Below W3.heap.size W3 W3 := Below.refl _ _
            clear y0 d0 d1 d2
            go_region_held3 (fun w' => Below W3.heap.size W3 w')
              (first | with_reducible assumption | exact (Below.refl _ _).drew | (refine below_idem (by with_reducible assumption) ?_; exact HQ2.out _ (by with_reducible assumption)))
              ((go_at_call 104; refine (clone_str (str s1) _ HSZ.out).mono ?_; rintro e w4 ⟨rfl, hb4⟩; have hb5 : Below W3.heap.size W3 w4 := below_next (by with_reducible assumption) hb4; clear hb4))
            rw [setCell_idem (HQ2.out _ hb5)]
            have HB5 := Lib.hid (below_next HB3.out hb5)
            clear q0 q1 q2 q3 HQ2 hb5 hbs
            go_wp2
            go_roundw
            case rel => exact ⟨k + 1, by omega, by go_num, HB5.out⟩
            case measure => simp [intOf]; omega
          · obtain rfl : k = M.l.n := by omega
            have z2 : wr.cell? ⟨N, 6, none⟩ = some (.slice A20 M.m.n c20) := Blk.cell (HK2.out.next hbw) 6
            have hb12 : W1.heap.size ≤ W2.heap.size := HB2.out.size
            have hF0 : Fr W1 W1.heap.size N 30 #[.slice A2 M.r.n c2, .slice A5 M.l.n c5, .slice A8 M.p.n c8, .slice A11 M.o.n c11, .slice A14 M.g.n c14, .slice A17 M.s.n c17, .slice A20 M.m.n c20] [(77, 2, .slice A2 M.r.n c2, M.r.n, x.rs.flatMap CRouter), (125, 3, .slice A5 M.l.n c5, M.l.n, x.ls.flatMap CLink), (80, 3, .slice A8 M.p.n c8, M.p.n, x.ps.flatMap CPort), (128, 5, .slice A11 M.o.n c11, M.o.n, x.os.flatMap CRoute), (149, 3, .slice A14 M.g.n c14, M.g.n, x.gs.flatMap CRange), (147, 3, .slice A17 M.s.n c17, M.s.n, x.ss.flatMap CSource)] wr := by
              refine ⟨HB2.out.trans (hbw.mono hb12), HK2.out.next hbw, fun q hq => ?_⟩
              simp only [List.mem_cons, List.not_mem_nil, or_false] at hq
              rcases hq with rfl | rfl | rfl | rfl | rfl | rfl
              · exact ownk_next HR.out hbw
              · exact ownk_next HL.out hbw
              · exact ownk_next HP.out hbw
              · exact ownk_next HO.out hbw
              · exact ownk_next HG.out hbw
              · exact ownk_next HS.out hbw
            have HF0 := Lib.hid hF0
            have HM0 := Lib.hid (ownk_next HM.out hbw)
            clear hbw hF0
            go_wp2
            clear z2
            go_loopw [69] (fun i wr => ∃ (k : Nat) (ys : List Mb), k ≤ M.m.n ∧ i = .int .i64 k ∧ Hid (wr.ownsRow W1.heap.size 115 4 (.slice A20 M.m.n c20) M.m.n (ys.flatMap CMember)) ∧ Hid (Fr W1 W1.heap.size N 30 #[.slice A2 M.r.n c2, .slice A5 M.l.n c5, .slice A8 M.p.n c8, .slice A11 M.o.n c11, .slice A14 M.g.n c14, .slice A17 M.s.n c17, .slice A20 M.m.n c20] [(77, 2, .slice A2 M.r.n c2, M.r.n, x.rs.flatMap CRouter), (125, 3, .slice A5 M.l.n c5, M.l.n, x.ls.flatMap CLink), (80, 3, .slice A8 M.p.n c8, M.p.n, x.ps.flatMap CPort), (128, 5, .slice A11 M.o.n c11, M.o.n, x.os.flatMap CRoute), (149, 3, .slice A14 M.g.n c14, M.g.n, x.gs.flatMap CRange), (147, 3, .slice A17 M.s.n c17, M.s.n, x.ss.flatMap CSource)] wr) ∧ ys.length = M.m.n ∧ ys.map Mb.plain = x.ms.map Mb.plain ∧ ys.drop k = x.ms.drop k ∧
              Hid (∀ j y, j < k → ys[j]? = some y → y.n ≤ y.c ∧ y.n ≤ 1000000 ∧ IsAs y.xs ∧ wr.ownsRow W1.heap.size 42 1 (.slice y.A y.n y.c) y.n (A32 y.xs))) (fun i _ => M.m.n - (intOf i).toNat)
            case atStart => exact ⟨0, x.ms, Nat.zero_le _, rfl, HM0, HF0, HC.out.m.len, rfl, rfl, Lib.hid fun j y hj => absurd hj (Nat.not_lt_zero _)⟩
            case round =>
              obtain ⟨k, ys, hk, rfl, HOW, HFR, hlen, hpl, hdr, HSR⟩ := hrel
              rcases Nat.lt_or_ge k M.m.n with hlt | hge
              · obtain ⟨g, o, xx, hA, ho0, hbg, hgl, ⟨cs, hblk⟩, hx, hc⟩ := own_item member_len HOW.out hlen hlt
                have hxm : x.ms[k]? = some xx := by rw [← drop_get hdr]; exact hx
                have hbw0 : Below w.heap.size w wr := (HB0.out.trans (Hz01.out.mono HB0.out.size)).trans (HFR.out.hb.mono (Nat.le_trans HB0.out.size Hz01.out.size))
                obtain ⟨hsa, hsc, hs6⟩ := (HC.out.next hbw0).src xx (List.mem_of_getElem? hxm)
                obtain ⟨l1, g1, o1, Am, nm, cm, xsm⟩ := xx
                dsimp only at hsa hsc hs6
                have d0 : wr.cell? ⟨g, o + k * 4, none⟩ = some (.int .i64 l1) := hc 0 _ rfl
                have d1 : wr.cell? ⟨g, o + k * 4 + 1, none⟩ = some (.int .u32 g1) := hc 1 _ rfl
                have d2 : wr.cell? ⟨g, o + k * 4 + 2, none⟩ = some (.bool o1) := hc 2 _ rfl
                have d3 : wr.cell? ⟨g, o + k * 4 + 3, none⟩ = some (.slice Am nm cm) := hc 3 _ rfl
                have hcs : o + k * 4 + 3 < cs.size := by
                  have h1 := hblk.cell (o + k * 4 + 3)
                  rw [d3] at h1
                  exact (Array.getElem?_eq_some_iff.1 h1.symm).1
                have hNg : N ≠ g := by
                  rintro rfl
                  have h1 := HFR.out.blk
                  unfold Blk at h1 hblk
                  rw [h1] at hblk
                  cases hblk
                have hi0 : (k : Int) < (M.m.n : Int) := by omega
                have y0 : wr.cell? ⟨N, 6, none⟩ = some (.slice A20 M.m.n c20) := Blk.cell HFR.out.blk 6
                have HX := Lib.hid hx
                have HXM := Lib.hid hxm
                have HPL := Lib.hid hpl
                have HDR := Lib.hid hdr
                have HBK := Lib.hid hblk
                have HO0 := Lib.hid ho0
                have HSA := Lib.hid hsa
                clear hc hx hxm hbw0 hpl hdr hblk ho0 hsa
                subst hA
                go_wp2
                have hvg : wr.heap.size ≠ g := by omega
                have HV : Hid (Blk (wr.alloc (.cells #[.int .i64 l1, .int .u32 g1, .bool o1, .slice Am nm cm] 115)) wr.heap.size 115 #[.int .i64 l1, .int .u32 g1, .bool o1, .slice Am nm cm]) := Lib.hid (Blk.new _ _ _)
                have HB3 := Lib.hid ((Below.refl wr.heap.size wr).alloc (Nat.le_refl _) (.cells #[.int .i64 l1, .int .u32 g1, .bool o1, .slice Am nm cm] 115))
                generalize wr.alloc (.cells #[.int .i64 l1, .int .u32 g1, .bool o1, .slice Am nm cm] 115) = W3 at *
                have hb13 : W1.heap.size ≤ wr.heap.size := HFR.out.hb.size
                have hb133 : W1.heap.size ≤ W3.heap.size := Nat.le_trans hb13 HB3.out.size
                have HBK3 := Lib.hid (HBK.out.next HB3.out)
                have q0 : ∀ W, OffB W1.heap.size g W3 W → W.cell? ⟨N, 6, none⟩ = some (.slice (some ⟨g, o, none⟩) M.m.n c20) := fun W hW => hW.cell hNg (Blk.cell (HFR.out.blk.next HB3.out) 6)
                have q1 : ∀ W, OffB W1.heap.size g W3 W → W.cell? ⟨wr.heap.size, 3, none⟩ = some (.slice Am nm cm) := fun W hW => hW.cell hvg (Blk.cell HV.out 3)
                have q2 : ∀ W, OffB W1.heap.size g W3 W → W.cell? ⟨g, o + k * 4 + 3, none⟩ = some (rd W ⟨g, o + k * 4 + 3, none⟩) := fun W hW => Slot.cell (hW.slot _ _ HBK3.out.slot) hcs
                have q3 : ∀ W, OffB W1.heap.size g W3 W → W.frozen? ⟨g, o + k * 4 + 3, none⟩ = false := fun W hW => Slot.frozen (hW.slot _ _ HBK3.out.slot) _
                have hbs : OffB W1.heap.size g W3 W3 := OffB.refl _ _ _
                have HAS := Lib.hid fun W (hW : Below W3.heap.size W3 W) => copied_addr Am nm cm xsm W (AR.ir ((HSA.out.next HB3.out).next hW)) hs6
                clear y0 d0 d1 d2 d3
                go_region_held3 (fun w' => OffB W1.heap.size g W3 w')
                  (first | with_reducible assumption | exact OffB.drew (OffB.refl _ _ _) | with_reducible exact OffB.store (by with_reducible assumption) (by with_reducible assumption) _ _)
                  ((go_at_call 105; refine (HAS.out _ (Below.refl _ _).drew).mono ?_; rintro e w4 ⟨A', c', rfl, hc', hown', hir', hb4⟩; have hb5 : Below W3.heap.size W3 w4 := below_next (Below.refl _ _).drew hb4; have hb6 : OffB W1.heap.size g W3 w4 := OffB.next (OffB.refl _ _ _) hb5 hb133; clear hb4))
                have HB5 := Lib.hid hb5
                have HO5 : Hid (w4.ownsRow W1.heap.size 42 1 (.slice A' nm c') nm (A32 xsm)) := Lib.hid (by rw [← flat_caddr]; exact ownk_up hown' hb133)
                obtain rfl : o = 0 := HO0.out
                have e0 : 0 + k * 4 + 3 = k * 4 + 3 := by omega
                rw [e0]
                have hnew := ((ownk_next (ownk_next HOW.out HB3.out) hb5).stored (k * 4 + 3) (.slice A' nm c')).1
                rw [flat_set ys k _ A' nm c' HX.out] at hnew
                have hsl := HBK3.out.next hb5
                have hfr := (Fr.next (Fr.next HFR.out HB3.out hb13) hb5 hb133).store hsl hbg (by decide) (fun q hq => by
                  simp only [List.mem_cons, List.not_mem_nil, or_false] at hq
                  rcases hq with rfl | rfl | rfl | rfl | rfl | rfl <;> (dsimp only; decide)) (k * 4 + 3) (.slice A' nm c')
                have HNEW := Lib.hid hnew
                have HFN := Lib.hid hfr
                have HSN : Hid (∀ j y, j < k + 1 → (ys.set k ⟨l1, g1, o1, A', nm, c', xsm⟩)[j]? = some y → y.n ≤ y.c ∧ y.n ≤ 1000000 ∧ IsAs y.xs ∧ (w4.setCell ⟨g, k * 4 + 3, none⟩ (.slice A' nm c')).ownsRow W1.heap.size 42 1 (.slice y.A y.n y.c) y.n (A32 y.xs)) := by
                  intro j y hj hy
                  rcases Nat.lt_or_ge j k with h | h
                  · rw [List.getElem?_set_ne (by omega)] at hy
                    obtain ⟨a1, a2, a3, a4⟩ := HSR.out j y h hy
                    exact ⟨a1, a2, a3, ownk_far (ownk_next (ownk_next a4 HB3.out) HB5.out) hsl.slot (by decide)⟩
                  · obtain rfl : j = k := by omega
                    rw [List.getElem?_set_self (List.getElem?_eq_some_iff.1 HX.out).1] at hy
                    cases hy
                    exact ⟨hc', hs6, HSA.out.isAs, ownk_far HO5.out hsl.slot (by decide)⟩
                generalize w4.setCell ⟨g, k * 4 + 3, none⟩ (.slice A' nm c') = w5 at *
                clear q0 q1 q2 q3 hb5 hb6 hbs hnew hfr hsl hown' hir' e0
                go_wp2
                go_roundw
                case rel => exact ⟨k + 1, ys.set k ⟨l1, g1, o1, A', nm, c', xsm⟩, by omega, by go_num, HNEW, HFN, by simpa using hlen, (plain_set (m' := ⟨l1, g1, o1, A', nm, c', xsm⟩) HX.out rfl).trans HPL.out, by rw [List.drop_set_of_lt (by omega)]; exact drop_succ HDR.out, HSN⟩
                case measure => simp [intOf]; omega
              · obtain rfl : k = M.m.n := by omega
                have hs1 := HK1.out.next HFR.out.hb
                obtain ⟨⟨t0, t1, t2, t3, t4, t5, t6⟩, q0, q1, q2, q3, q4, q5, q6⟩ := slot7 hs1
                obtain ⟨W5, hW5, hk5, hb5, ho5⟩ := store7 hs1 (Nat.le_succ w.heap.size) (.slice A2 M.r.n c2) (.slice A5 M.l.n c5) (.slice A8 M.p.n c8) (.slice A11 M.o.n c11) (.slice A14 M.g.n c14) (.slice A17 M.s.n c17) (.slice A20 M.m.n c20)
                have n0 : wr.cell? ⟨N, 0, none⟩ = some (.slice A2 M.r.n c2) := Blk.cell HFR.out.blk 0
                have n1 : wr.cell? ⟨N, 1, none⟩ = some (.slice A5 M.l.n c5) := Blk.cell HFR.out.blk 1
                have n2 : wr.cell? ⟨N, 2, none⟩ = some (.slice A8 M.p.n c8) := Blk.cell HFR.out.blk 2
                have n3 : wr.cell? ⟨N, 3, none⟩ = some (.slice A11 M.o.n c11) := Blk.cell HFR.out.blk 3
                have n4 : wr.cell? ⟨N, 4, none⟩ = some (.slice A14 M.g.n c14) := Blk.cell HFR.out.blk 4
                have n5 : wr.cell? ⟨N, 5, none⟩ = some (.slice A17 M.s.n c17) := Blk.cell HFR.out.blk 5
                have n6 : wr.cell? ⟨N, 6, none⟩ = some (.slice A20 M.m.n c20) := Blk.cell HFR.out.blk 6
                have HPL := Lib.hid hpl
                have HW5 := Lib.hid hW5
                have HHO : Hid (∀ {t' : TypeId} {k n : Nat} {v : Value} {ys : List Value}, t' ≠ 30 → wr.ownsRow w.heap.size t' k v n ys → W5.ownsRow w.heap.size t' k v n ys) := ho5
                have HH5 := Lib.hid (hb5 w ((HB0.out.trans (Hz01.out.mono HB0.out.size)).trans (HFR.out.hb.mono (Nat.le_trans HB0.out.size Hz01.out.size))))
                clear hpl hdr hs1 hW5 ho5 hb5
                go_wp2
                rw [← HW5.out]
                have r0 : W5.cell? ⟨w.heap.size + 1, 0, none⟩ = some (.slice A2 M.r.n c2) := Blk.cell hk5 0
                have r1 : W5.cell? ⟨w.heap.size + 1, 1, none⟩ = some (.slice A5 M.l.n c5) := Blk.cell hk5 1
                have r2 : W5.cell? ⟨w.heap.size + 1, 2, none⟩ = some (.slice A8 M.p.n c8) := Blk.cell hk5 2
                have r3 : W5.cell? ⟨w.heap.size + 1, 3, none⟩ = some (.slice A11 M.o.n c11) := Blk.cell hk5 3
                have r4 : W5.cell? ⟨w.heap.size + 1, 4, none⟩ = some (.slice A14 M.g.n c14) := Blk.cell hk5 4
                have r5 : W5.cell? ⟨w.heap.size + 1, 5, none⟩ = some (.slice A17 M.s.n c17) := Blk.cell hk5 5
                have r6 : W5.cell? ⟨w.heap.size + 1, 6, none⟩ = some (.slice A20 M.m.n c20) := Blk.cell hk5 6
                clear t0 t1 t2 t3 t4 t5 t6 q0 q1 q2 q3 q4 q5 q6 n0 n1 n2 n3 n4 n5 n6 HW5
                refine bodyPost_ret (ret_clone _ (w.heap.size + 1) _ _ _ _ _ _ _ _ rfl r0 r1 r2 r3 r4 r5 r6) rfl ?_
                have hle : w.heap.size ≤ W1.heap.size := Nat.le_trans HB0.out.size Hz01.out.size
                have hms : ∀ y ∈ ys, ∃ z ∈ x.ms, z.plain = y.plain := fun y hy => by
                  have h1 := List.mem_map_of_mem (f := Mb.plain) hy
                  rw [HPL.out] at h1
                  obtain ⟨z, hz, e⟩ := List.mem_map.1 h1
                  exact ⟨z, hz, e⟩
                refine ⟨⟨⟨A2, M.r.n, c2⟩, ⟨A5, M.l.n, c5⟩, ⟨A8, M.p.n, c8⟩, ⟨A11, M.o.n, c11⟩, ⟨A14, M.g.n, c14⟩, ⟨A17, M.s.n, c17⟩, ⟨A20, M.m.n, c20⟩⟩, { x with ms := ys }, rfl, ?_, ⟨rfl, rfl, rfl, rfl, rfl, rfl, HPL.out⟩, HH5.out⟩
                have h0 := HFR.out.own
                refine ⟨HHO.out (t' := 77) (by decide) (ownk_up (h0 (_, _, _, _, _) (.head _)) hle), HHO.out (t' := 125) (by decide) (ownk_up (h0 (_, _, _, _, _) (.tail _ (.head _))) hle), HHO.out (t' := 80) (by decide) (ownk_up (h0 (_, _, _, _, _) (.tail _ (.tail _ (.head _)))) hle), HHO.out (t' := 128) (by decide) (ownk_up (h0 (_, _, _, _, _) (.tail _ (.tail _ (.tail _ (.head _))))) hle), HHO.out (t' := 149) (by decide) (ownk_up (h0 (_, _, _, _, _) (.tail _ (.tail _ (.tail _ (.tail _ (.head _)))))) hle), HHO.out (t' := 147) (by decide) (ownk_up (h0 (_, _, _, _, _) (.tail _ (.tail _ (.tail _ (.tail _ (.tail _ (.head _))))))) hle), HHO.out (by decide) (ownk_up HOW.out hle), ⟨HC.out.r.len, HC.out.l.len, HC.out.p.len, HC.out.o.len, HC.out.g.len, HC.out.s.len, hlen⟩, ⟨⟨h2, HC.out.rok.2⟩, ⟨h5, HC.out.lok.2⟩, ⟨h8, HC.out.pok.2⟩, ⟨h11, HC.out.ook.2⟩, ⟨h14, HC.out.gok.2⟩, ⟨h17, HC.out.sok.2⟩, ⟨h20, HC.out.mok.2⟩⟩, fun y hy => ?_, ⟨HC.out.ok.1, HC.out.ok.2.1, HC.out.ok.2.2.1, HC.out.ok.2.2.2.1, HC.out.ok.2.2.2.2.1, fun y hy => ?_⟩⟩
                · obtain ⟨j, hj⟩ := List.getElem?_of_mem hy
                  obtain ⟨a1, a2, a3, a4⟩ := HSR.out j y (by have hjl := (List.getElem?_eq_some_iff.1 hj).1; rw [hlen] at hjl; exact hjl) hj
                  exact ⟨a1, a2, a3, HHO.out (by decide) (ownk_up a4 hle)⟩
                · obtain ⟨z, hz, e⟩ := hms y hy
                  have h1 := HC.out.ok.2.2.2.2.2 z hz
                  have h2 : z.g = y.g := congrArg (fun q => q.2.1) e
                  rwa [h2] at h1

end Go.Proofs.YtdljpokhcfhhfaaGreatDoor

