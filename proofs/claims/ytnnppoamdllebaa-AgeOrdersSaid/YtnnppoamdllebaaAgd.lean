/- An argument that is a row of things told; two tables beside each other; who is in a table, plainly; over the seat's program. -/
import Derived.Test.YtnnppoamdllebaaAgo
import Derived.Test.YtnnppoamdllebaaAhp
import Derived.Test.YtnnppoamdllebaaAo
namespace Go.Proofs.Ytnnppoamdllebaa
open Go.ChangeShapes Go.WideShapes Go.ChangeAt Go.RowKit Go.MapKept Go.ChangeMaps Sm Ag
/-- something that a table is told -/
structure Dd where
  k : Int
  t : Th
  m : Ms
  A : Option Addr
  n : Nat
  c : Nat
def CDd (d : Dd) : List Value := [.int .i64 d.k, .int .i64 d.t.1, .int .i64 d.t.2.1, .int .u32 d.t.2.2.1, .int .u32 d.t.2.2.2.1, .int .u32 d.t.2.2.2.2,
  .int .i64 d.m.k, .int .u32 d.m.f, .int .u32 d.m.t, .int .u32 d.m.s, .int .u32 d.m.g, .int .i64 d.m.r, .int .i64 d.m.c, .bool d.m.o, .slice d.A d.n d.c]
def wfDd (W : World) (d : Dd) : Prop := wfT d.t ∧ AR W d.A d.n d.m.l
theorem op_msg {H : Type} {enc : TypeId × Value → H} {W : World} (n : Nat) {c0 c1 c2 c3 c4 c5 c6 c7 c8 : Value} {y : DataW H × List MemPlace} (hf : DataW.trod enc Try.prog W 0 (fun _ => true) true n 40 [c0, c1, c2, c3, c4, c5, c6, c7, c8] = some y) :
    ∃ (m : Ms) (A : Option Addr) (n c : Nat), [c0, c1, c2, c3, c4, c5, c6, c7, c8] = [Value.int .i64 m.k, .int .u32 m.f, .int .u32 m.t, .int .u32 m.s, .int .u32 m.g, .int .i64 m.r, .int .i64 m.c, .bool m.o, .slice A n c] ∧ AR W A n m.l := by
  have hs := Try.underlying40
  obtain ⟨xs, n, _, _, hl, hlen, hf⟩ := DataW.trod_struct hs hf
  have ki : Try.prog.cellsOf 3 = 1 := by kernel_rfl
  have ka : Try.prog.cellsOf 24 = 1 := by kernel_rfl
  have kk : Try.prog.cellsOf 26 = 2 := by kernel_rfl
  have kb : Try.prog.cellsOf 4 = 1 := by kernel_rfl
  have ks : Try.prog.cellsOf 38 = 1 := by kernel_rfl
  match xs, hlen with
  | [y0, y1, y2, y3, y4, y5, y6, y7], _ =>
    have g0 : DataW.trod enc Try.prog W 0 (fun _ => true) true n 3 [c0] = some y0 := by simpa [Value.cells, ki] using hf 0 _ rfl
    have g1 : DataW.trod enc Try.prog W 0 (fun _ => true) true n 24 [c1] = some y1 := by simpa [Value.cells, ka] using hf 1 _ rfl
    have g2 : DataW.trod enc Try.prog W 0 (fun _ => true) true n 24 [c2] = some y2 := by simpa [Value.cells, ka] using hf 2 _ rfl
    have g3 : DataW.trod enc Try.prog W 0 (fun _ => true) true n 26 [c3, c4] = some y3 := by simpa [Value.cells, kk] using hf 3 _ rfl
    have g4 : DataW.trod enc Try.prog W 0 (fun _ => true) true n 3 [c5] = some y4 := by simpa [Value.cells, ki] using hf 4 _ rfl
    have g5 : DataW.trod enc Try.prog W 0 (fun _ => true) true n 3 [c6] = some y5 := by simpa [Value.cells, ki] using hf 5 _ rfl
    have g6 : DataW.trod enc Try.prog W 0 (fun _ => true) true n 4 [c7] = some y6 := by simpa [Value.cells, kb] using hf 6 _ rfl
    have g7 : DataW.trod enc Try.prog W 0 (fun _ => true) true n 38 [c8] = some y7 := by simpa [Value.cells, ks] using hf 7 _ rfl
    obtain ⟨zs, n', _, _, _, hlen', hk⟩ := DataW.trod_struct Try.underlying26 g3
    obtain ⟨a0, e0, _, _⟩ := DataW.trod_int Try.underlying3 g0
    obtain ⟨a1, e1, _, w1⟩ := DataW.trod_int Try.underlying24 g1
    obtain ⟨a2, e2, _, w2⟩ := DataW.trod_int Try.underlying24 g2
    obtain ⟨a5, e5, _, _⟩ := DataW.trod_int Try.underlying3 g4
    obtain ⟨a6, e6, _, _⟩ := DataW.trod_int Try.underlying3 g5
    obtain ⟨a7, e7, _⟩ := DataW.trod_bool Try.underlying4 g6
    obtain ⟨A, len, cap, l, rfl, hA⟩ := opened_ar Try.underlying38 Try.underlying24 ka g7
    match zs, hlen' with
    | [z0, z1], _ =>
      have k0 : DataW.trod enc Try.prog W 0 (fun _ => true) true n' 24 [c3] = some z0 := by simpa [ka] using hk 0 _ rfl
      have k1 : DataW.trod enc Try.prog W 0 (fun _ => true) true n' 24 [c4] = some z1 := by simpa [ka] using hk 1 _ rfl
      obtain ⟨a3, e3, _, w3⟩ := DataW.trod_int Try.underlying24 k0
      obtain ⟨a4, e4, _, w4⟩ := DataW.trod_int Try.underlying24 k1
      simp only [List.cons.injEq, and_true] at e0 e1 e2 e3 e4 e5 e6 e7
      subst e0 e1 e2 e3 e4 e5 e6 e7
      exact ⟨⟨a0, a1, a2, a3, a4, a5, a6, a7, l⟩, A, len, cap, rfl, hA⟩
theorem opened_dd {H : Type} {enc : TypeId × Value → H} {W : World} {a0 : Option Addr} {len cap : Nat} {d0 : DataW H} {p : List MemPlace}
    (h0 : DataW.Trod enc Try.prog W 0 (fun _ => true) true 22 (.slice a0 len cap) d0 p) : ∃ xs, RI CDd 15 W a0 len xs ∧ (∀ x ∈ xs, wfDd W x) ∧ len ≤ cap := by
  refine open_items CDd (wfDd W) Try.underlying22 (by kernel_rfl) (by omega) ?_ h0
  intro n l y hl htr
  have ki : Try.prog.cellsOf 3 = 1 := by kernel_rfl
  have kt : Try.prog.cellsOf 28 = 5 := by kernel_rfl
  have km : Try.prog.cellsOf 40 = 9 := by kernel_rfl
  match l, hl with
  | [c0, c1, c2, c3, c4, c5, c6, c7, c8, c9, c10, c11, c12, c13, c14], _ =>
    obtain ⟨ys, n', _, _, _, hlen, hf⟩ := DataW.trod_struct Try.underlying42 htr
    match ys, hlen with
    | [y0, y1, y2], _ =>
      have g0 : DataW.trod enc Try.prog W 0 (fun _ => true) true n' 3 [c0] = some y0 := by simpa [ki] using hf 0 _ rfl
      have g1 : DataW.trod enc Try.prog W 0 (fun _ => true) true n' 28 [c1, c2, c3, c4, c5] = some y1 := by simpa [kt] using hf 1 _ rfl
      have g2 : DataW.trod enc Try.prog W 0 (fun _ => true) true n' 40 [c6, c7, c8, c9, c10, c11, c12, c13, c14] = some y2 := by simpa [km] using hf 2 _ rfl
      obtain ⟨a0, e0, _, w0⟩ := DataW.trod_int Try.underlying3 g0
      obtain ⟨x, e1, hx⟩ := op_thing _ g1
      obtain ⟨m, A, n2, c, e2, hA⟩ := op_msg _ g2
      have e1' : [c1, c2, c3, c4, c5] = [Value.int .i64 x.1, .int .i64 x.2.1, .int .u32 x.2.2.1, .int .u32 x.2.2.2.1, .int .u32 x.2.2.2.2] := e1
      simp only [List.cons.injEq, and_true] at e0 e1' e2
      obtain ⟨rfl, rfl, rfl, rfl, rfl⟩ := e1'
      obtain ⟨rfl, rfl, rfl, rfl, rfl, rfl, rfl, rfl, rfl⟩ := e2
      subst e0
      exact ⟨⟨a0, x, m, A, n2, c⟩, rfl, hx, hA⟩
/-! plain: who is in a table -/
/-- just these things, each once, all of no age, by one message -/
def Just (m : Ms) (X : Th → Prop) (M : List En) : Prop := (M.map (·.t)).Nodup ∧ ∀ e, e ∈ M ↔ X e.t ∧ e = ⟨e.t, 0, m⟩
theorem Just.put {m : Ms} {X : Th → Prop} {M : List En} (h : Just m X M) (x : Th) : Just m (fun z => X z ∨ z = x) (putP M ⟨x, 0, m⟩) := by
  have hin : x ∈ M.map (·.t) ↔ X x := by
    rw [List.mem_map]
    constructor
    · rintro ⟨e, he, rfl⟩; exact ((h.2 e).1 he).1
    · intro hx; exact ⟨⟨x, 0, m⟩, (h.2 _).2 ⟨hx, rfl⟩, rfl⟩
  have hyes : ⟨x, 0, m⟩ ∈ putP M ⟨x, 0, m⟩ := by
    unfold putP
    split
    · rename_i hs
      obtain ⟨e, he, hex⟩ := List.mem_map.1 ((findP_iff M x).1 hs)
      exact List.mem_map.2 ⟨e, he, by rw [if_pos hex]⟩
    · simp
  refine ⟨?_, fun e => ⟨fun he => ?_, ?_⟩⟩
  · rw [putP_t]
    split
    · exact h.1
    · rename_i hn
      rw [List.nodup_append]
      refine ⟨h.1, by simp, fun a ha b hb => ?_⟩
      simp only [List.mem_singleton] at hb
      subst hb
      exact fun e => hn (e ▸ ha)
  · rcases putP_mem he with rfl | ⟨h1, _⟩
    · exact ⟨.inr rfl, rfl⟩
    · exact ⟨.inl ((h.2 e).1 h1).1, ((h.2 e).1 h1).2⟩
  · rintro ⟨h1, h2⟩
    by_cases hx : e.t = x
    · rw [h2, hx]; exact hyes
    · have hm : e ∈ M := (h.2 e).2 ⟨h1.resolve_right hx, h2⟩
      unfold putP
      split
      · exact List.mem_map.2 ⟨e, hm, by rw [if_neg hx]⟩
      · exact List.mem_append_left _ hm
theorem Just.nil (m : Ms) : Just m (fun _ => False) [] := ⟨List.nodup_nil, fun e => by simp⟩
theorem Just.iff {m : Ms} {X Y : Th → Prop} {M : List En} (h : Just m X M) (hi : ∀ z, X z ↔ Y z) : Just m Y M := ⟨h.1, fun e => by rw [h.2, hi]⟩
theorem Just.nodup {m : Ms} {X : Th → Prop} {M : List En} (h : Just m X M) : M.Nodup := by
  have := h.1
  unfold List.Nodup at this ⊢
  rw [List.pairwise_map] at this
  exact this.imp fun h e => h (congrArg En.t e)
/-- what rises strictly is told by its members -/
theorem rise_unique : ∀ {L M : List En}, L.Pairwise (fun a b => ltT a.t b.t) → M.Pairwise (fun a b => ltT a.t b.t) → (∀ e, e ∈ L ↔ e ∈ M) → L = M
  | [], [], _, _, _ => rfl
  | [], b :: r, _, _, h => by have := (h b).2 (by simp); simp at this
  | a :: r, [], _, _, h => by have := (h a).1 (by simp); simp at this
  | a :: r, b :: s, h1, h2, h => by
    obtain ⟨p1, p2⟩ := List.pairwise_cons.1 h1
    obtain ⟨q1, q2⟩ := List.pairwise_cons.1 h2
    have hab : a = b := by
      rcases List.mem_cons.1 ((h a).1 (by simp)) with e | e
      · exact e
      · rcases List.mem_cons.1 ((h b).2 (by simp)) with e2 | e2
        · exact e2.symm
        · exact absurd (ltT_trans (p1 b e2) (q1 a e)) (ltT_irrefl _)
    subst hab
    refine congrArg _ (rise_unique p2 q2 fun e => ⟨fun he => ?_, fun he => ?_⟩)
    · rcases List.mem_cons.1 ((h e).1 (by simp [he])) with e1 | e1
      · subst e1; exact absurd (p1 e he) (ltT_irrefl _)
      · exact e1
    · rcases List.mem_cons.1 ((h e).2 (by simp [he])) with e1 | e1
      · subst e1; exact absurd (q1 e he) (ltT_irrefl _)
      · exact e1
/-! two tables -/
section
variable {w w' : World} {N N2 : Nat} {mb mb2 : Option Nat} {M M2 : List En}
theorem TP.other (h : TP w N mb M) (h2 : TP w N2 mb2 M2) (hc : Chg w w' N2 mb2) (hN : N ≠ N2) (hm : ∀ b, mb = some b → mb2 ≠ some b) : TP w' N mb M := by
  obtain ⟨T, h1, rfl⟩ := h
  refine ⟨T, ⟨h2.blk hc h1.box hN, ?_⟩, rfl⟩
  rcases h1.map with h3 | ⟨b, ck, rfl, ham⟩
  · exact .inl h3
  · refine .inr ⟨b, ck, rfl, (hc.block b ham.lt (fun e => ?_) (hm b rfl)).trans ham.block, ham.born, ham.once, ham.apart, fun p hp => ?_⟩
    · subst e
      obtain ⟨T2, g1, _⟩ := h2
      have := ham.block
      have hb := g1.box
      unfold Blk at hb
      rw [hb] at this
      cases this
    · have hg := ham.each p hp
      exact ⟨hg.1, hg.2.1, h2.ar hc hg.2.2.1, hg.2.2.2⟩
theorem TP.map_lt (h : TP w N mb M) {b : Nat} (hb : mb = some b) : b < w.heap.size := by
  obtain ⟨T, h1, _⟩ := h
  rcases h1.map with ⟨e, _⟩ | ⟨b', ck, e, hm⟩
  · rw [e] at hb; cases hb
  · rw [e] at hb; cases hb; exact hm.lt
end
/-- two tables of the call's own, apart -/
def TT (w : World) (N N2 : Nat) (P Q : List En → Prop) (wr : World) : Prop := ∃ mb M mb2 M2, TP wr N mb M ∧ P M ∧ TP wr N2 mb2 M2 ∧ Q M2 ∧ Mine w.heap.size N mb ∧ Mine w.heap.size N2 mb2 ∧ N ≠ N2 ∧ (∀ b, mb = some b → mb2 ≠ some b) ∧ Below w.heap.size w wr
section
variable {w wr : World} {N N2 : Nat} {P Q P' : List En → Prop}
theorem TT.below (h : TT w N N2 P Q wr) : Below w.heap.size w wr := by obtain ⟨_, _, _, _, _, _, _, _, _, _, _, _, h⟩ := h; exact h
theorem TT.swap (h : TT w N N2 P Q wr) : TT w N2 N Q P wr := by
  obtain ⟨mb, M, mb2, M2, h1, h2, h3, h4, h5, h6, h7, h8, h9⟩ := h
  exact ⟨mb2, M2, mb, M, h3, h4, h1, h2, h6, h5, h7.symm, fun b e e2 => h8 b e2 e, h9⟩
theorem TT.next {w2 : World} (h : TT w N N2 P Q wr) (hb : Below wr.heap.size wr w2) : TT w N N2 P Q w2 := by
  obtain ⟨mb, M, mb2, M2, h1, h2, h3, h4, h5, h6, h7, h8, h9⟩ := h
  exact ⟨mb, M, mb2, M2, h1.next hb, h2, h3.next hb, h4, h5, h6, h7, h8, h9.trans (hb.mono h9.size)⟩
theorem TT.imp (h : TT w N N2 P Q wr) (hi : ∀ M, P M → P' M) : TT w N N2 P' Q wr := by
  obtain ⟨mb, M, mb2, M2, h1, h2, h3⟩ := h
  exact ⟨mb, M, mb2, M2, h1, hi M h2, h3⟩
theorem hear_tt (h : TT w N N2 P Q wr) (x : Th) (m : Ms) (A : Option Addr) (n cp : Nat) (hx : wfT x) (hroom : ∀ M, P M → M.length < 65536) (ha : AR wr A n m.l) (hn : n ≤ 1000000) (hQ : ∀ M, P M → P' (putP M ⟨x, 0, m⟩)) :
    Calls Try.prog 10 #[.pointer (some ⟨N, 0, none⟩), tv x, mv m A n cp] wr fun e w' => e = .returned (.bool true) ∧ TT w N N2 P' Q w' := by
  obtain ⟨mb, M, mb2, M2, h1, h2, h3, h4, h5, h6, h7, h8, h9⟩ := h
  refine (hear_p wr N mb M x m A n cp h1 hx (hroom M h2) ha hn).mono ?_
  rintro e w' ⟨rfl, mb', g1, g2, g3⟩
  refine ⟨rfl, mb', _, mb2, M2, g1, hQ M h2, h3.other h1 g2 h7.symm (fun b e e2 => h8 b e2 e), h4, h5.heard h9.size g3, h6, h7, fun b e e2 => ?_, h9.trans (h5.below g2 h9.size)⟩
  rcases g3 b e with g4 | g4
  · exact h8 b g4 e2
  · have := h3.map_lt e2
    omega
theorem len_tt (h : TT w N N2 P Q wr) (l : Nat) (hl : ∀ M, P M → M.length = l) :
    Calls Try.prog 9 #[.pointer (some ⟨N, 0, none⟩)] wr fun e w' => e = .returned (.int .i64 l) ∧ wr = w' := by
  obtain ⟨mb, M, mb2, M2, h1, h2, _⟩ := h
  rw [← hl M h2]
  exact len_p wr N mb M h1
theorem all_tt (h : TT w N N2 P Q wr) (kind : Int) (hs : ∀ M, P M → M.length ≤ 100000) (L0 : List En) (hl : ∀ M, P M → ∀ L : List En, AllP M kind L → L = L0) :
    Calls Try.prog 17 #[.pointer (some ⟨N, 0, none⟩), .int .i64 kind] wr fun e w' => ∃ (A : Option Addr) (c : Nat) (L : List Ex), e = .returned (.slice A L0.length c) ∧ RI encE 15 w' A L0.length L ∧ L.map (·.e) = L0 ∧ TT w N N2 P Q w' ∧ Below wr.heap.size wr w' ∧ ∃ M, P M ∧ AllP M kind L0 := by
  have h' := h
  obtain ⟨mb, M, mb2, M2, h1, h2, _⟩ := h'
  refine (all_p wr N mb M kind h1 (hs M h2)).mono ?_
  rintro e w' ⟨A, c, L, rfl, h3, _, h5, hb⟩
  have h6 := hl M h2 _ h5
  have h7 : L.length = L0.length := by rw [← h6]; simp
  rw [h7] at h3
  exact ⟨A, c, L, by rw [h7], h3, h6, h.next hb, hb, M, h2, h6 ▸ h5⟩
end
end Go.Proofs.Ytnnppoamdllebaa

