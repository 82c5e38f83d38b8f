/- want.Same: whether two rows are the same; slices.Equal at ints; over the seat's program. -/
import Derived.Test.YteibmegeoojleaaGa
import Derived.Test.YteibmegeoojleaaShelf
namespace Go.Proofs.Yteibmegeoojleaa
open Go.ChangeShapes Go.WideShapes Go.ChangeAt Go.RowKit Sm Go.Maps
theorem jr_cells {w : World} {b o n : Nat} {xs : List Int} (h : JR w (some ⟨b, o, none⟩) n xs) : ∀ j, j < xs.length → w.cell? ⟨b, o + j, none⟩ = some (.int .i64 (xs.getD j 0)) := fun j hj => by
  obtain ⟨b2, o2, e, _, hc⟩ := h.2 (by have := h.1; omega)
  cases e
  exact hc j (by have := h.1; omega)
theorem eqI_any (A B : Option Addr) (c d : Nat) (xs ys : List Int) (w : World) (h : JR w A xs.length xs) (g : JR w B ys.length ys) (hn : xs.length ≤ 1000) (hm : ys.length ≤ 1000) :
    Calls Try.prog 23 #[.slice A xs.length c, .slice B ys.length d] w fun e w' => e = .returned (.bool (xs == ys)) ∧ Below w.heap.size w w' := by
  by_cases hl : xs.length = ys.length
  · by_cases h0 : xs.length = 0
    · have hx : xs = [] := List.eq_nil_of_length_eq_zero h0
      have hy : ys = [] := List.eq_nil_of_length_eq_zero (by omega)
      subst hx hy
      refine (Try.slices_Equal_int_empty A B c 0 d w (by omega)).mono ?_
      rintro e w' ⟨rfl, rfl⟩
      exact ⟨rfl, Below.refl _ _⟩
    · obtain ⟨b1, o1, rfl, _⟩ := h.2 (by omega)
      obtain ⟨b2, o2, rfl, _⟩ := g.2 (by omega)
      refine (Try.slices_Equal_int b1 o1 xs.length c b2 o2 ys.length d xs ys w (Nat.le_refl _) (Nat.le_refl _) (by omega) (by omega) (jr_cells h) (jr_cells g)).mono ?_
      rintro e w' ⟨rfl, q, rfl⟩
      exact ⟨by rw [List.take_length, List.take_length], below_drewN (Below.refl _ _) _⟩
  · refine (Try.slices_Equal_int_lens A B xs.length c ys.length d w hl).mono ?_
    rintro e w' ⟨rfl, rfl⟩
    refine ⟨?_, Below.refl _ _⟩
    have : (xs == ys) = false := by simpa using fun e : xs = ys => hl (by rw [e])
    rw [this]
def sameR (p q : PRow) : Bool := (p.r == q.r) && ((p.i == q.i) && ((p.u == q.u) && (((p.k.1 == q.k.1) && (p.k.2 == q.k.2)) && (p.xs == q.xs))))
set_option maxRecDepth 100000 in
set_option maxHeartbeats 4000000 in
theorem wsame_any (p q : PRow) (A B : Option Addr) (c d : Nat) (w : World) (h : JR w A p.xs.length p.xs) (g : JR w B q.xs.length q.xs) (hn : p.xs.length ≤ 1000) (hm : q.xs.length ≤ 1000) :
    Calls Try.prog 16 #[.agg #[.int .i64 p.r, .int .i64 p.i, .int .i64 p.u, .int .u32 p.k.1, .int .u32 p.k.2, .slice A p.xs.length c], .agg #[.int .i64 q.r, .int .i64 q.i, .int .i64 q.u, .int .u32 q.k.1, .int .u32 q.k.2, .slice B q.xs.length d]] w fun e w' => e = .returned (.bool (sameR p q)) ∧ Below w.heap.size w w' := by
  obtain ⟨r1, i1, u1, ⟨s1, g1⟩, xs⟩ := p
  obtain ⟨r2, i2, u2, ⟨s2, g2⟩, ys⟩ := q
  dsimp only at h g hn hm ⊢
  have HB0 := Lib.hid (((Below.refl w.heap.size w).alloc (Nat.le_refl _) (.cells #[.int .i64 r1, .int .i64 i1, .int .i64 u1, .int .u32 s1, .int .u32 g1, .slice A xs.length c] 43)).alloc (by simp) (.cells #[.int .i64 r2, .int .i64 i2, .int .i64 u2, .int .u32 s2, .int .u32 g2, .slice B ys.length d] 43))
  have HE : Hid (sameR ⟨r1, i1, u1, (s1, g1), xs⟩ ⟨r2, i2, u2, (s2, g2), ys⟩ = ((r1 == r2) && ((i1 == i2) && ((u1 == u2) && (((s1 == s2) && (g1 == g2)) && (xs == ys)))))) := Lib.hid rfl
  have HEQ := Lib.hid (eqI_any A B c d xs ys _ (h.next HB0.out) (g.next HB0.out) hn hm)
  clear h g
  generalize sameR ⟨r1, i1, u1, (s1, g1), xs⟩ ⟨r2, i2, u2, (s2, g2), ys⟩ = R at *
  obtain ⟨V, hV⟩ : ∃ V, (xs == ys) = V := ⟨_, rfl⟩
  rw [hV] at HEQ HE
  clear hV
  go_enter Try.func16, Try.ntmps16
  cases e1 : (r1 == r2) with
  | false =>
    go_wp2
    go_ret
    exact ⟨by rw [HE.out, e1]; rfl, HB0.out⟩
  | true =>
    cases e2 : (i1 == i2) with
    | false =>
      go_wp2
      go_ret
      exact ⟨by rw [HE.out, e1, e2]; rfl, HB0.out⟩
    | true =>
      cases e3 : (u1 == u2) with
      | false =>
        go_wp2
        go_ret
        exact ⟨by rw [HE.out, e1, e2, e3]; rfl, HB0.out⟩
      | true =>
        cases e4 : (s1 == s2) with
        | false =>
          go_wp2
          go_ret
          exact ⟨by rw [HE.out, e1, e2, e3, e4]; rfl, HB0.out⟩
        | true =>
          cases e5 : (g1 == g2) with
          | false =>
            go_wp2
            go_ret
            exact ⟨by rw [HE.out, e1, e2, e3, e4, e5]; rfl, HB0.out⟩
          | true =>
            go_wp2_with (go_at_call 23; refine HEQ.out.mono ?_; rintro e w1 ⟨rfl, hb1⟩)
            go_ret
            exact ⟨by rw [HE.out, e1, e2, e3, e4, e5]; rfl, HB0.out.trans (hb1.mono HB0.out.size)⟩
end Go.Proofs.Yteibmegeoojleaa

