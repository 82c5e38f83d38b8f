/- Two tries beside each other; rows of prefixes held against one another; over the seat's program. -/
import Derived.Test.YtnnoigdedjbbmaaTo
import Derived.Test.YtnnoigdedjbbmaaRef
namespace Go.Proofs.Ytnnoigdedjbbmaa
open Go.RowKit
/-- two tries of the caller's own, no block of both -/
structure TT (B : Nat) (w : World) (N1 : Nat) (L1 : Tr.Row) (N2 : Nat) (L2 : Tr.Row) : Prop where
  out : ∃ F1 F2, TR w F1 N1 L1 ∧ TR w F2 N2 L2 ∧ (∀ i, F1 i → ¬ F2 i) ∧ (∀ i, F1 i → B ≤ i) ∧ (∀ i, F2 i → B ≤ i)
section
variable {B N1 N2 : Nat} {w w' : World} {L1 L2 : Tr.Row}
theorem TT.fst (h : TT B w N1 L1 N2 L2) : OT B w N1 L1 := by obtain ⟨F1, F2, h1, _, _, h4, _⟩ := h; exact ⟨F1, h1, h4⟩
theorem TT.swap (h : TT B w N1 L1 N2 L2) : TT B w N2 L2 N1 L1 := by obtain ⟨F1, F2, h1, h2, h3, h4, h5⟩ := h; exact ⟨F2, F1, h2, h1, fun i g e => h3 i e g, h5, h4⟩
theorem TT.snd (h : TT B w N1 L1 N2 L2) : OT B w N2 L2 := h.swap.fst
theorem TT.next (h : TT B w N1 L1 N2 L2) (hb : Below w.heap.size w w') : TT B w' N1 L1 N2 L2 := by
  obtain ⟨F1, F2, h1, h2, h3⟩ := h; exact ⟨F1, F2, h1.next hb, h2.next hb, h3⟩
theorem TT.new (w : World) (hB : B ≤ w.heap.size) : TT B ((w.alloc (.cells #[.map none] 31)).alloc (.cells #[.map none] 31)) w.heap.size [] (w.heap.size + 1) [] := by
  have h2 := TR.new (w.alloc (.cells #[.map none] 31))
  rw [show (w.alloc (.cells #[.map none] 31)).heap.size = w.heap.size + 1 by simp] at h2
  exact ⟨_, _, (TR.new w).next ((Below.refl _ _).alloc (Nat.le_refl _) _), h2, fun i h e => by subst h; omega, fun i h => by subst h; exact hB, fun i h => by subst h; omega⟩
end
theorem tt_put {B N1 N2 : Nat} {L1 L2 : Tr.Row} (w : World) (a n x : Int) (h : TT B w N1 L1 N2 L2) (hB : B ≤ w.heap.size) (hp : wfP (a, n)) (hL : L1.length ≤ 1000000) (hx : ((Tr.get L1 (a, n)).getD []).length ≤ 1000000) :
    Calls Try.prog 7 #[.pointer (some ⟨N1, 0, none⟩), .agg #[.int .u32 a, .int .i64 n], .int .i64 x] w fun e w' => e = .returned (.bool (Ad.valid a n)) ∧ TT B w' N1 (Tr.putv L1 (a, n) x) N2 L2 ∧ Below B w w' := by
  obtain ⟨F1, F2, h1, h2, h3, h4, h5⟩ := h
  refine (put_any w F1 N1 L1 a n x h1 hp hL hx).mono ?_
  rintro e w' ⟨rfl, F', g1, g2, g3⟩
  refine ⟨rfl, ⟨F', F2, g1, h2.kept (fun i hi => g2.block i (h2.lt i hi) (fun e => h3 i e hi)) g2.size, fun i hi e => ?_, fun i hi => (g3 i hi).elim (h4 i) (fun h => Nat.le_trans hB h), h5⟩, g2.below h4 hB⟩
  rcases g3 i hi with h | h
  · exact h3 i h e
  · have := h2.lt i e; omega
/-- what a look-up tells, none or not -/
def lkP (L : Tr.Row) (a : Int) : Tr.Pf := match Tr.look L a with | none => (0, 0) | some (k, _) => (Tr.ar a k, (k : Int))
def lkX (L : Tr.Row) (a : Int) : List Int := match Tr.look L a with | none => [] | some (_, xs) => xs
theorem look_uni {w w' : World} {L : Tr.Row} {a : Int} {e : Ending} (h : LookPost w L a e w') : Below w.heap.size w w' ∧ ∃ A c, e = .returned (.tuple #[.agg #[.int .u32 (lkP L a).1, .int .i64 (lkP L a).2], .slice A (lkX L a).length c, .bool (Tr.look L a).isSome]) ∧ JR w' A (lkX L a).length (lkX L a) := by
  obtain ⟨hb, h⟩ := h
  refine ⟨hb, ?_⟩
  unfold lkP lkX
  rcases h with ⟨hl, rfl⟩ | ⟨k, xs, v, hl, rfl, hown⟩
  · rw [hl]
    exact ⟨none, 0, rfl, rfl, fun hn => by simp at hn⟩
  · rw [hl]
    obtain ⟨A, c, rfl, hJ⟩ := own_jr hown
    exact ⟨A, c, rfl, hJ⟩
theorem lkX_short {L : Tr.Row} {m : Nat} (h : ∀ p, ((Tr.get L p).getD []).length ≤ m) (a : Int) : (lkX L a).length ≤ m := by
  unfold lkX
  rcases Tr.lk_spec L a 33 with ⟨g, _⟩ | ⟨k, xs, _, g2, g3, _⟩
  · rw [Tr.look, g]; simp
  · rw [Tr.look, g2]
    have := h (Tr.ar a k, (k : Int))
    rw [g3] at this
    exact this
theorem ot_all {B N : Nat} {L : Tr.Row} (w : World) (h : OT B w N L) (hL : L.length ≤ 1000000) : Calls Try.prog 15 #[.pointer (some ⟨N, 0, none⟩)] w (AllPost w L) := by
  obtain ⟨F, g1, g2⟩ := h
  exact all_any w F N L g1 hL
theorem below_drew {w w2 : World} (hb : Below w.drew.heap.size w.drew w2) : Below w.heap.size w w2 := ((Below.refl _ _).drew).trans hb
theorem sames_any (A B : Option Addr) (n c d : Nat) (xs ys : List Tr.Pf) (w : World) (h : RI encPf 2 w A n xs) (g : RI encPf 2 w B n ys) (he : xs = ys) (hn : n ≤ 1048576) :
    Calls Try.prog 18 #[.slice A n c, .slice B n d] w fun e w' => e = .returned (.bool true) ∧ Below w.heap.size w w' := by
  subst he
  have hne : ((n : Int) != (n : Int)) = false := by simp
  have HH : Hid (∀ W, Below w.heap.size w W → RI encPf 2 W A n xs) := Lib.hid fun W hW => h.next hW
  have HG : Hid (∀ W, Below w.heap.size w W → RI encPf 2 W B n xs) := Lib.hid fun W hW => g.next hW
  clear h g
  go_enter Try.func18, Try.ntmps18
  go_wp2_with fail
  go_loopw [5] (fun i wr => ∃ k : Nat, k ≤ n ∧ i = .int .i64 k ∧ Below w.heap.size w wr) (fun i _ => n - (intOf i).toNat)
  case atStart => exact ⟨0, Nat.zero_le _, rfl, Below.refl _ _⟩
  case round =>
    obtain ⟨k, hk, rfl, hbw⟩ := hrel
    rcases Nat.lt_or_ge k n with hlt | hge
    · obtain ⟨b, o, ⟨x, y⟩, rfl, hbl, hx, hc⟩ := (HH.out wr hbw).at_ hlt
      obtain ⟨b', o', ⟨x', y'⟩, rfl, hbl', hx', hc'⟩ := (HG.out wr hbw).at_ hlt
      obtain ⟨rfl, rfl⟩ : x = x' ∧ y = y' := by rw [hx] at hx'; cases hx'; exact ⟨rfl, rfl⟩
      have c0 : ∀ W, Below wr.heap.size wr W → W.cell? ⟨b, o + k * 2, none⟩ = some (.int .u32 x) := fun W hW => (hW.cell (p := ⟨b, o + k * 2, none⟩) hbl).trans (hc 0 _ rfl)
      have c1 : ∀ W, Below wr.heap.size wr W → W.cell? ⟨b, o + k * 2 + 1, none⟩ = some (.int .i64 y) := fun W hW => (hW.cell (p := ⟨b, o + k * 2 + 1, none⟩) hbl).trans (hc 1 _ rfl)
      have d0 : ∀ W, Below wr.heap.size wr W → W.cell? ⟨b', o' + k * 2, none⟩ = some (.int .u32 x) := fun W hW => (hW.cell (p := ⟨b', o' + k * 2, none⟩) hbl').trans (hc' 0 _ rfl)
      have d1 : ∀ W, Below wr.heap.size wr W → W.cell? ⟨b', o' + k * 2 + 1, none⟩ = some (.int .i64 y) := fun W hW => (hW.cell (p := ⟨b', o' + k * 2 + 1, none⟩) hbl').trans (hc' 1 _ rfl)
      have hi0 : (k : Int) < n := by omega
      have hS := Below.refl wr.heap.size wr
      have HB := Lib.hid hbw
      clear hx hx' hc hc' hbw
      go_wp2_with fail
      go_region_held3 (fun W => Below wr.heap.size wr W) (first | with_reducible assumption | with_reducible exact (Below.refl _ _).drew)
        (first
        | (go_at_call 12; refine (same_any _ _ _ _ _).mono ?_; rintro e w2 ⟨rfl, hb2⟩; have hb3 := below_drew hb2))
      have hB2 := HB.out.trans (hb3.mono HB.out.size)
      clear hb2 hb3 c0 c1 d0 d1 hS
      go_wp2
      go_roundw
      case rel => exact ⟨k + 1, by omega, by go_num, hB2⟩
      case measure => simp [intOf]; omega
    · obtain rfl : k = n := by omega
      go_wp2
      go_ret
      exact ⟨rfl, hbw⟩
end Go.Proofs.Ytnnoigdedjbbmaa

