/- The chapter's example of tries, over the seat's program. -/
import Derived.Test.YtnnoigdedjbbmaaTs
namespace Go.Proofs.Ytnnoigdedjbbmaa
open Go.RowKit
/-- a trie of the caller's own: all of its blocks are new since a world of B blocks -/
structure OT (B : Nat) (w : World) (N : Nat) (L : Tr.Row) : Prop where
  out : ∃ F, TR w F N L ∧ ∀ i, F i → B ≤ i
section
variable {B N : Nat} {w w' : World} {L : Tr.Row}
theorem OT.new (w : World) (hB : B ≤ w.heap.size) : OT B (w.alloc (.cells #[.map none] 31)) w.heap.size [] := ⟨_, TR.new w, fun i hi => by subst hi; exact hB⟩
theorem OT.next (h : OT B w N L) (hb : Below w.heap.size w w') : OT B w' N L := by obtain ⟨F, h1, h2⟩ := h; exact ⟨F, h1.next hb, h2⟩
end
theorem ot_put {B N : Nat} {L : Tr.Row} (w : World) (a n x : Int) (h : OT B w N L) (hB : B ≤ w.heap.size) (hp : wfP (a, n)) (hL : L.length ≤ 1000000) (hx : ((Tr.get L (a, n)).getD []).length ≤ 1000000) :
    Calls Try.prog 7 #[.pointer (some ⟨N, 0, none⟩), .agg #[.int .u32 a, .int .i64 n], .int .i64 x] w fun e w' => e = .returned (.bool (Ad.valid a n)) ∧ OT B w' N (Tr.putv L (a, n) x) ∧ Below B w w' := by
  obtain ⟨F, h1, h2⟩ := h
  refine (put_any w F N L a n x h1 hp hL hx).mono ?_
  rintro e w' ⟨rfl, F', g1, g2, g3⟩
  exact ⟨rfl, ⟨F', g1, fun i hi => (g3 i hi).elim (h2 i) (fun h => Nat.le_trans hB h)⟩, g2.below h2 hB⟩
def LookPost (w : World) (L : Tr.Row) (a : Int) (e : Ending) (w' : World) : Prop := Below w.heap.size w w' ∧
      ((Tr.look L a = none ∧ e = .returned (.tuple #[.agg #[.int .u32 0, .int .i64 0], .slice none 0 0, .bool false])) ∨
       ∃ (k : Nat) (xs : List Int) (v : Value), Tr.look L a = some (k, xs) ∧ e = .returned (.tuple #[.agg #[.int .u32 (Tr.ar a k), .int .i64 (k : Int)], v, .bool true]) ∧ w'.ownsRow w.heap.size 3 1 v xs.length (I64 xs))
theorem ot_look {B N : Nat} {L : Tr.Row} (w : World) (a : Int) (h : OT B w N L) (h0 : 0 ≤ a) (h1 : a ≤ 4294967295) (hn : ∀ p, ((Tr.get L p).getD []).length ≤ 1000000) :
    Calls Try.prog 11 #[.pointer (some ⟨N, 0, none⟩), .int .u32 a] w (LookPost w L a) := by
  obtain ⟨F, g1, g2⟩ := h
  exact look_any w F N L a g1 h0 h1 hn
theorem ot_len {B N : Nat} {L : Tr.Row} (w : World) (h : OT B w N L) :
    Calls Try.prog 16 #[.pointer (some ⟨N, 0, none⟩)] w fun e w' => e = .returned (.int .i64 L.length) ∧ w = w' := by
  obtain ⟨F, g1, g2⟩ := h
  exact len_any w F N L g1
theorem ot_get {B N : Nat} {L : Tr.Row} (w : World) (a n : Int) (h : OT B w N L) (hp : wfP (a, n)) (hn : ((Tr.get L (a, n)).getD []).length ≤ 1048576) :
    Calls Try.prog 14 #[.pointer (some ⟨N, 0, none⟩), .agg #[.int .u32 a, .int .i64 n]] w fun e w' => ∃ v, e = .returned (.tuple #[v, .bool (Tr.get L (a, n)).isSome]) ∧ w'.ownsRow w.heap.size 3 1 v ((Tr.get L (a, n)).getD []).length (I64 ((Tr.get L (a, n)).getD [])) ∧ Below w.heap.size w w' := by
  obtain ⟨F, g1, g2⟩ := h
  exact get_any w F N L (a, n) g1 hp hn
theorem valid00 : Ad.valid 0 0 = true := by decide
theorem look_nil (a : Int) : Tr.look [] a = none := by
  unfold Tr.look
  have : ∀ k, Tr.lk [] a k = none := by
    intro k
    induction k with
    | zero => rfl
    | succ k ih => simp [Tr.lk, Tr.get, ih]
  exact this 33
set_option maxHeartbeats 800000 in
theorem first_any (w : World) : Calls Try.prog 5 #[] w fun e w' => e = .returned (.bool true) ∧ Below w.heap.size w w' := by
  have h0 : OT w.heap.size (w.alloc (.cells #[.map none] 31)) w.heap.size [] := OT.new w (Nat.le_refl _)
  have hb0 := (Below.refl w.heap.size w).alloc (Nat.le_refl _) (.cells #[.map none] 31)
  generalize hz : w.heap.size = B at *
  go_enter Try.func5, Try.ntmps5
  go_wp2_with fail
  generalize w.alloc (.cells #[.map none] 31) = w0 at *
  refine (ot_look w0 5 h0 (by omega) (by omega) (by simp [Tr.get])).mono ?_
  rintro e w1 ⟨hb1, hp⟩
  have h1 := h0.next hb1
  have hb : Below B w w1 := hb0.trans (hb1.mono (by have := hb0.size; omega))
  rcases hp with ⟨_, rfl⟩ | ⟨k, xs, v, hl, _⟩
  · have hS : B ≤ w1.heap.size := by have := hb.size; omega
    have hb2 : Below B w (w1.alloc (.cells #[.int .u32 0, .int .i64 0] 27)) := hb.alloc hS _
    have h2 : OT B (w1.alloc (.cells #[.int .u32 0, .int .i64 0] 27)) B [] := h1.next ((Below.refl _ _).alloc (Nat.le_refl _) _)
    clear hb0 h0 hb1 hz hb h1
    go_wp2_with fail
    refine (ot_put _ 0 0 7 h2 (by simp; omega) ⟨by omega, by omega⟩ (by simp) (by simp [Tr.get])).mono ?_
    rintro e w3 ⟨rfl, h3, hb3⟩
    rw [valid00]
    have hL : (Tr.putv [] (0, 0) 7).length = 1 := by unfold Tr.putv; rw [if_pos valid00]; rfl
    have hB3 := hb2.trans hb3
    clear h2 hb2 hb3
    go_wp2_with fail
    refine (ot_len w3 h3).mono ?_
    rintro e w4 ⟨rfl, rfl⟩
    rw [hL]
    go_wp2
    go_ret
    exact ⟨rfl, hB3⟩
  · rw [look_nil] at hl
    cases hl
end Go.Proofs.Ytnnoigdedjbbmaa

