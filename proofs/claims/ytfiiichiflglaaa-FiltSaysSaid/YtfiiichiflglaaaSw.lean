/- filt.Lets, Admits, Same; the document's Admits; the chapter's examples; over the seat's program. -/
import Derived.Test.YtfiiichiflglaaaSe
namespace Go.Proofs.Ytfiiichiflglaaa
open Go.RowKit Sm Go.Maps
set_option maxHeartbeats 2000000 in
theorem lets_any (b : Bool) (A : Option Addr) (n c : Nat) (xs : List Int) (a : Int) (w : World) (h : AR w A n xs) (hn : n ≤ 1000000) :
    Calls Try.prog 13 #[.agg #[.bool b, .slice A n c], .int .u32 a] w fun e w' => e = .returned (.bool (xs.contains a != b)) ∧ Below w.heap.size w w' := by
  have hk := Blk.new w 25 #[.bool b, .slice A n c]
  have hB := (Below.refl w.heap.size w).alloc (Nat.le_refl _) (.cells #[.bool b, .slice A n c] 25)
  have har := h.next hB
  have HB := Lib.hid hB
  obtain ⟨V, hV⟩ : ∃ V, xs.contains a = V := ⟨_, rfl⟩
  clear h hB
  go_enter Try.func13, Try.ntmps13
  go_upto_region 1 with fail
  generalize w.alloc (.cells #[.bool b, .slice A n c] 25) = W1 at *
  generalize hNN : w.heap.size = N at *
  have k0 : ∀ p : Snc W1, p.W.cell? ⟨N, 0, none⟩ = some (.bool b) := fun p => (Blk.next hk p.b).cell 0
  have k1 : ∀ p : Snc W1, p.W.cell? ⟨N, 1, none⟩ = some (.slice A n c) := fun p => (Blk.next hk p.b).cell 1
  have R0 : ∀ p : Snc W1, Calls Try.prog 28 #[.slice A n c, .int .u32 a] p.W fun e w' => e = .returned (.bool V) ∧ ∃ Q : Snc W1, w' = Q.W := fun p => Calls.since_same ((contains_any A n c xs a p.W (har.next p.b) hn).mono fun e w' ⟨h1, h2⟩ => ⟨by rw [h1, hV], h2.symm⟩)
  have HN := Lib.hid hk.lt
  have HV := Lib.hid hV
  clear hk har hV
  cases V <;> cases b
  all_goals
    refine wp_region_since (by kernel_rfl) (by kernel_rfl) ?_
    repeat (go_big_quiet_step ((go_at_call 28; with_reducible exact R0 _)))
    refine wpQuiet_nil ?_
    rintro w5 ⟨P5, rfl⟩
    have HB5 := Lib.hid (HB.out.trans (P5.b.mono (Nat.le_of_lt HN.out)))
    clear R0 k0 k1
    go_wp2
    go_ret
    exact ⟨by rw [HV.out]; rfl, by rw [hNN]; exact HB5.out⟩
set_option maxHeartbeats 2000000 in
theorem admits_any (l g : Int) (b : Bool) (A : Option Addr) (n c : Nat) (xs : List Int) (a : Int) (w : World) (h : AR w A n xs) (hn : n ≤ 1000000) :
    Calls Try.prog 15 #[.agg #[.int .i64 l, .int .u32 g, .bool b, .slice A n c], .int .u32 a] w fun e w' => e = .returned (.bool (xs.contains a == b)) ∧ Below w.heap.size w w' := by
  have hk := Blk.new w 38 #[.int .i64 l, .int .u32 g, .bool b, .slice A n c]
  have hB := (Below.refl w.heap.size w).alloc (Nat.le_refl _) (.cells #[.int .i64 l, .int .u32 g, .bool b, .slice A n c] 38)
  have har := h.next hB
  have HB := Lib.hid hB
  obtain ⟨V, hV⟩ : ∃ V, xs.contains a = V := ⟨_, rfl⟩
  clear h hB
  go_enter Try.func15, Try.ntmps15
  go_upto_region 1 with fail
  generalize w.alloc (.cells #[.int .i64 l, .int .u32 g, .bool b, .slice A n c] 38) = W1 at *
  generalize hNN : w.heap.size = N at *
  have k0 : ∀ p : Snc W1, p.W.cell? ⟨N, 0, none⟩ = some (.int .i64 l) := fun p => (Blk.next hk p.b).cell 0
  have k1 : ∀ p : Snc W1, p.W.cell? ⟨N, 1, none⟩ = some (.int .u32 g) := fun p => (Blk.next hk p.b).cell 1
  have k2 : ∀ p : Snc W1, p.W.cell? ⟨N, 2, none⟩ = some (.bool b) := fun p => (Blk.next hk p.b).cell 2
  have k3 : ∀ p : Snc W1, p.W.cell? ⟨N, 3, none⟩ = some (.slice A n c) := fun p => (Blk.next hk p.b).cell 3
  have R0 : ∀ p : Snc W1, Calls Try.prog 28 #[.slice A n c, .int .u32 a] p.W fun e w' => e = .returned (.bool V) ∧ ∃ Q : Snc W1, w' = Q.W := fun p => Calls.since_same ((contains_any A n c xs a p.W (har.next p.b) hn).mono fun e w' ⟨h1, h2⟩ => ⟨by rw [h1, hV], h2.symm⟩)
  have HN := Lib.hid hk.lt
  have HV := Lib.hid hV
  clear hk har hV
  cases V <;> cases b
  all_goals
    refine wp_region_since (by kernel_rfl) (by kernel_rfl) ?_
    repeat (go_big_quiet_step ((go_at_call 28; with_reducible exact R0 _)))
    refine wpQuiet_nil ?_
    rintro w5 ⟨P5, rfl⟩
    have HB5 := Lib.hid (HB.out.trans (P5.b.mono (Nat.le_of_lt HN.out)))
    clear R0 k0 k1 k2 k3
    go_wp2
    go_ret
    exact ⟨by rw [HV.out]; rfl, by rw [hNN]; exact HB5.out⟩
set_option maxHeartbeats 2000000 in
theorem radmits_any (l g : Int) (b : Bool) (A : Option Addr) (n c : Nat) (xs : List Int) (a : Int) (w : World) (h : AR w A n xs) (hn : n ≤ 1000000) :
    Calls Try.prog 16 #[.agg #[.int .i64 l, .int .u32 g, .bool b, .slice A n c], .int .u32 a] w fun e w' => e = .returned (.bool (xs.contains a == b)) ∧ Below w.heap.size w w' := by
  have hk := Blk.new w 38 #[.int .i64 l, .int .u32 g, .bool b, .slice A n c]
  have hB := (Below.refl w.heap.size w).alloc (Nat.le_refl _) (.cells #[.int .i64 l, .int .u32 g, .bool b, .slice A n c] 38)
  have har := h.next hB
  have HB := Lib.hid hB
  obtain ⟨V, hV⟩ : ∃ V, xs.contains a = V := ⟨_, rfl⟩
  clear h hB
  go_enter Try.func16, Try.ntmps16
  go_upto_region 1 with fail
  generalize w.alloc (.cells #[.int .i64 l, .int .u32 g, .bool b, .slice A n c] 38) = W1 at *
  generalize hNN : w.heap.size = N at *
  have k0 : ∀ p : Snc W1, p.W.cell? ⟨N, 0, none⟩ = some (.int .i64 l) := fun p => (Blk.next hk p.b).cell 0
  have k1 : ∀ p : Snc W1, p.W.cell? ⟨N, 1, none⟩ = some (.int .u32 g) := fun p => (Blk.next hk p.b).cell 1
  have k2 : ∀ p : Snc W1, p.W.cell? ⟨N, 2, none⟩ = some (.bool b) := fun p => (Blk.next hk p.b).cell 2
  have k3 : ∀ p : Snc W1, p.W.cell? ⟨N, 3, none⟩ = some (.slice A n c) := fun p => (Blk.next hk p.b).cell 3
  have R0 : ∀ p : Snc W1, Calls Try.prog 14 #[.slice A n c, .int .u32 a] p.W fun e w' => e = .returned (.bool V) ∧ ∃ Q : Snc W1, w' = Q.W := fun p => Calls.since ((hasA_any A n c xs a p.W (har.next p.b) hn).mono fun e w' ⟨h1, h2⟩ => ⟨by rw [h1, hV], h2⟩)
  have HN := Lib.hid hk.lt
  have HV := Lib.hid hV
  clear hk har hV
  cases V <;> cases b
  all_goals
    refine wp_region_since (by kernel_rfl) (by kernel_rfl) ?_
    repeat (go_big_quiet_step ((go_at_call 14; with_reducible exact R0 _)))
    refine wpQuiet_nil ?_
    rintro w5 ⟨P5, rfl⟩
    have HB5 := Lib.hid (HB.out.trans (P5.b.mono (Nat.le_of_lt HN.out)))
    clear R0 k0 k1 k2 k3
    go_wp2
    go_ret
    exact ⟨by rw [HV.out]; rfl, by rw [hNN]; exact HB5.out⟩
set_option maxHeartbeats 4000000 in
theorem fsame_any (b1 b2 : Bool) (A1 A2 : Option Addr) (n1 c1 n2 c2 : Nat) (xs ys : List Int) (w : World) (h : AR w A1 n1 xs) (g : AR w A2 n2 ys) (hn : n1 ≤ 1000000) (hm : n2 ≤ 1000000) :
    Calls Try.prog 20 #[.agg #[.bool b1, .slice A1 n1 c1], .agg #[.bool b2, .slice A2 n2 c2]] w fun e w' => e = .returned (.bool (b1 == b2 && decide (xs = ys))) ∧ Below w.heap.size w w' := by
  have hB1 := (Below.refl w.heap.size w).alloc (Nat.le_refl _) (.cells #[.bool b1, .slice A1 n1 c1] 25)
  have hk1 := (Blk.new w 25 #[.bool b1, .slice A1 n1 c1]).alloc (.cells #[.bool b2, .slice A2 n2 c2] 25)
  have hk2 := Blk.new (w.alloc (.cells #[.bool b1, .slice A1 n1 c1] 25)) 25 #[.bool b2, .slice A2 n2 c2]
  have hB := hB1.alloc (by simp) (.cells #[.bool b2, .slice A2 n2 c2] 25)
  have h1 := h.next hB
  have h2 := g.next hB
  have hz : (w.alloc (.cells #[.bool b1, .slice A1 n1 c1] 25)).heap.size = w.heap.size + 1 := by simp
  rw [hz] at hk2
  have HB := Lib.hid hB
  obtain ⟨V, hV⟩ : ∃ V, decide (xs = ys) = V := ⟨_, rfl⟩
  clear h g hB hB1 hz
  go_enter Try.func20, Try.ntmps20
  go_upto_region 1 with fail
  generalize (w.alloc (.cells #[.bool b1, .slice A1 n1 c1] 25)).alloc (.cells #[.bool b2, .slice A2 n2 c2] 25) = W1 at *
  have hNM : w.heap.size < W1.heap.size := hk1.lt
  generalize w.heap.size + 1 = M at *
  generalize hNN : w.heap.size = N at *
  have k0 : W1.cell? ⟨N, 0, none⟩ = some (.bool b1) := hk1.cell 0
  have k1 : W1.cell? ⟨N, 1, none⟩ = some (.slice A1 n1 c1) := hk1.cell 1
  have k2 : W1.cell? ⟨M, 0, none⟩ = some (.bool b2) := hk2.cell 0
  have k3 : W1.cell? ⟨M, 1, none⟩ = some (.slice A2 n2 c2) := hk2.cell 1
  have R0 := Lib.hid ((equalA_any A1 A2 n1 n2 c1 c2 xs ys W1 h1 h2 (by omega) (by omega)).mono fun e w' (hh : e = _ ∧ _) => (⟨by rw [hh.1, hV], hh.2⟩ : e = .returned (.bool V) ∧ Below W1.heap.size W1 w'))
  have HV := Lib.hid hV
  have HN := Lib.hid hNM
  clear hk1 hk2 h1 h2 hV hNM
  cases b1 <;> cases b2
  all_goals
    go_wp2_with (go_at_call 30; (with_reducible refine R0.out.mono ?_); rintro e w2 ⟨rfl, hb2⟩)
    go_ret
    rw [HV.out]
  · exact ⟨by rfl, by rw [hNN]; exact HB.out.trans (hb2.mono (Nat.le_of_lt HN.out))⟩
  · exact ⟨by rfl, by rw [hNN]; exact HB.out⟩
  · exact ⟨by rfl, by rw [hNN]; exact HB.out⟩
  · exact ⟨by rfl, by rw [hNN]; exact HB.out.trans (hb2.mono (Nat.le_of_lt HN.out))⟩
end Go.Proofs.Ytfiiichiflglaaa

