/- The document's kept, SameKeys, FilterKeys, Filtered; over the seat's program. -/
import Derived.Test.YtfiiichiflglaaaFp
namespace Go.Proofs.Ytfiiichiflglaaa
open Go.ChangeShapes Go.WideShapes Go.ChangeAt Go.RowKit Sm Go.Maps
set_option maxHeartbeats 4000000 in
theorem kept_any (A : Option Addr) (n c : Nat) (ms : List Mb) (a : Int) (w : World) (h : MR w A n ms) (hn : n ≤ 1000000) (hx : ∀ m ∈ ms, m.n ≤ 1000000) :
    Calls Try.prog 26 #[.slice A n c, .int .u32 a] w fun e w' => e = .returned (.bool (keptP ms a)) ∧ Below w.heap.size w w' := by
  have H := Lib.hid h
  have HL := Lib.hid h.r.len
  have HX := Lib.hid hx
  clear h hx
  go_enter Try.func26, Try.ntmps26
  go_wp2
  go_loopw [5] (fun iv wr => ∃ k : Nat, k ≤ n ∧ iv = .int .i64 (k : Int) ∧ Hid (keptP (ms.take k) a = true) ∧ Hid (Below w.heap.size w wr)) (fun iv _ => n - (intOf iv).toNat)
  case atStart => exact ⟨0, Nat.zero_le _, rfl, Lib.hid (by unfold keptP; simp), Lib.hid (Below.refl _ _)⟩
  case round =>
    obtain ⟨k, hk, rfl, HK, HB⟩ := hrel
    rcases Nat.lt_or_ge k n with hlt | hge
    · obtain ⟨b, o, ⟨l1, g1, o1, A1, n1, c1, ys1⟩, rfl, hb, hm, hr, k0, k1, k2, k3⟩ := (H.out.next HB.out).cell hlt
      have hi0 : (k : Int) < (n : Int) := by omega
      have hi1 : (0 : Int) ≤ (k : Int) := by omega
      have HT := Lib.hid (kept_take (a := a) hm)
      have HF := Lib.hid (fun he => kept_not (a := a) hm he)
      have hn1 : n1 ≤ 1000000 := HX.out _ (List.mem_of_getElem? hm)
      simp only at HT HF
      obtain ⟨V, hV⟩ : ∃ V, ys1.contains a = V := ⟨_, rfl⟩
      rw [hV, HK.out, Bool.true_and] at HT
      rw [hV] at HF
      have q2 : ∀ p : Snc wr, p.W.cell? ⟨b, o + k * 4 + 2, none⟩ = some (.bool o1) := fun p => (p.b.cell (p := ⟨b, o + k * 4 + 2, none⟩) hb).trans k2
      have q3 : ∀ p : Snc wr, p.W.cell? ⟨b, o + k * 4 + 3, none⟩ = some (.slice A1 n1 c1) := fun p => (p.b.cell (p := ⟨b, o + k * 4 + 3, none⟩) hb).trans k3
      have G1 : ∀ p : Snc wr, Calls Try.prog 14 #[.slice A1 n1 c1, .int .u32 a] p.W fun e w' => e = .returned (.bool V) ∧ ∃ Q : Snc wr, w' = Q.W := fun p => Calls.since ((hasA_any A1 n1 c1 ys1 a p.W (hr.next p.b) hn1).mono fun e w' h => ⟨by rw [h.1, hV], h.2⟩)
      clear k0 k1 k2 k3 hm hV hr
      cases V <;> cases o1
      all_goals
        go_upto_region 4 with fail
        refine wp_region_since (by kernel_rfl) (by kernel_rfl) ?_
        repeat (go_big_quiet_step ((go_at_call 14; with_reducible exact G1 _)))
        refine wpQuiet_nil ?_
        rintro w5 ⟨P5, rfl⟩
        have HB5 := Lib.hid (HB.out.trans (P5.b.mono HB.out.size))
        clear q2 q3 G1 HB
        generalize P5.W = W5 at *
      · have HR : Hid (keptP ms a = false) := Lib.hid (HF.out rfl)
        go_wp2
        first | go_ret2 | go_ret
        exact ⟨by rw [HR.out]; rfl, HB5.out⟩
      · have HK2 : Hid (keptP (ms.take (k + 1)) a = true) := Lib.hid HT.out
        go_wp2
        go_roundw
        case rel => exact ⟨k + 1, by omega, by go_num, HK2, HB5⟩
        case measure => simp [intOf]; omega
      · have HK2 : Hid (keptP (ms.take (k + 1)) a = true) := Lib.hid HT.out
        go_wp2
        go_roundw
        case rel => exact ⟨k + 1, by omega, by go_num, HK2, HB5⟩
        case measure => simp [intOf]; omega
      · have HR : Hid (keptP ms a = false) := Lib.hid (HF.out rfl)
        go_wp2
        first | go_ret2 | go_ret
        exact ⟨by rw [HR.out]; rfl, HB5.out⟩
    · have q1 : ¬ (k : Int) < (n : Int) := by omega
      have HR : Hid (keptP ms a = true) := Lib.hid (by have := HK.out; rw [List.take_of_length_le (by rw [HL.out]; exact hge)] at this; exact this)
      go_wp2
      first | go_ret2 | go_ret
      exact ⟨by rw [HR.out]; rfl, HB.out⟩
theorem skey_any (a b c d : Int) (w : World) :
    Calls Try.prog 29 #[.agg #[.int .u32 a, .int .u32 b], .agg #[.int .u32 c, .int .u32 d]] w fun e w' => e = .returned (.bool ((a == c) && (b == d))) ∧ Below w.heap.size w w' := by
  obtain ⟨b1, e1⟩ : ∃ r, (a == c) = r := ⟨_, rfl⟩
  obtain ⟨b2, e2⟩ : ∃ r, (b == d) = r := ⟨_, rfl⟩
  rw [e1, e2]
  cases b1
  all_goals
    go_enter Try.func29, Try.ntmps29
    go_wp2
    go_ret
    exact ⟨ret_bool (by simp), ((Below.refl _ _).alloc (Nat.le_refl _) _).alloc (by simp) _⟩
set_option maxHeartbeats 4000000 in
/-- two rows that read as the same keys -/
theorem skeys_any (A B : Option Addr) (n c d : Nat) (xs : List (Int × Int)) (w : World) (h : RI CKy 2 w A n xs) (h2 : RI CKy 2 w B n xs) (hn : n ≤ 1000000) :
    Calls Try.prog 19 #[.slice A n c, .slice B n d] w fun e w' => e = .returned (.bool true) ∧ Below w.heap.size w w' := by
  have H := Lib.hid h
  have H2 := Lib.hid h2
  have hne : ((n : Int) != (n : Int)) = false := by simp
  clear h h2
  go_enter Try.func19, Try.ntmps19
  go_wp2
  go_loopw [5] (fun iv wr => ∃ k : Nat, k ≤ n ∧ iv = .int .i64 (k : Int) ∧ Hid (Below w.heap.size w wr)) (fun iv _ => n - (intOf iv).toNat)
  case atStart => exact ⟨0, Nat.zero_le _, rfl, Lib.hid (Below.refl _ _)⟩
  case round =>
    obtain ⟨k, hk, rfl, HB⟩ := hrel
    clear hne
    rcases Nat.lt_or_ge k n with hlt | hge
    · obtain ⟨b, o, ⟨x1, x2⟩, rfl, hb, hx, hc1⟩ := (H.out.next HB.out).at_ hlt
      obtain ⟨b2, o2, y, rfl, hb2, hy, hc2⟩ := (H2.out.next HB.out).at_ hlt
      obtain rfl : y = (x1, x2) := by rw [hx] at hy; cases hy; rfl
      have hi0 : (k : Int) < (n : Int) := by omega
      have hi1 : (0 : Int) ≤ (k : Int) := by omega
      have q0 : ∀ p : Snc wr, p.W.cell? ⟨b, o + k * 2, none⟩ = some (.int .u32 x1) := fun p => (p.b.cell (p := ⟨b, o + k * 2, none⟩) hb).trans (hc1 0 _ rfl)
      have q1 : ∀ p : Snc wr, p.W.cell? ⟨b, o + k * 2 + 1, none⟩ = some (.int .u32 x2) := fun p => (p.b.cell (p := ⟨b, o + k * 2 + 1, none⟩) hb).trans (hc1 1 _ rfl)
      have q2 : ∀ p : Snc wr, p.W.cell? ⟨b2, o2 + k * 2, none⟩ = some (.int .u32 x1) := fun p => (p.b.cell (p := ⟨b2, o2 + k * 2, none⟩) hb2).trans (hc2 0 _ rfl)
      have q3 : ∀ p : Snc wr, p.W.cell? ⟨b2, o2 + k * 2 + 1, none⟩ = some (.int .u32 x2) := fun p => (p.b.cell (p := ⟨b2, o2 + k * 2 + 1, none⟩) hb2).trans (hc2 1 _ rfl)
      have G1 : ∀ p : Snc wr, Calls Try.prog 29 #[.agg #[.int .u32 x1, .int .u32 x2], .agg #[.int .u32 x1, .int .u32 x2]] p.W fun e w' => e = .returned (.bool true) ∧ ∃ Q : Snc wr, w' = Q.W := fun p => Calls.since ((skey_any x1 x2 x1 x2 p.W).mono fun e w' h => ⟨by rw [h.1]; simp, h.2⟩)
      clear hx hy hc1 hc2
      go_upto_region 6 with fail
      refine wp_region_since (by kernel_rfl) (by kernel_rfl) ?_
      repeat (go_big_quiet_step ((go_at_call 29; with_reducible exact G1 _)))
      refine wpQuiet_nil ?_
      rintro w5 ⟨P5, rfl⟩
      have HB5 := Lib.hid (HB.out.trans (P5.b.mono HB.out.size))
      clear q0 q1 q2 q3 G1 HB
      generalize P5.W = W5 at *
      go_wp2
      go_roundw
      case rel => exact ⟨k + 1, by omega, by go_num, HB5⟩
      case measure => simp [intOf]; omega
    · have q1 : ¬ (k : Int) < (n : Int) := by omega
      go_wp2
      first | go_ret2 | go_ret
      exact ⟨rfl, HB.out⟩
end Go.Proofs.Ytfiiichiflglaaa

