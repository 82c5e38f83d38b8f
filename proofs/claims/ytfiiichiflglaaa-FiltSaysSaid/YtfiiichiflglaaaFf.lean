/- The statements of chapter 14: the chapter's examples, what is light; members in a literal; what a filter lets by, plainly; over the seat's program. -/
import Derived.Test.YtfiiichiflglaaaSw
import Derived.Test.YtfiiichiflglaaaBytes
namespace Go.Proofs.Ytfiiichiflglaaa
open Go.RowKit Sm Go.Maps
theorem mr_lit1 {w : World} {g : Nat} {t : TypeId} {m : Mb} (h : Blk w g t #[.int .i64 m.l, .int .u32 m.g, .bool m.o, .slice m.A m.n m.c]) (ha : AR w m.A m.n m.xs) : MR w (some ⟨g, 0, none⟩) 1 [m] :=
  ⟨⟨rfl, fun _ => ⟨g, 0, rfl, h.lt, fun i x hx j v hv => by
    have hi : i = 0 := by have := (List.getElem?_eq_some_iff.1 hx).1; simp at this; exact this
    subst hi
    simp at hx
    subst hx
    have := h.cell j
    rw [show (0 : Nat) + 0 * 4 + j = j by omega, this]
    simpa [CMember] using hv⟩⟩, fun x hx => by simp at hx; subst hx; exact ha⟩
theorem mr_lit2 {w : World} {g : Nat} {t : TypeId} {m k : Mb} (h : Blk w g t #[.int .i64 m.l, .int .u32 m.g, .bool m.o, .slice m.A m.n m.c, .int .i64 k.l, .int .u32 k.g, .bool k.o, .slice k.A k.n k.c]) (ha : AR w m.A m.n m.xs) (hb : AR w k.A k.n k.xs) : MR w (some ⟨g, 0, none⟩) 2 [m, k] :=
  ⟨⟨rfl, fun _ => ⟨g, 0, rfl, h.lt, fun i x hx j v hv => by
    have hi : i < 2 := by have := (List.getElem?_eq_some_iff.1 hx).1; simpa using this
    rcases i with _ | _ | i
    · simp at hx
      subst hx
      rw [show (0 : Nat) + 0 * 4 + j = j by omega, h.cell j]
      have hj : j < 4 := by have := (List.getElem?_eq_some_iff.1 hv).1; simpa [CMember] using this
      rcases j with _ | _ | _ | _ | j
      · simpa [CMember] using hv
      · simpa [CMember] using hv
      · simpa [CMember] using hv
      · simpa [CMember] using hv
      · omega
    · simp at hx
      subst hx
      have hj : j < 4 := by have := (List.getElem?_eq_some_iff.1 hv).1; simpa [CMember] using this
      rw [show (0 : Nat) + (0 + 1) * 4 + j = 4 + j by omega, h.cell (4 + j)]
      rcases j with _ | _ | _ | _ | j
      · simpa [CMember] using hv
      · simpa [CMember] using hv
      · simpa [CMember] using hv
      · simpa [CMember] using hv
      · omega
    · omega⟩⟩, fun x hx => by
      simp at hx
      rcases hx with rfl | rfl
      · exact ha
      · exact hb⟩
/-- a member of nothing -/
def mb0 : Mb := ⟨0, 0, false, none, 0, 0, []⟩
def ltP (ms : List Mb) : Bool := ms.all (fun m => decide (m.n ≤ 10)) && decide (ms.length ≤ 12)
set_option maxHeartbeats 2000000 in
theorem light_any (A : Option Addr) (n c : Nat) (ms : List Mb) (w : World) (h : MR w A n ms) (hn : n ≤ 9223372036854775807) :
    Calls Try.prog 9 #[.slice A n c] w fun e w' => e = .returned (.bool (ltP ms)) ∧ w = w' := by
  have H := Lib.hid h
  have HL := Lib.hid h.r.len
  clear h
  go_enter Try.func9, Try.ntmps9
  go_wp2
  go_loopw [3] (fun iv wr => ∃ k : Nat, k ≤ n ∧ iv = .int .i64 (k : Int) ∧ Hid ((ms.take k).all (fun m => decide (m.n ≤ 10)) = true) ∧ w = wr) (fun iv _ => n - (intOf iv).toNat)
  case atStart => exact ⟨0, Nat.zero_le _, rfl, Lib.hid rfl, rfl⟩
  case round =>
    obtain ⟨k, hk, rfl, HA, rfl⟩ := hrel
    rcases Nat.lt_or_ge k n with hlt | hge
    · obtain ⟨b, o, m, rfl, hb, hm, hr, k0, k1, k2, k3⟩ := H.out.cell hlt
      have hi0 : (k : Int) < (n : Int) := by omega
      have HT : Hid ((ms.take (k + 1)).all (fun m => decide (m.n ≤ 10)) = decide (m.n ≤ 10)) := Lib.hid (by
        rw [List.take_add_one, hm, Option.toList_some, List.all_append, HA.out]
        simp)
      have HM : Hid (m ∈ ms) := Lib.hid (List.mem_of_getElem? hm)
      rcases Nat.lt_or_ge 10 m.n with h10 | h10
      · have q1 : (10 : Int) < (m.n : Int) := by omega
        have HR : Hid (ltP ms = false) := Lib.hid (by
          have : ms.all (fun m => decide (m.n ≤ 10)) = false := by
            rw [List.all_eq_false]
            exact ⟨m, HM.out, by simp; omega⟩
          unfold ltP
          rw [this]
          rfl)
        generalize m.n = mn at *
        generalize m.A = mA at *
        generalize m.c = mc at *
        clear hm hr h10
        go_wp2
        go_ret
        exact ⟨by rw [HR.out]; rfl, rfl⟩
      · have q1 : ¬ (10 : Int) < (m.n : Int) := by omega
        have HA2 : Hid ((ms.take (k + 1)).all (fun m => decide (m.n ≤ 10)) = true) := Lib.hid (by rw [HT.out]; simpa using h10)
        clear HT
        generalize m.n = mn at *
        generalize m.A = mA at *
        generalize m.c = mc at *
        clear hm hr h10
        go_wp2
        go_roundw
        case rel => exact ⟨k + 1, by omega, by go_num, HA2, trivial⟩
        case measure => simp [intOf]; omega
    · have q1 : ¬ (k : Int) < (n : Int) := by omega
      have HR : Hid (ltP ms = decide ((n : Int) ≤ 12)) := Lib.hid (by
        have h1 := HA.out
        rw [show ms.take k = ms by rw [show k = n by omega, ← HL.out, List.take_length]] at h1
        unfold ltP
        rw [h1, HL.out, Bool.true_and]
        exact decide_eq_decide.2 (by omega))
      go_wp2
      go_ret
      exact ⟨by rw [HR.out]; rfl, rfl⟩
set_option maxRecDepth 100000 in
set_option maxHeartbeats 2000000 in
theorem first14_any (w : World) : Calls Try.prog 8 #[] w fun e w' => e = .returned (.bool true) ∧ Below w.heap.size w w' := by
  have H1 := Lib.hid (of_any none 0 0 [] w ⟨RI.none_ _ _ _ _, fun m hm => by cases hm⟩ (by omega) (by decide) (fun m hm => by cases hm))
  have e1 : anyM [] = false := rfl
  have e2 : ofL [] = [] := rfl
  rw [e1, e2] at H1
  have e3 : anyM [mb0] = true := rfl
  have e4 : ofL [mb0] = [] := by decide
  clear e1 e2
  go_enter Try.func8, Try.ntmps8
  go_wp2_with (first
    | (go_at_call 10; (with_reducible refine H1.out.mono ?_); rintro e w1 ⟨A1, c1, rfl, hr1, hb1⟩; have har1 : AR w1 A1 0 [] := AR.none_ _ _)
    | (go_at_call 13; (with_reducible refine (lets_any false A1 0 c1 [] 5 w1 har1 (by omega)).mono ?_); rintro e w2 ⟨rfl, hb2⟩)
    | (go_at_call 10; have H2 := of_any (some ⟨w2.heap.size, 0, none⟩) 1 1 [mb0] (w2.alloc (.cells #[.int .i64 0, .int .u32 0, .bool false, .slice none 0 0] 38)) (mr_lit1 (m := mb0) (Blk.new w2 _ _) (AR.none_ _ _)) (by omega) (by decide) (fun m hm => by simp at hm; subst hm; decide); rw [e3, e4] at H2; refine H2.mono ?_; rintro e w3 ⟨A3, c3, rfl, hr3, hb3⟩; have har3 : AR w3 A3 0 [] := AR.none_ _ _)
    | (go_at_call 13; (with_reducible refine (lets_any true A3 0 c3 [] 5 w3 har3 (by omega)).mono ?_); rintro e w4 ⟨rfl, hb4⟩))
  go_ret
  exact ⟨rfl, below_next (below_next (below_next hb1 hb2) ((Below.refl _ _).alloc (Nat.le_refl _) _)) (below_next hb3 hb4)⟩
end Go.Proofs.Ytfiiichiflglaaa

