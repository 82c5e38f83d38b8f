/- SameInts, Among, SameKey of the document; the chapter's examples of fwd; over the seat's program. -/
import Derived.Test.YteibmegeoojleaaGe
import Derived.Test.YteibmegeoojleaaProg
import Derived.WalkKit
import Derived.BigQuiet
import Derived.Deep.QuietTactic
import Derived.Deep.DeepAppendRoom
import Derived.Lib.SliceRun
import Derived.Maps.AppendAt
import Derived.OwnWalk
import Derived.Deep.RegionHeld3
import Derived.Deep.Cut
namespace Go.Proofs.Yteibmegeoojleaa
open Go.RowKit
theorem take_next {xs : List Int} {k : Nat} (h : k < xs.length) : xs.take (k + 1) = xs.take k ++ [xs.getD k 0] := by
  rw [List.take_succ_eq_append_getElem h]; simp [List.getD, h]

theorem jsame_any (A B : Option Addr) (n m c d : Nat) (xs ys : List Int) (w : World) (h : JR w A n xs) (g : JR w B m ys) (hn : n ≤ 1048576) (hm : m ≤ 1048576) :
    Calls Try.prog 15 #[.slice A n c, .slice B m d] w fun e w' => e = .returned (.bool (decide (xs = ys))) ∧ Below w.heap.size w w' := by
  have hl := h.1
  have gl := g.1
  by_cases he : n = m
  · subst he
    have hne : ((n : Int) != (n : Int)) = false := by simp
    go_enter Try.func15, Try.ntmps15
    go_wp2_with fail
    go_loopw [5] (fun i wr => ∃ k : Nat, k ≤ n ∧ i = .int .i64 k ∧ Below w.heap.size w wr ∧ xs.take k = ys.take k) (fun i _ => n - (intOf i).toNat)
    case atStart => exact ⟨0, Nat.zero_le _, rfl, Below.refl _ _, rfl⟩
    case round =>
      obtain ⟨k, hk, rfl, hbw, hs⟩ := hrel
      rcases Nat.lt_or_ge k n with hlt | hge
      · obtain ⟨b, o, rfl, _, hc0⟩ := (h.next hbw).at_ hlt
        obtain ⟨b', o', rfl, _, hc1⟩ := (g.next hbw).at_ hlt
        have HT := Lib.hid (take_next (xs := xs) (k := k) (by omega))
        have GT := Lib.hid (take_next (xs := ys) (k := k) (by omega))
        have hi0 : (k : Int) < n := by omega
        have HB := Lib.hid hbw
        have HS := Lib.hid hs
        by_cases hv : xs.getD k 0 = ys.getD k 0
        · have hve : (xs.getD k 0 == ys.getD k 0) = true := by simpa using hv
          have HV := Lib.hid hv
          clear hbw hs hv
          generalize xs.getD k 0 = u at *
          generalize ys.getD k 0 = v at *
          go_wp2_with fail
          go_quiet (fail)
          go_wp2
          go_roundw
          case rel => exact ⟨k + 1, by omega, by go_num, below_drewN HB.out _, by rw [HT.out, GT.out, HS.out, HV.out]⟩
          case measure => simp [intOf]; omega
        · have hve : (xs.getD k 0 == ys.getD k 0) = false := by simpa using hv
          have HV := Lib.hid (show decide (xs = ys) = false by
            rw [decide_eq_false_iff_not]; rintro rfl; exact hv rfl)
          clear hbw hs hv
          generalize xs.getD k 0 = u at *
          generalize ys.getD k 0 = v at *
          go_wp2_with fail
          go_quiet (fail)
          go_wp2
          go_ret
          exact ⟨ret_bool HV.out.symm, below_drewN HB.out _⟩
      · obtain rfl : k = n := by omega
        rw [List.take_of_length_le (by omega), List.take_of_length_le (by omega)] at hs
        go_wp2
        go_ret
        exact ⟨ret_bool (by simp [hs]), hbw⟩
  · have hne : ((n : Int) != (m : Int)) = true := by simp; omega
    go_enter Try.func15, Try.ntmps15
    go_wp2
    go_ret
    exact ⟨ret_bool (by rw [eq_comm, decide_eq_false_iff_not]; rintro rfl; omega), Below.refl _ _⟩
end Go.Proofs.Yteibmegeoojleaa


namespace Go.Proofs.Yteibmegeoojleaa
open Go.RowKit Sm
theorem among_next {xs : List Int} {k : Nat} {a : Int} (h : k < xs.length) : (xs.take (k + 1)).contains a = ((xs.take k).contains a || (xs.getD k 0 == a)) := by
  rw [List.take_succ_eq_append_getElem h, List.getD_eq_getElem?_getD, List.getElem?_eq_getElem h]
  simp only [Option.getD_some]
  rw [Bool.eq_iff_iff]
  simp only [List.contains_iff_mem, Bool.or_eq_true, beq_iff_eq, List.mem_append, List.mem_singleton]
  constructor
  · rintro (h | h)
    · exact .inl h
    · exact .inr h.symm
  · rintro (h | h)
    · exact .inl h
    · exact .inr h.symm
set_option maxHeartbeats 1000000 in
theorem among_any (A : Option Addr) (n c : Nat) (xs : List Int) (a : Int) (w : World) (h : JR w A n xs) (hn : n ≤ 1000000) :
    Calls Try.prog 17 #[.slice A n c, .int .i64 a] w fun e w' => e = .returned (.bool (xs.contains a)) ∧ Below w.heap.size w w' := by
  have HR := Lib.hid h
  have HL := Lib.hid h.1
  clear h
  go_enter Try.func17, Try.ntmps17
  go_wp2_with fail
  go_loopw [5] (fun iv wr => ∃ k : Nat, k ≤ n ∧ iv = .int .i64 k ∧ Hid ((xs.take k).contains a = false) ∧ Hid (Below w.heap.size w wr)) (fun iv _ => n - (intOf iv).toNat)
  case atStart => exact ⟨0, by omega, rfl, Lib.hid (by simp), Lib.hid (Below.refl _ _)⟩
  case round =>
    obtain ⟨k, hk, rfl, HN, HB⟩ := hrel
    rcases Nat.lt_or_ge k n with hlt | hge
    · obtain ⟨b, o, rfl, _, hc⟩ := (HR.out.next HB.out).at_ hlt
      have HX := Lib.hid (among_next (a := a) (xs := xs) (k := k) (by rw [HL.out]; exact hlt))
      have l1 : (k : Int) < (n : Int) := by omega
      have l2 : (0 : Int) ≤ (k : Int) := by omega
      have HG := Lib.hid (show (xs.getD k 0 == a) = true → xs.contains a = true from fun e => by
        rw [List.contains_iff_mem, ← beq_iff_eq.1 e, List.getD_eq_getElem?_getD, List.getElem?_eq_getElem (by rw [HL.out]; exact hlt)]
        exact List.getElem_mem _)
      generalize xs.getD k 0 = y at *
      cases he : (y == a) with
      | true =>
        have HR2 := Lib.hid (HG.out he)
        go_wp2
        first | go_ret2 | go_ret
        exact ⟨by rw [HR2.out]; rfl, HB.out⟩
      | false =>
        have HN2 : Hid ((xs.take (k + 1)).contains a = false) := Lib.hid (by rw [HX.out, HN.out, he]; rfl)
        go_wp2
        go_roundw
        case rel => exact ⟨k + 1, by omega, by go_num, HN2, HB⟩
        case measure => simp [intOf]; omega
    · obtain rfl : n = k := by omega
      have hd : decide ((n : Int) < (n : Int)) = false := by simp
      have HR2 : Hid (xs.contains a = false) := Lib.hid (by have := HN.out; rw [List.take_of_length_le (by rw [HL.out]; exact Nat.le_refl _)] at this; exact this)
      go_wp2
      first | go_ret2 | go_ret
      exact ⟨by rw [HR2.out]; rfl, HB.out⟩
end Go.Proofs.Yteibmegeoojleaa
namespace Go.Proofs.Yteibmegeoojleaa
open Go.ChangeShapes Go.WideShapes Go.ChangeAt Go.RowKit Go.Maps
theorem skey_any (a b c d : Int) (w : World) :
    Calls Try.prog 14 #[.agg #[.int .u32 a, .int .u32 b], .agg #[.int .u32 c, .int .u32 d]] w fun e w' => e = .returned (.bool ((a == c) && (b == d))) ∧ Below w.heap.size w w' := by
  obtain ⟨b1, e1⟩ : ∃ r, (a == c) = r := ⟨_, rfl⟩
  obtain ⟨b2, e2⟩ : ∃ r, (b == d) = r := ⟨_, rfl⟩
  rw [e1, e2]
  cases b1
  all_goals
    go_enter Try.func14, Try.ntmps14
    go_wp2
    go_ret
    exact ⟨ret_bool (by simp), ((Below.refl _ _).alloc (Nat.le_refl _) _).alloc (by simp) _⟩
end Go.Proofs.Yteibmegeoojleaa

namespace Go.Proofs.Yteibmegeoojleaa
open Go.ChangeShapes Go.WideShapes Go.ChangeAt Go.RowKit Sm Go.Maps
theorem jr_blk {w : World} {g : Nat} {t : TypeId} {xs : List Int} (h : Blk w g t (I64 xs).toArray) : JR w (some ⟨g, 0, none⟩) xs.length xs := ⟨rfl, fun _ => ⟨g, 0, rfl, h.lt, fun i hi => by
  rw [Nat.zero_add, h.cell]
  unfold I64
  simp only [List.getElem?_toArray, List.getElem?_map, List.getD_eq_getElem?_getD]
  cases hx : xs[i]? with
  | none => rw [List.getElem?_eq_none_iff] at hx; omega
  | some x => rfl⟩⟩
theorem fld_kind (a b c : Int) (v : Value) (w : World) : (Instr.field 34 (.agg #[.int .i64 a, .int .u32 b, .int .u32 c, v]) 0).run Try.prog w = .ok (.int .i64 a) w := by kernel_rfl
theorem first_do : doR [⟨0, 0, 0, (0, 5), [3]⟩] [] 0 (1, 5) 0 = ⟨2, (0, 5), [3]⟩ := by simp [doR, rowR, findR, outL]
set_option maxRecDepth 100000 in
set_option maxHeartbeats 4000000 in
theorem first19_any (w : World) :
    Calls Try.prog 6 #[] w fun e w' => e = .returned (.bool true) ∧ Below w.heap.size w w' := by
  have HB2 := Lib.hid (((Below.refl w.heap.size w).alloc (Nat.le_refl _) (.cells #[.int .i64 3] 3)).alloc (by simp) (.cells #[.int .i64 0, .int .i64 0, .int .i64 0, .int .u32 0, .int .u32 5, .slice (some ⟨w.heap.size, 0, none⟩) 1 1] 43))
  have HJ := Lib.hid (jr_blk (xs := [3]) ((Blk.new w 3 #[.int .i64 3]).alloc (.cells #[.int .i64 0, .int .i64 0, .int .i64 0, .int .u32 0, .int .u32 5, .slice (some ⟨w.heap.size, 0, none⟩) 1 1] 43)))
  have HR := Lib.hid (RI.new (enc := CRw) (k := 6) (w.alloc (.cells #[.int .i64 3] 3)) 43 (⟨⟨0, 0, 0, (0, 5), [3]⟩, some ⟨w.heap.size, 0, none⟩, 1⟩ : PMr) rfl rfl)
  have HD2 := Lib.hid (fun W (_ : Below w.heap.size w W) => do_any none 0 0 [] none 0 0 [] 0 (0, 0) 0 W (RI.none_ _ _ _ _) (fun m hm => by cases hm) (by decide) (fun m hm => by cases hm) (RI.none_ _ _ _ _) (fun m hm => by cases hm) (by decide) ⟨⟨by decide, by decide⟩, ⟨by decide, by decide⟩⟩)
  have hd0 : doR (List.map PMr.p []) [] 0 (0, 0) 0 = ⟨0, (0, 0), []⟩ := rfl
  rw [hd0] at HD2
  clear hd0
  go_enter Try.func6, Try.ntmps6
  go_upto_region 1 with fail
  have HD1 := Lib.hid (do_any (some ⟨w.heap.size + 1, 0, none⟩) 1 1 [⟨⟨0, 0, 0, (0, 5), [3]⟩, some ⟨w.heap.size, 0, none⟩, 1⟩] none 0 0 [] 0 (1, 5) 0 _ (by simpa using HR.out) (fun m hm => by obtain rfl := List.mem_singleton.1 hm; exact HJ.out) (by decide) (fun m hm => by obtain rfl := List.mem_singleton.1 hm; exact ⟨by show (1 : Nat) ≤ 1000; decide, fun x hx => by obtain rfl := List.mem_singleton.1 hx; exact ⟨by decide, by decide⟩⟩) (RI.none_ _ _ _ _) (fun m hm => by cases hm) (by decide) ⟨⟨by decide, by decide⟩, ⟨by decide, by decide⟩⟩)
  have hd1 : doR (List.map PMr.p [⟨⟨0, 0, 0, (0, 5), [3]⟩, some ⟨w.heap.size, 0, none⟩, 1⟩]) [] 0 (1, 5) 0 = ⟨2, (0, 5), [3]⟩ := first_do
  rw [hd1] at HD1
  clear hd1 HR HJ
  go_upto_region 2 with (go_at_call 8; refine HD1.out.mono ?_; rintro e w3 ⟨⟨A3, c3, rfl, hj3⟩, hb3⟩; have HJ3 := Lib.hid hj3; have HB3 := Lib.hid (below_next HB2.out hb3); clear hj3 hb3)
  clear HD1
  have HV4 := Lib.hid (Blk.new w3 34 #[.int .i64 2, .int .u32 0, .int .u32 5, .slice A3 1 c3])
  have HB4 := Lib.hid (HB3.out.alloc HB3.out.size (.cells #[.int .i64 2, .int .u32 0, .int .u32 5, .slice A3 1 c3] 34))
  have HJ4 := Lib.hid (HJ3.out.next ((Below.refl w3.heap.size w3).alloc (Nat.le_refl _) (.cells #[.int .i64 2, .int .u32 0, .int .u32 5, .slice A3 1 c3] 34)))
  dsimp only [List.length] at HV4 HB4 HJ4 ⊢
  generalize w3.alloc (.cells #[.int .i64 2, .int .u32 0, .int .u32 5, .slice A3 1 c3] 34) = W4 at *
  generalize w3.heap.size = N3 at *
  have v0 : W4.cell? ⟨N3, 0, none⟩ = some (.int .i64 2) := HV4.out.cell 0
  have v3 : W4.cell? ⟨N3, 3, none⟩ = some (.slice A3 1 c3) := HV4.out.cell 3
  have HSI := Lib.hid (jsame_any A3 (some ⟨W4.heap.size, 0, none⟩) 1 1 c3 1 [3] [3] (W4.alloc (.cells #[.int .i64 3] 3)) (HJ4.out.next ((Below.refl W4.heap.size W4).alloc (Nat.le_refl _) _)) (jr_blk (xs := [3]) (Blk.new W4 3 #[.int .i64 3])) (by decide) (by decide))
  have HB5 := Lib.hid (HB4.out.alloc HB4.out.size (.cells #[.int .i64 3] 3))
  have hfk := fld_kind
  have hs : decide (([3] : List Int) = [3]) = true := by decide
  rw [hs] at HSI
  clear hs
  go_wp2_with (first
    | (go_at_call 15; refine HSI.out.mono ?_; rintro e w6 ⟨rfl, hb6⟩; have HB6 := Lib.hid (below_next HB5.out hb6); clear hb6)
    | (go_at_call 8; refine (HD2.out _ HB6.out).mono ?_; rintro e w7 ⟨⟨A7, c7, rfl, hj7⟩, hb7⟩; have HB7 := Lib.hid (below_next HB6.out hb7); clear hb7))
  go_ret
  exact ⟨rfl, HB7.out⟩
end Go.Proofs.Yteibmegeoojleaa

