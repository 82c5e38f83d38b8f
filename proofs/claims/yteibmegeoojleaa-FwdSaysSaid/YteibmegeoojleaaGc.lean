/- slices.IndexFunc and slices.DeleteFunc at ints, where the function value may make memory of its own; over the seat's program. -/
import Derived.Test.YteibmegeoojleaaGb
import Derived.Lib.SliceRun
import Derived.Laws.IdiomCopy
import Derived.Shelf.Abstract
namespace Go.Proofs.Yteibmegeoojleaa
open Go.ChangeShapes Go.WideShapes Go.ChangeAt Go.RowKit Sm Go.Maps
/-- a row of numbers that a block holds from its beginning -/
def BI (w : World) (g : Nat) (Z : List Int) : Prop := ∃ cs, Blk w g 3 cs ∧ ∀ (j : Nat) (z : Int), Z[j]? = some z → cs[j]? = some (Value.int .i64 z)
section
variable {w w' : World} {g : Nat} {Z : List Int}
theorem BI.lt (h : BI w g Z) : g < w.heap.size := h.elim fun _ h => h.1.lt
theorem BI.cell (h : BI w g Z) {j : Nat} {z : Int} (hj : Z[j]? = some z) : w.cell? ⟨g, j, none⟩ = some (.int .i64 z) := by
  obtain ⟨cs, h1, h2⟩ := h
  rw [h1.cell, h2 j z hj]
theorem BI.frozen (h : BI w g Z) (j : Nat) : w.frozen? ⟨g, j, none⟩ = false := by
  obtain ⟨cs, h1, _⟩ := h
  exact h1.frozen j
theorem BI.next (h : BI w g Z) (hb : Below w.heap.size w w') : BI w' g Z := by
  obtain ⟨cs, h1, h2⟩ := h
  exact ⟨cs, h1.next hb, h2⟩
theorem BI.set_ (h : BI w g Z) (i : Nat) (u : Int) : BI (w.setCell ⟨g, i, none⟩ (.int .i64 u)) g (Z.set i u) := by
  obtain ⟨cs, h1, h2⟩ := h
  refine ⟨_, h1.set_ i (.int .i64 u), fun j z hj => ?_⟩
  rw [List.getElem?_set] at hj
  rw [Array.getElem?_setIfInBounds]
  by_cases e : i = j
  · subst e
    rw [if_pos rfl] at hj ⊢
    split at hj
    · rename_i hl
      obtain ⟨z0, hz0⟩ : ∃ z0, Z[i]? = some z0 := ⟨Z[i], List.getElem?_eq_getElem hl⟩
      have := h2 i z0 hz0
      have hlt : i < cs.size := (Array.getElem?_eq_some_iff.1 this).1
      rw [if_pos hlt]
      cases hj; rfl
    · cases hj
  · rw [if_neg e] at hj ⊢
    exact h2 j z hj
theorem BI.take_ (h : BI w g Z) (k : Nat) : BI w g (Z.take k) := by
  obtain ⟨cs, h1, h2⟩ := h
  exact ⟨cs, h1, fun j z hj => h2 j z (by
    rw [List.getElem?_take] at hj
    split at hj
    · exact hj
    · cases hj)⟩
theorem BI.clear_ : ∀ (vs : List Value) (i : Nat) (w : World) (Z : List Int), BI w g Z → Z.length ≤ i → BI (w.setCells g i vs) g Z
  | [], _, _, _, h, _ => h
  | v :: vs, i, w, Z, h, hl => by
    rw [World.setCells]
    refine BI.clear_ vs (i + 1) _ Z ?_ (by omega)
    obtain ⟨cs, h1, h2⟩ := h
    refine ⟨_, h1.set_ i v, fun j z hj => ?_⟩
    have := (List.getElem?_eq_some_iff.1 hj).1
    rw [Array.getElem?_setIfInBounds, if_neg (by omega)]
    exact h2 j z hj
theorem BI.jr (h : BI w g Z) : JR w (some ⟨g, 0, none⟩) Z.length Z := ⟨rfl, fun _ => ⟨g, 0, rfl, h.lt, fun i hi => by
  have hi' : i < Z.length := hi
  rw [Nat.zero_add, h.cell (List.getElem?_eq_getElem hi'), List.getD_eq_getElem?_getD, List.getElem?_eq_getElem hi']
  rfl⟩⟩
theorem grown_set (h : w.grownBy w' (some g)) (i : Nat) (v : Value) : w.grownBy (w'.setCell ⟨g, i, none⟩ v) (some g) := by
  refine ⟨h.os, h.tape, h.output, by simpa using h.size, fun k hk hg => ?_⟩
  rw [Below.heap_setCell _ _ _ _ (show k ≠ g from fun e => hg (by rw [e]))]
  exact h.block k hk hg
theorem grown_clear : ∀ (vs : List Value) (i : Nat) (w' : World), w.grownBy w' (some g) → w.grownBy (w'.setCells g i vs) (some g)
  | [], _, _, h => h
  | v :: vs, i, w', h => by
    rw [World.setCells]
    exact grown_clear vs (i + 1) _ (grown_set h i v)
theorem below_grown (h : Below w.heap.size w w') : w.grownBy w' (some g) := ⟨h.os, h.tape, h.output, h.size, fun k hk _ => h.block k hk⟩
theorem grown_bel (h : w.grownBy w' (some g)) {w'' : World} (hb : Below w'.heap.size w' w'') : w.grownBy w'' (some g) :=
  ⟨hb.os.trans h.os, hb.tape.trans h.tape, hb.output.trans h.output, Nat.le_trans h.size hb.size, fun k hk hg => (hb.block k (Nat.lt_of_lt_of_le hk h.size)).trans (h.block k hk hg)⟩
end
theorem zeroInt (w : World) : (zeroValue 3).run Try.prog w = .ok (.int .i64 0) w := by kernel_rfl
set_option maxHeartbeats 1000000 in
theorem idxI_any (F : Nat) (lb : Array Value) (eg : ∀ args w, (callFunc F args).run Try.prog w = .ok (.enter F args) w) (p : Int → Bool) (g o c : Nat) (ho : o = 0) (xs : List Int) (w : World) (hr : BI w g xs) (hn : xs.length ≤ 1048576)
    (hp : ∀ (W : World) (x : Int), w.grownBy W (some g) → x ∈ xs → Calls Try.prog F (#[.int .i64 x] ++ lb) W fun e w' => e = .returned (.bool (p x)) ∧ Below W.heap.size W w') :
    Calls Try.prog 26 #[.slice (some ⟨g, o, none⟩) xs.length c, .func (.func F) #[] lb] w fun e w' => ((e = .returned (.int .i64 (-1)) ∧ ∀ (j : Nat) x, xs[j]? = some x → p x = false) ∨ ∃ (k : Nat) (x : Int), e = .returned (.int .i64 (k : Int)) ∧ xs[k]? = some x ∧ p x = true ∧ ∀ (j : Nat) x, j < k → xs[j]? = some x → p x = false) ∧ Below w.heap.size w w' := by
  have HP := Lib.hid hp
  have HR := Lib.hid hr
  have HN := Lib.hid hn
  have HO := Lib.hid ho
  clear ho
  have hB0 := Lib.hid (Below.refl w.heap.size w)
  have HL : Hid (∀ (j : Nat), j < xs.length → ∃ x, xs[j]? = some x) := Lib.hid (fun j hj => ⟨_, List.getElem?_eq_getElem hj⟩)
  have HLT : Hid (∀ (j : Nat) x, xs[j]? = some x → j < xs.length) := Lib.hid (fun j x hj => (List.getElem?_eq_some_iff.1 hj).1)
  clear hp hr
  generalize xs.length = n at *
  go_enter Try.func26, Try.ntmps26
  go_wp2
  go_loopw [8] (fun i wr => ∃ k : Nat, k ≤ n ∧ i = .int .i64 k ∧ Hid (∀ (j : Nat) x, j < k → xs[j]? = some x → p x = false) ∧ Hid (Below w.heap.size w wr)) (fun i _ => n - (intOf i).toNat)
  case atStart => exact ⟨0, Nat.zero_le _, rfl, fun j x hj => absurd hj (Nat.not_lt_zero _), hB0⟩
  case round =>
    obtain ⟨k, hk, rfl, hno, hbw⟩ := hrel
    rcases Nat.lt_or_ge k n with hlt | hge
    · obtain ⟨x, hx⟩ := HL.out k hlt
      have HX := Lib.hid hx
      have hcall := Lib.hid (HP.out wr x (below_grown hbw.out) (List.mem_of_getElem? hx))
      have hi0 : (k : Int) < n := by omega
      have h0 : wr.cell? ⟨g, o + k, none⟩ = some (.int .i64 x) := by rw [HO.out, Nat.zero_add]; exact (HR.out.next hbw.out).cell hx
      clear hx
      cases hq : p x with
      | true =>
        have HQ := Lib.hid hq
        rw [hq] at hcall
        clear hq
        go_wp2_with (go_at_fn F; refine hcall.out.mono ?_; rintro e w1 ⟨rfl, hb1⟩; have HB1 := Lib.hid (below_next hbw.out hb1); clear hb1)
        go_ret
        exact ⟨.inr ⟨k, x, rfl, HX.out, HQ.out, hno.out⟩, HB1.out⟩
      | false =>
        have HQ := Lib.hid hq
        rw [hq] at hcall
        clear hq
        go_wp2_with (go_at_fn F; refine hcall.out.mono ?_; rintro e w1 ⟨rfl, hb1⟩; have HB1 := Lib.hid (below_next hbw.out hb1); clear hb1)
        go_roundw
        case rel => exact ⟨k + 1, by omega, by go_num, (show Hid _ from fun j y hj hy => by
            by_cases e : j = k
            · subst e; rw [HX.out] at hy; injection hy with hy; rw [← hy]; exact HQ.out
            · exact hno.out j y (by omega) hy), HB1⟩
        case measure => simp [intOf]; omega
    · obtain rfl : k = n := by omega
      go_wp2
      go_ret
      exact ⟨.inl ⟨rfl, fun j x hj => hno.out j x (HLT.out j x hj) hj⟩, hbw.out⟩
theorem first_hit (p : Int → Bool) : ∀ (xs : List Int), (∀ (j : Nat) x, xs[j]? = some x → p x = false) ∨ ∃ (k : Nat) (x : Int), xs[k]? = some x ∧ p x = true ∧ ∀ (j : Nat) y, j < k → xs[j]? = some y → p y = false
  | [] => .inl (fun j x h => by simp at h)
  | y :: r => by
    cases hy : p y with
    | true => exact .inr ⟨0, y, rfl, hy, fun j z hj => absurd hj (Nat.not_lt_zero _)⟩
    | false =>
      rcases first_hit p r with h | ⟨k, x, h1, h2, h3⟩
      · refine .inl (fun j x hj => ?_)
        rcases j with _ | j
        · simp at hj; subst hj; exact hy
        · exact h j x (by simpa using hj)
      · refine .inr ⟨k + 1, x, by simpa using h1, h2, fun j z hj hz => ?_⟩
        rcases j with _ | j
        · simp at hz; subst hz; exact hy
        · exact h3 j z (by omega) (by simpa using hz)
theorem filt_none (p : Int → Bool) {xs : List Int} (h : ∀ (j : Nat) x, xs[j]? = some x → p x = false) : (xs.filter fun x => !p x) = xs := by
  rw [List.filter_eq_self]
  intro x hx
  obtain ⟨j, hj⟩ := List.mem_iff_getElem?.1 hx
  rw [h j x hj]; rfl
theorem filt_hit (p : Int → Bool) {xs : List Int} {k : Nat} {x : Int} (h1 : xs[k]? = some x) (h2 : p x = true) (h3 : ∀ (j : Nat) y, j < k → xs[j]? = some y → p y = false) : ((xs.take (k + 1)).filter fun x => !p x) = xs.take k := by
  rw [List.take_add_one, h1, List.filter_append]
  have e : ((xs.take k).filter fun x => !p x) = xs.take k := filt_none p (fun j y hj => by
    rw [List.getElem?_take] at hj
    split at hj
    · exact h3 j y (by assumption) hj
    · cases hj)
  rw [e]
  simp [h2]
theorem set_take (Z : List Int) (i : Nat) (x : Int) (hi : i < Z.length) : (Z.set i x).take (i + 1) = Z.take i ++ [x] := by
  rw [List.take_add_one, List.getElem?_set, if_pos rfl, if_pos hi, List.take_set_of_le (Nat.le_refl i)]
  rfl
set_option maxHeartbeats 1000000 in
theorem delF_any (F : Nat) (lb : Array Value) (eg : ∀ args w, (callFunc F args).run Try.prog w = .ok (.enter F args) w) (p : Int → Bool) (g o c : Nat) (ho : o = 0) (xs : List Int) (w : World) (hr : BI w g xs) (hn : xs.length ≤ 1048576) (hc : xs.length ≤ c)
    (hp : ∀ (W : World) (x : Int), w.grownBy W (some g) → x ∈ xs → Calls Try.prog F (#[.int .i64 x] ++ lb) W fun e w' => e = .returned (.bool (p x)) ∧ Below W.heap.size W w') :
    Calls Try.prog 24 #[.slice (some ⟨g, o, none⟩) xs.length c, .func (.func F) #[] lb] w fun e w' => e = .returned (.slice (some ⟨g, o, none⟩) (xs.filter fun x => !p x).length c) ∧ BI w' g (xs.filter fun x => !p x) ∧ w.grownBy w' (some g) := by
  have HX := idxI_any F lb eg p g o c ho xs w hr hn hp
  have HP := Lib.hid hp
  have HR := Lib.hid hr
  have HO := Lib.hid ho
  have HC := Lib.hid hc
  have HN := Lib.hid hn
  clear hp hr ho
  rcases first_hit p xs with hall | ⟨k, x, h1, h2, h3⟩
  · have HI := Lib.hid (HX.mono (R' := fun e w' => e = .returned (.int .i64 (-1)) ∧ Below w.heap.size w w') (fun e w' h => by
      obtain ⟨h, hb⟩ := h
      refine ⟨?_, hb⟩
      rcases h with ⟨rfl, _⟩ | ⟨k, x, rfl, h1, h2, _⟩
      · rfl
      · rw [hall k x h1] at h2; cases h2))
    rw [filt_none p hall]
    clear HX
    generalize xs.length = n at *
    go_enter Try.func24, Try.ntmps24
    go_wp2_with (go_at_call 26; refine HI.out.mono ?_; rintro e w1 ⟨rfl, hb1⟩; have HB1 := Lib.hid hb1; clear hb1)
    go_ret
    exact ⟨rfl, HR.out.next HB1.out, below_grown HB1.out⟩
  · have HI := Lib.hid (HX.mono (R' := fun e w' => e = .returned (.int .i64 (k : Int)) ∧ Below w.heap.size w w') (fun e w' h => by
      obtain ⟨h, hb⟩ := h
      refine ⟨?_, hb⟩
      rcases h with ⟨rfl, ha⟩ | ⟨k', x', rfl, g1, g2, g3⟩
      · rw [ha k x h1] at h2; cases h2
      · have : k = k' := by
          rcases Nat.lt_trichotomy k k' with hl | hl | hl
          · rw [g3 k x hl h1] at h2; cases h2
          · exact hl
          · rw [h3 k' x' hl g1] at g2; cases g2
        rw [this]))
    have HST := Lib.hid (filt_hit p h1 h2 h3)
    have hkl : k < xs.length := (List.getElem?_eq_some_iff.1 h1).1
    clear HX h1 h2 h3
    have HLEN : Hid (xs.length = xs.length) := Lib.hid rfl
    obtain ⟨n, hnn⟩ : ∃ n, xs.length = n := ⟨_, rfl⟩
    have HNN := Lib.hid hnn
    rw [hnn] at hkl hc hn HC HN HI ⊢
    clear hnn HLEN
    have hk1 : ((k : Int) == -1) = false := beq_eq_false_iff_ne.2 (by omega)
    go_enter Try.func24, Try.ntmps24
    go_wp2_with (go_at_call 26; refine HI.out.mono ?_; rintro e w1 ⟨rfl, hb1⟩; have HB1 := Lib.hid hb1; clear hb1)
    clear hk1
    go_loopw [5, 6] (fun s5 s6 wr => ∃ (i j : Nat) (Z : List Int), s5 = .int .i64 (i : Int) ∧ s6 = .int .i64 (j : Int) ∧ i < j ∧ j ≤ n ∧ Hid (Z.length = n) ∧ Hid (Z.take i = (xs.take j).filter fun x => !p x) ∧ Hid (∀ l, j ≤ l → Z[l]? = xs[l]?) ∧ Hid (BI wr g Z) ∧ Hid (w.grownBy wr (some g))) (fun _ s6 _ => n - (intOf s6).toNat)
    case atStart => exact ⟨k, k + 1, xs, rfl, by go_num, by omega, by omega, HNN, Lib.hid HST.out.symm, Lib.hid (fun _ _ => rfl), Lib.hid (HR.out.next HB1.out), Lib.hid (below_grown HB1.out)⟩
    case round =>
      obtain ⟨i, j, Z, rfl, rfl, hij, hjn, HZL, HZT, HZR, HBI, HGR⟩ := hrel
      rcases Nat.lt_or_ge j n with hlt | hge
      · have hi0 : (j : Int) < n := by omega
        obtain ⟨x, hx⟩ : ∃ x, xs[j]? = some x := ⟨_, List.getElem?_eq_getElem (by rw [HNN.out]; exact hlt)⟩
        have HXJ := Lib.hid hx
        have hzj : Z[j]? = some x := (HZR.out j (Nat.le_refl _)).trans hx
        obtain ⟨y, hy⟩ : ∃ y, Z[i]? = some y := ⟨_, List.getElem?_eq_getElem (by rw [HZL.out]; omega)⟩
        have h0 : wr.cell? ⟨g, o + j, none⟩ = some (.int .i64 x) := by rw [HO.out, Nat.zero_add]; exact HBI.out.cell hzj
        have hii : i < n := by omega
        have hii0 : (i : Int) < n := by omega
        have hcall := Lib.hid (HP.out wr x HGR.out (List.mem_of_getElem? hx))
        clear hx hzj
        have HIY := Lib.hid hy
        clear hy
        cases hq : p x with
        | true =>
          rw [hq] at hcall
          have HQ := Lib.hid hq
          clear hq hii hii0
          go_wp2_with (go_at_fn F; refine hcall.out.mono ?_; rintro e w2 ⟨rfl, hb2⟩; have HB2 := Lib.hid hb2; clear hb2)
          go_roundw
          case rel => exact ⟨i, j + 1, Z, rfl, by go_num, by omega, by omega, HZL, Lib.hid (by rw [HZT.out, List.take_add_one, HXJ.out, List.filter_append]; simp [HQ.out]), Lib.hid (fun l hl => HZR.out l (by omega)), Lib.hid (HBI.out.next HB2.out), Lib.hid (grown_bel HGR.out HB2.out)⟩
          case measure => simp [intOf]; omega
        | false =>
          rw [hq] at hcall
          have HQ := Lib.hid hq
          clear hq
          go_wp2_with (go_at_fn F; refine hcall.out.mono ?_; rintro e w2 ⟨rfl, hb2⟩; have HB2 := Lib.hid hb2; have c0 : w2.cell? ⟨g, o + i, none⟩ = some (.int .i64 y) := by { rw [HO.out, Nat.zero_add]; exact (HBI.out.next HB2.out).cell HIY.out }; have f0 : w2.frozen? ⟨g, o + i, none⟩ = false := (HBI.out.next HB2.out).frozen _; clear hb2)
          go_roundw
          case rel => exact ⟨i + 1, j + 1, Z.set i x, by go_num, by go_num, by omega, by omega, Lib.hid (by rw [List.length_set]; exact HZL.out), Lib.hid (by rw [set_take Z i x (by rw [HZL.out]; omega), HZT.out, List.take_add_one, HXJ.out, List.filter_append]; simp [HQ.out]), Lib.hid (fun l hl => by rw [List.getElem?_set, if_neg (by omega)]; exact HZR.out l (by omega)), Lib.hid (by have := (HBI.out.next HB2.out).set_ i x; rw [HO.out, Nat.zero_add]; exact this), Lib.hid (by have := grown_set (grown_bel HGR.out HB2.out) i (.int .i64 x); rw [HO.out, Nat.zero_add]; exact this)⟩
          case measure => simp [intOf]; omega
      · obtain rfl : j = n := by omega
        have hlt' : decide ((j : Int) < (j : Int)) = false := by simp
        have HFL : Hid (Z.take i = xs.filter fun x => !p x) := Lib.hid (by rw [HZT.out, List.take_of_length_le (by rw [HNN.out]; exact Nat.le_refl _)])
        have hcl : ∀ ty, (Builtin.clear_ #[32] ty #[.slice (some ⟨g, o + i, none⟩) (j - i) (c - i)]).run Try.prog wr = .ok (.tuple #[]) (wr.setCells g (o + i) (List.replicate (j - i) (.int .i64 0))) :=
          fun ty => Lib.run_clear_slice wr _ _ ty _ Try.underlying32 zeroInt rfl rfl g (o + i) _ _ (by omega) (fun t ht => by
            obtain ⟨y, hy⟩ : ∃ y, Z[i + t]? = some y := ⟨_, List.getElem?_eq_getElem (by rw [HZL.out]; omega)⟩
            rw [HO.out, show 0 + i + t = i + t by omega, HBI.out.cell hy]; rfl) (fun t ht => by rw [HO.out, show 0 + i + t = i + t by omega]; exact HBI.out.frozen _)
        have hic : i ≤ c := by omega
        go_wp2
        go_ret
        have hlen : (xs.filter fun x => !p x).length = i := by rw [← HFL.out, List.length_take, HZL.out]; omega
        rw [HO.out] at *
        refine ⟨by rw [hlen]; rfl, ?_, ?_⟩
        · rw [← HFL.out, Nat.zero_add]
          exact BI.clear_ _ _ _ _ (HBI.out.take_ i) (by rw [List.length_take]; omega)
        · rw [Nat.zero_add]
          exact grown_clear _ _ _ HGR.out
set_option maxHeartbeats 1000000 in
theorem idx0_any (F : Nat) (lb : Array Value) (w : World) :
    Calls Try.prog 26 #[.slice none 0 0, .func (.func F) #[] lb] w fun e w' => e = .returned (.int .i64 (-1)) ∧ Below w.heap.size w w' := by
  go_enter Try.func26, Try.ntmps26
  go_wp2
  go_loopw [8] (fun i wr => i = .int .i64 0 ∧ Hid (Below w.heap.size w wr)) (fun i _ => 0)
  case atStart => exact ⟨rfl, Lib.hid (Below.refl _ _)⟩
  case round =>
    obtain ⟨rfl, hb⟩ := hrel
    go_wp2
    go_ret
    exact ⟨rfl, hb.out⟩
set_option maxHeartbeats 1000000 in
theorem del0_any (F : Nat) (lb : Array Value) (w : World) :
    Calls Try.prog 24 #[.slice none 0 0, .func (.func F) #[] lb] w fun e w' => e = .returned (.slice none 0 0) ∧ Below w.heap.size w w' := by
  have HI := Lib.hid (idx0_any F lb w)
  go_enter Try.func24, Try.ntmps24
  go_wp2_with (go_at_call 26; refine HI.out.mono ?_; rintro e w1 ⟨rfl, hb1⟩; have HB1 := Lib.hid hb1; clear hb1)
  go_ret
  exact ⟨rfl, HB1.out⟩
/-- what is left of a row that a call owns -/
theorem delO_any (F : Nat) (lb : Array Value) (eg : ∀ args w, (callFunc F args).run Try.prog w = .ok (.enter F args) w) (p : Int → Bool) (B c : Nat) (A : Option Addr) (xs : List Int) (w : World) (hr : w.ownsRow B 3 1 (.slice A xs.length c) xs.length (I64 xs)) (hn : xs.length ≤ 1048576)
    (hp : ∀ (W : World) (x : Int), w.grownBy W (Value.slice A xs.length c).ownBlock → x ∈ xs → Calls Try.prog F (#[.int .i64 x] ++ lb) W fun e w' => e = .returned (.bool (p x)) ∧ Below W.heap.size W w') :
    Calls Try.prog 24 #[.slice A xs.length c, .func (.func F) #[] lb] w fun e w' => ∃ A' c', e = .returned (.slice A' (xs.filter fun x => !p x).length c') ∧ JR w' A' (xs.filter fun x => !p x).length (xs.filter fun x => !p x) ∧ w.grownBy w' (Value.slice A xs.length c).ownBlock ∧ ∀ a, A' = some a → some a.block = (Value.slice A xs.length c).ownBlock := by
  rcases hr.2 with ⟨hv, h0⟩ | ⟨g, cap, cur, hv, hb, hh, h1, h2, h3, h4⟩
  · obtain rfl : xs = [] := List.eq_nil_of_length_eq_zero h0
    cases hv
    refine (del0_any F lb w).mono ?_
    rintro e w' ⟨rfl, hb⟩
    exact ⟨none, 0, rfl, ⟨rfl, fun h => absurd h (Nat.lt_irrefl 0)⟩, ⟨hb.os, hb.tape, hb.output, hb.size, fun k hk _ => hb.block k hk⟩, fun a h => by cases h⟩
  · have h5 : c = cap := by injection hv
    have h6 : A = some ⟨g, 0, none⟩ := by injection hv
    subst h5 h6
    refine (delF_any F lb eg p g 0 c rfl xs w ⟨cur, hh, fun j z hj => ?_⟩ hn h1 hp).mono ?_
    · have hz : (I64 xs)[j]? = some (.int .i64 z) := by unfold I64; rw [List.getElem?_map, hj]; rfl
      rw [← h4, List.getElem?_take] at hz
      split at hz
      · simpa using hz
      · cases hz
    · rintro e w' ⟨rfl, hbi, hg⟩
      exact ⟨_, _, rfl, hbi.jr, hg, fun a h => by cases h; rfl⟩
end Go.Proofs.Yteibmegeoojleaa

