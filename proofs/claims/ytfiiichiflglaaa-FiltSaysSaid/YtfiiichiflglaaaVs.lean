/- slices.Values at addresses: its iterator reads the slice round by round; AppendSeq, Collect over an iterator that asks of the loop's body that it keeps what lay; slices.Sorted over Values; filt.rising; over the seat's program. -/
import Derived.Test.YtfiiichiflglaaaRs
namespace Go.Proofs.Ytfiiichiflglaaa
open Go.RowKit Go.Maps Go.Sort Go.Shelf
attribute [local go_sem] Oper.semAt_some
set_option maxRecDepth 100000 in
set_option maxHeartbeats 2000000 in
theorem values1_inB (F : Fence) (n : Nat) (h7 : F.fn 42) (hro : F.round = none) (hn : 1 ≤ n) (l Bs n₀ b off len cap : Nat) (zs : List Int) (hz : zs.length = len) (hreach : len ≤ 1000000) (hb : b < n₀) (J Jx : List Int → World → Prop)
    (hY : ∀ pre x W, J pre W → pre.length < len → YieldAt F (n - 1) Try.prog l #[ua x] W fun e W' =>
      (e = .returned (.bool true) ∧ J (pre ++ [x]) W' ∧ Below n₀ W W') ∨ (e = .returned (.bool false) ∧ Jx (pre ++ [x]) W'))
    (W : World) (hBs : W.cell? ⟨Bs, 0, none⟩ = some (.slice (some ⟨b, off, none⟩) len cap)) (hc : ∀ j, j < len → W.cell? ⟨b, off + j, none⟩ = some (.int .u32 (zs.getD j 0))) (h0 : J [] W) :
    CallsIn F n Try.prog 42 #[.func (.yield l) #[] #[], .pointer (some ⟨Bs, 0, none⟩)] W fun e W' => (∃ v, e = .returned v) ∧ ((∃ ys, ys = zs ∧ J ys W') ∨ (∃ pre, True ∧ Jx pre W')) := by
  refine callsIn_of_wp Try.func42 rfl h7 ?_ hro
  simp only [Try.ntmps42, List.size_toArray, List.length_cons, List.length_nil, Nat.reduceAdd, Nat.reduceSub, Array.replicate_succ, Array.replicate_zero, List.push_toArray, List.append_toArray, List.nil_append, List.cons_append]
  gi_wp2
  gi_loopw [7] (fun i wr => ∃ k : Nat, k ≤ len ∧ i = .int .i64 k ∧ J (zs.take k) wr ∧ Below n₀ W wr)
    (fun i _ => len - (intOf i).toNat)
  case atStart => exact ⟨0, Nat.zero_le _, rfl, h0, Below.refl _ _⟩
  case round =>
    obtain ⟨k, hk, rfl, hJs, hnx⟩ := hrel
    by_cases hlt : k < len
    · obtain ⟨x, hx⟩ : ∃ x, zs.getD k 0 = x := ⟨_, rfl⟩
      have ht : zs.take (k + 1) = zs.take k ++ [x] := by
        rw [List.take_add_one, ← hx, List.getD_eq_getElem?_getD, List.getElem?_eq_getElem (by omega)]
        rfl
      have hcx : wr.cell? ⟨b, off + k, none⟩ = some (.int .u32 x) := by rw [← hx]; exact (hnx.cell (p := ⟨b, off + k, none⟩) hb).trans (hc k hlt)
      obtain ⟨fn, tmps, assign, body, hy, hR⟩ := hY _ x wr hJs (by rw [List.length_take]; omega)
      have hyy : (Instr.yield l #[.int .u32 x]).run Try.prog wr = _ := hy
      clear hy hx
      gi_wp2
      refine hR.mono ?_
      rintro e W3 (⟨rfl, hJ3, hk3⟩ | ⟨rfl, hJx3⟩)
      · gi_wp2
        go_roundw
        case rel => exact ⟨k + 1, by omega, by simp, by rw [ht]; exact hJ3, hnx.trans hk3⟩
        case measure => simp [intOf]; omega
      · gi_wp2
        refine bodyPost_ret (results_none rfl _ _ _) rfl ?_
        exact ⟨⟨_, rfl⟩, .inr ⟨_, trivial, hJx3⟩⟩
    · obtain rfl : k = len := by omega
      gi_wp2
      go_end0
      rw [← hz, List.take_length] at hJs
      exact ⟨⟨_, rfl⟩, .inl ⟨_, rfl, hJs⟩⟩
set_option maxRecDepth 100000 in
set_option maxHeartbeats 1000000 in
/-- .. of no address -/
theorem values1_nil_inB (F : Fence) (n : Nat) (h7 : F.fn 42) (hro : F.round = none) (l Bs c : Nat) (A : Option Addr) (J : List Int → World → Prop) (W : World) (hBs : W.cell? ⟨Bs, 0, none⟩ = some (.slice A 0 c)) (h0 : J [] W) :
    CallsIn F n Try.prog 42 #[.func (.yield l) #[] #[], .pointer (some ⟨Bs, 0, none⟩)] W fun e W' => (∃ v, e = .returned v) ∧ J [] W' := by
  refine callsIn_of_wp Try.func42 rfl h7 ?_ hro
  simp only [Try.ntmps42, List.size_toArray, List.length_cons, List.length_nil, Nat.reduceAdd, Nat.reduceSub, Array.replicate_succ, Array.replicate_zero, List.push_toArray, List.append_toArray, List.nil_append, List.cons_append]
  gi_wp2
  gi_loopw [7] (fun i wr => i = .int .i64 0 ∧ J [] wr) (fun _ _ => 0)
  case atStart => exact ⟨rfl, h0⟩
  case round =>
    obtain ⟨rfl, hJs⟩ := hrel
    gi_wp2
    go_end0
    exact ⟨⟨_, rfl⟩, hJs⟩
theorem values_inB (F : Fence) (n : Nat) (h5 : F.fn 34) (hro : F.round = none) (a : Option Addr) (len cap : Nat) (w : World) :
    CallsIn F n Try.prog 34 #[.slice a len cap] w fun e w' => e = .returned (.func (.func 42) #[] #[.pointer (some ⟨w.heap.size, 0, none⟩)]) ∧ w' = w.alloc (.cells #[.slice a len cap] 23) := by
  refine callsIn_of_wp Try.func34 rfl h5 ?_ hro
  simp only [Try.ntmps34, List.size_toArray, List.length_cons, List.length_nil, Nat.reduceAdd, Nat.reduceSub, Array.replicate_succ, Array.replicate_zero, List.push_toArray, List.append_toArray, List.nil_append, List.cons_append]
  gi_wp2
  go_ret
  exact ⟨rfl, rfl⟩
theorem values_stopsB (F : Fence) (n : Nat) (h7 : F.fn 42) (hro : F.round = none) (hn : 1 ≤ n) (Bs n₀ cap len : Nat) (A : Option Addr) (zs : List Int) (hreach : len ≤ 1000000) (w : World) (hBs : Bs < w.heap.size)
    (hc : w.cell? ⟨Bs, 0, none⟩ = some (.slice A len cap)) (h : AR w A len zs) (hA : ∀ b o, A = some ⟨b, o, none⟩ → 0 < len → b < n₀) :
    SeqStopsK F n Try.prog 42 #[.pointer (some ⟨Bs, 0, none⟩)] (fun x : Int => #[ua x]) (Below n₀) (fun ys => ys = zs) (fun _ => True) len w := fun l J Jx W hW _ _ hY h0 => by
  have hc' := (hW.cell (p := ⟨Bs, 0, none⟩) hBs).trans hc
  rcases Nat.eq_zero_or_pos len with rfl | hp
  · obtain rfl : zs = [] := List.eq_nil_of_length_eq_zero h.len
    exact (values1_nil_inB F n h7 hro l Bs cap A J W hc' h0).mono fun e W' ⟨he, hj⟩ => ⟨he, .inl ⟨_, rfl, hj⟩⟩
  · obtain ⟨b, o, rfl, hlt, hcs⟩ := (h.next hW).2.2 hp
    exact values1_inB F n h7 hro hn l Bs n₀ b o len cap zs h.len hreach (hA b o rfl hp) J Jx hY W hc' hcs h0
set_option maxRecDepth 100000 in
set_option maxHeartbeats 2000000 in
theorem appendSeq_inB (F : Fence) (n : Nat) (h11 : F.fn 44) (hro : F.round = none) (hn : 2 ≤ n) (g : Nat) (lb : Array Value) (hFg : F.fn g) (eg : ∀ args w, (callFunc g args).run Try.prog w = .ok (.enter g args) w)
    (n₀ : Nat) (S Sp : List Int → Prop) (N : Nat) (hN : N ≤ 1000000) (w w0 : World) (hb0 : Below w0.heap.size w0 w) (hn₀ : n₀ ≤ w.heap.size) (hseq : SeqStopsK F (n - 1) Try.prog g lb (fun x : Int => #[ua x]) (Below n₀) S Sp N w0) :
    CallsIn F n Try.prog 44 #[.slice none 0 0, .func (.func g) #[] lb] w fun e w' => ∃ (v : Value) (ss : List Int), e = .returned v ∧ S ss ∧ w'.ownsRow w.heap.size 27 1 v ss.length (UC ss) ∧ Below w.heap.size w w' := by
  have h1 : 1 ≤ n := by omega
  obtain ⟨i0, hi, hz0, hz1, hz2⟩ := info_parts info_u32
  refine callsIn_of_wp_marks Try.func44 rfl h11 ?_ hro
  simp only [Try.ntmps44, List.size_toArray, List.length_cons, List.length_nil, Nat.reduceAdd, Nat.reduceSub, Array.replicate_succ, Array.replicate_zero, List.push_toArray, List.append_toArray, List.nil_append, List.cons_append]
  gi_wp2
  have bB := Boxed.new w 23 (.slice none 0 0)
  have hB1 : Below w.heap.size w (w.alloc (.cells #[.slice none 0 0] 23)) := (Below.refl _ w).alloc (Nat.le_refl _) _
  have hsz : (w.alloc (.cells #[.slice none 0 0] 23)).heap.size = w.heap.size + 1 := by simp
  have hb01 : Below w0.heap.size w0 (w.alloc (.cells #[.slice none 0 0] 23)) := hb0.trans (hB1.mono hb0.size)
  generalize w.alloc (.cells #[.slice none 0 0] 23) = W0 at bB hB1 hsz hb01 ⊢
  refine wpIn_rangeFunc_ownH hro h1 (gf := g) (lb := lb) rfl hFg eg hseq belowK_t (belowK_b (by omega)) hb01 (fun _ => rfl)
    (fun pre W => (∃ v, Boxed W w.heap.size 23 v ∧ W.ownsRow w.heap.size 27 1 v pre.length (UC pre) ∧ True) ∧ Below w.heap.size w W)
    (fun _ _ _ => False)
    (OwnFrom.and (Own.from (holdsRow_own w.heap.size w.heap.size 23 27 1 (fun pre : List Int => pre.length) (fun pre => UC pre) (fun _ _ => True)) _) (ownFrom_below (Nat.le_refl _) (by omega)))
    (fun _ _ _ _ _ h _ _ => h) ⟨⟨_, bB, World.ownsRow_nil _ _ _ _, trivial⟩, hB1⟩ (ApActU (.func (.func g) #[] lb) w.heap.size) ?_ ?assign ?body ?done ?stop
  · rintro x a' u A B row h _ _
    exact h
  case assign =>
    rintro l pre x1 W K ⟨⟨v, hv, hr, _⟩, hB⟩ hK
    have hpv : ua x1 = .int .u32 x1 := rfl
    simp only [hpv]
    clear hpv
    gi_wp2
    exact hK _ _ ((KeepsOthers.refl _).from _) (Below.refl _ _) ⟨⟨v, hv, hr, trivial⟩, hB⟩ rfl
  case body =>
    rintro l pre x1 a' W hl ⟨r, hr⟩ ⟨⟨v, hv, hrow, _⟩, hB⟩ rfl hlt
    have c0 := hv.cell
    have e0 := hv.lt
    gi_wp2_with (first
      | (gi_at_builtin; refine wpListIn_append_own _ rfl _ _ 23 rfl w.heap.size 27 i0 _ 1 4 Try.underlying23 hi hz0 hz1 hz2 rfl (by decide) _ _ _ rfl (hrow.alloc _) ⟨W.heap.size, 0, none⟩ 1 1 (UC [x1]) rfl rfl (fun j u hj => by
          match j, hj with
          | 0, hj => simp [UC] at hj; subst hj; go_simp
          | j + 1, hj => simp [UC] at hj) (UC_one _) (by unfold maxLen; omega) (by omega) (by have := hB.size; simp; omega) ?_; intro v' w1 hown' hgrow _; obtain ⟨g', cap', rfl⟩ := ownsRow_succ hown'; obtain ⟨hv1, hv2, hr2, hk2, hb2⟩ := hv.appended (by decide) hrow hB.size (Nat.le_refl _) hown' hgrow; have hc1 := hv1.cell; have hf1 := hv1.frozen)
      | gi_in)
    refine ⟨hk2.from _, hb2.mono hn₀, ⟨⟨_, hv2, ?_⟩, hB.trans hb2⟩⟩
    rw [UC_app, List.length_append]
    exact ⟨hr2, trivial⟩
  case done =>
    rintro D xs W hD hS ⟨⟨v, hv, hrow, _⟩, hB⟩ hK
    have c0 := hv.cell
    gi_wp2
    refine ⟨by simp, .inl ⟨_, _, rfl, run_takeDeferred hK, ?_⟩⟩
    exact ⟨_, results_tmp rfl _ _ _, v, xs, rfl, hS, ownsRow_putObj hrow _ hK rfl, hB.trans (belowK_b (w := w) (Nat.le_refl _) W D _ _ (by omega) hK rfl rfl)⟩
  case stop =>
    rintro D c pre W _ _ hF
    exact hF.elim
set_option maxHeartbeats 1000000 in
theorem collect_inB (F : Fence) (n : Nat) (h8 : F.fn 40) (h11 : F.fn 44) (hro : F.round = none) (hn : 3 ≤ n) (g : Nat) (lb : Array Value) (hFg : F.fn g) (eg : ∀ args w, (callFunc g args).run Try.prog w = .ok (.enter g args) w)
    (n₀ : Nat) (S Sp : List Int → Prop) (N : Nat) (hN : N ≤ 1000000) (w w0 : World) (hb0 : Below w0.heap.size w0 w) (hn₀ : n₀ ≤ w.heap.size) (hseq : SeqStopsK F (n - 1 - 1) Try.prog g lb (fun x : Int => #[ua x]) (Below n₀) S Sp N w0) :
    CallsIn F n Try.prog 40 #[.func (.func g) #[] lb] w fun e w' => ∃ (v : Value) (ss : List Int), e = .returned v ∧ S ss ∧ w'.ownsRow w.heap.size 27 1 v ss.length (UC ss) ∧ Below w.heap.size w w' := by
  have h1 : 1 ≤ n := by omega
  refine callsIn_of_wp Try.func40 rfl h8 ?_ hro
  simp only [Try.ntmps40, List.size_toArray, List.length_cons, List.length_nil, Nat.reduceAdd, Nat.reduceSub, Array.replicate_succ, Array.replicate_zero, List.push_toArray, List.append_toArray, List.nil_append, List.cons_append]
  gi_wp2_with (gi_at_call 44; refine (appendSeq_inB F (n - 1) h11 hro (by omega) g lb hFg eg n₀ S Sp N hN _ w0 hb0 hn₀ hseq).mono ?_; rintro e w' ⟨v, ss, rfl, hS, hrow, hb⟩)
  go_ret
  exact ⟨v, ss, rfl, hS, hrow, hb⟩

theorem eValsU : ∀ args w, (callFunc 42 args).run Try.prog w = .ok (.enter 42 args) w := enters_of Try.func42 (by kernel_rfl) rfl
set_option maxHeartbeats 2000000 in
/-- slices.Sorted over Values -/
theorem sortedV_any (Bs c len : Nat) (A : Option Addr) (xs : List Int) (w : World) (hBs : Bs < w.heap.size) (hm : w.cell? ⟨Bs, 0, none⟩ = some (.slice A len c)) (h : AR w A len xs) (hn : len ≤ 1000000) :
    Calls Try.prog 33 #[.func (.func 42) #[] #[.pointer (some ⟨Bs, 0, none⟩)]] w fun e w' =>
      ∃ (A' : Option Addr) (c' : Nat), e = .returned (.slice A' len c') ∧ w'.ownsRow w.heap.size 27 1 (.slice A' len c') len (A32 (sortA xs)) ∧ Below w.heap.size w w' := by
  have hlt : ∀ b o, A = some ⟨b, o, none⟩ → 0 < len → b < w.heap.size := fun b o e h0 => by
    obtain ⟨b', o', e', hl, _⟩ := h.2.2 h0
    rw [e] at e'; cases e'; exact hl
  have hcol := callsIn_wide.1 (collect_inB Fence.wide 3 trivial trivial rfl (by omega) _ _ trivial eValsU w.heap.size _ _ len hn w w (Below.refl _ _) (Nat.le_refl _) (values_stopsB Fence.wide 1 trivial rfl (by omega) Bs w.heap.size c len A xs hn w hBs hm h hlt))
  have hlen := h.len
  clear h hlt
  go_enter Try.func33, Try.ntmps33
  go_wp2_with fail
  refine hcol.mono ?_
  rintro e w1 ⟨v, ss, rfl, rfl, hrow, hb⟩
  have hrow' : w1.ownsRow w.heap.size 27 1 v ss.length (A32 ss) := hrow
  obtain ⟨A', c', rfl, hnc, hA⟩ := own_slice hrow'
  have HB := Lib.hid hb
  have HR := Lib.hid hrow'
  have HN := Lib.hid hlen
  by_cases h0 : ss.length = 0
  · obtain rfl : ss = [] := List.eq_nil_of_length_eq_zero h0
    clear hrow hrow' hb hcol hlen hA hm hn
    go_wp2_with (go_at_call 41; refine (sort0_any A' c' _).mono ?_; rintro e w2 ⟨rfl, hb2⟩)
    go_ret
    rw [← HN.out]
    exact ⟨A', c', rfl, ownk_next HR.out hb2, below_next HB.out hb2⟩
  · obtain ⟨g, rfl, hg1, hg2⟩ := hA (by omega)
    have HS := Lib.hid (sort_any w.heap.size g ss.length c' ss w1 HR.out (by omega) (by omega))
    clear hrow hrow' hb hcol hlen hA hg1 hg2 hm
    go_wp2_with (go_at_call 41; refine HS.out.mono ?_; rintro e w2 ⟨rfl, hs2⟩)
    go_ret
    rw [← HN.out]
    exact ⟨_, c', rfl, hs2.own, HB.out.trans (hs2.below HB.out.size)⟩
/-- Compact of no address, of one -/
theorem compact1_any (A : Option Addr) (n c : Nat) (w : World) (hn : n < 2) :
    Calls Try.prog 32 #[.slice A n c] w fun e w' => e = .returned (.slice A n c) ∧ w' = w := by
  have h1 : (n : Int) < 2 := by omega
  go_enter Try.func32, Try.ntmps32
  go_wp2
  go_ret
  exact ⟨rfl, rfl⟩
theorem grp_small {xs : List Int} (h : xs.length < 2) : groupsL xs = sortA xs := by
  rcases xs with _ | ⟨a, _ | ⟨b, xs⟩⟩
  · rfl
  · rfl
  · simp at h; omega
/-- filt.rising -/
theorem rising_any (c len : Nat) (A : Option Addr) (xs : List Int) (w : World) (h : AR w A len xs) (hn : len ≤ 1000000) :
    Calls Try.prog 24 #[.slice A len c] w fun e w' =>
      ∃ (A' : Option Addr) (c' : Nat), e = .returned (.slice A' (groupsL xs).length c') ∧ w'.ownsRow w.heap.size 27 1 (.slice A' (groupsL xs).length c') (groupsL xs).length (A32 (groupsL xs)) ∧ Below w.heap.size w w' := by
  have hb0 := (Below.refl w.heap.size w).alloc (Nat.le_refl _) (.cells #[.slice A len c] 23)
  have hk := Blk.new w 23 #[.slice A len c]
  have hk0 : (w.alloc (.cells #[.slice A len c] 23)).cell? ⟨w.heap.size, 0, none⟩ = some (.slice A len c) := hk.cell 0
  have har := h.next hb0
  have HV := Lib.hid (callsIn_wide.1 (values_inB Fence.wide 1 trivial rfl A len c w))
  have HN := Lib.hid h.len
  generalize w.alloc (.cells #[.slice A len c] 23) = W1 at *
  have HS := Lib.hid (sortedV_any w.heap.size c len A xs W1 hk.lt hk0 har hn)
  have HB0 := Lib.hid hb0
  clear h hb0 hk hk0 har
  rcases Nat.lt_or_ge len 2 with hl | hl
  · have HG : Hid (groupsL xs = sortA xs ∧ (sortA xs).length = len) := Lib.hid ⟨grp_small (by rw [HN.out]; exact hl), by rw [sortA_len, HN.out]⟩
    go_enter Try.func24, Try.ntmps24
    go_wp2_with (first
      | (go_at_call 34; (with_reducible refine HV.out.mono ?_); rintro e w1 ⟨rfl, rfl⟩)
      | (go_at_call 33; (with_reducible refine HS.out.mono ?_); rintro e w2 ⟨A2, c2, rfl, hr2, hb2⟩)
      | (go_at_call 32; refine (compact1_any A2 len c2 _ hl).mono ?_; rintro e w3 ⟨rfl, rfl⟩))
    go_ret
    rw [HG.out.1, HG.out.2]
    exact ⟨A2, c2, rfl, ownk_up hr2 HB0.out.size, HB0.out.trans (hb2.mono HB0.out.size)⟩
  · have HG : Hid (Lib.compactUpTo (sortA xs).toArray len = groupsL xs) := Lib.hid (by rw [← HN.out]; exact cmp_sortA xs)
    have HL := Lib.hid hl
    clear hl
    go_enter Try.func24, Try.ntmps24
    go_wp2_with (first
      | (go_at_call 34; (with_reducible refine HV.out.mono ?_); rintro e w1 ⟨rfl, rfl⟩)
      | (go_at_call 33; (with_reducible refine HS.out.mono ?_); rintro e w2 ⟨A2, c2, rfl, hr2, hb2⟩; obtain ⟨A3, c3, e3, hnc, hA⟩ := own_slice hr2; cases e3; obtain ⟨g, rfl, hg1, hg2⟩ := hA (by have := HL.out; omega))
      | (go_at_call 32; refine (compact2_any _ g len c2 (sortA xs) _ hr2).mono ?_; rintro e w3 ⟨rfl, hr3, hg3⟩))
    go_ret
    rw [HG.out] at hr3
    rw [HG.out]
    exact ⟨_, c2, rfl, ownk_up hr3 HB0.out.size, HB0.out.trans ((hb2.grown hg3 hb2.size (by intro j e; cases e; exact hg1)).mono HB0.out.size)⟩
end Go.Proofs.Ytfiiichiflglaaa

