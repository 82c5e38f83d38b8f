/- filt.refused: what all lists have that are not asked for; over the seat's program. -/
import Derived.Test.YtfiiichiflglaaaSl
import Derived.Test.YtfiiichiflglaaaSk
import Derived.OwnWalk
import Derived.Handy
namespace Go.Proofs.Ytfiiichiflglaaa
open Go.RowKit Sm Go.Maps Go.Sort Go.Shelf
/-! the plain side -/
def risen (ms : List Mb) : List Int := ms.flatMap (fun m => groupsL m.xs)
theorem risen_take {ms : List Mb} {k : Nat} {m : Mb} (h : ms[k]? = some m) : risen (ms.take (k + 1)) = risen (ms.take k) ++ groupsL m.xs := by
  unfold risen
  rw [List.take_add_one, h]
  simp
theorem risen_len : ∀ ms : List Mb, (risen ms).length ≤ (flat ms).length
  | [] => Nat.le_refl _
  | m :: ms => by
    have ih := risen_len ms
    have h := grp_len m.xs
    unfold risen flat at *
    simp only [List.flatMap_cons, List.length_append]
    omega
theorem count_grp (xs : List Int) (a : Int) : (groupsL xs).count a = if a ∈ xs then 1 else 0 := by
  by_cases h : a ∈ xs
  · rw [if_pos h]
    have h1 : 0 < (groupsL xs).count a := List.count_pos_iff.2 ((grp_mem xs a).2 h)
    have h2 : (groupsL xs).count a ≤ 1 := List.nodup_iff_count.1 (lt_nodup (grp_lt xs)) a
    omega
  · rw [if_neg h]
    exact List.count_eq_zero.2 (fun e => h ((grp_mem xs a).1 e))
theorem count_risen (a : Int) : ∀ ms : List Mb, (risen ms).count a = (ms.filter (fun m => decide (a ∈ m.xs))).length
  | [] => rfl
  | m :: ms => by
    have ih := count_risen a ms
    unfold risen at *
    rw [List.flatMap_cons, List.count_append, count_grp, ih, List.filter_cons]
    by_cases h : a ∈ m.xs
    · simp [h]; omega
    · simp [h]
/-- what all lists have, but not those that are asked for; rising -/
def refL (ms : List Mb) (xs : List Int) : List Int := groupsL ((flat ms).filter (fun a => decide (∀ m ∈ ms, a ∈ m.xs) && !decide (a ∈ xs)))
theorem ref_keys (ms : List Mb) (xs : List Int) : groupsL (((risen ms).filter (fun a => !decide (a ∈ xs))).filter (fun a => decide (ms.length ≤ ((risen ms).filter (fun a => !decide (a ∈ xs))).count a))) = refL ms xs := by
  refine grp_ext fun a => ?_
  rw [List.mem_filter, List.mem_filter, List.mem_filter]
  have hr : a ∈ risen ms ↔ a ∈ flat ms := by
    unfold risen flat
    rw [List.mem_flatMap, List.mem_flatMap]
    constructor
    · rintro ⟨m, hm, h⟩; exact ⟨m, hm, (grp_mem _ _).1 h⟩
    · rintro ⟨m, hm, h⟩; exact ⟨m, hm, (grp_mem _ _).2 h⟩
  rw [hr]
  have hf := List.length_filter_eq_length_iff (p := fun m : Mb => decide (a ∈ m.xs)) (l := ms)
  have hle := List.length_filter_le (fun m : Mb => decide (a ∈ m.xs)) ms
  by_cases hx : a ∈ xs
  · simp [hx]
  · have hc : ((risen ms).filter (fun a => !decide (a ∈ xs))).count a = (ms.filter (fun m => decide (a ∈ m.xs))).length := by
      rw [List.count_filter (by simpa using hx), count_risen]
    rw [hc]
    simp only [hx, decide_false, Bool.not_false, and_true, decide_eq_true_eq, Bool.and_true]
    constructor
    · rintro ⟨h1, h2⟩
      exact ⟨h1, fun m hm => by have := hf.1 (by omega) m hm; simpa using this⟩
    · rintro ⟨h1, h2⟩
      refine ⟨h1, ?_⟩
      have := hf.2 (fun m hm => by simpa using h2 m hm)
      omega
/-! maps -/
theorem om_next {w w' : World} {mb nn : Nat} {D : DataW Unit} (h : w.ownsMap Try.prog 27 (plainElem (H := Unit) Try.prog 3) mb nn D) (hb : Below w.heap.size w w') : w'.ownsMap Try.prog 27 (plainElem (H := Unit) Try.prog 3) mb nn D := by
  have hbl := h.lt
  obtain ⟨es, clock, hb2, Ft, hs, hD⟩ := h
  exact ⟨es, clock, (hb.block mb hbl).trans hb2, Ft, hs, hD⟩
theorem cnt_del {D : DataW Unit} {L : List Int} {a : Int} (h : CntOK D L) (hD : IsMap (D.del (.int .u32 a))) : CntOK (D.del (.int .u32 a)) (L.filter (fun b => !decide (b = a))) := by
  refine ⟨hD, fun b hb => ?_⟩
  obtain ⟨h1, h2⟩ := h.2 b hb
  by_cases e : b = a
  · subst e
    have hc : List.count b (L.filter (fun c => !decide (c = b))) = 0 := List.count_eq_zero.2 (by simp)
    rw [has_del_same, atKey_del_same, hc]
    exact ⟨by simp, rfl⟩
  · have hne : (Lit.int .u32 b) ≠ .int .u32 a := fun q => e (by cases q; rfl)
    rw [has_del_other hne, atKey_del_other hne, h1, h2, List.count_filter (p := fun b => !decide (b = a)) (by simp [e])]
    exact ⟨by simp [e], rfl⟩
/-- too few lists have it -/
def fewD (N : Nat) : Lit → DataW Unit → Bool := fun _ y => match y with
  | .lit (.int .i64 c) => decide (c < (N : Int))
  | _ => false
theorem has_few {es : List (Lit × DataW Unit)} {L : List Int} {N : Nat} (h : CntOK (.map es) L) (hap : es.Pairwise (fun p q => p.1 ≠ q.1)) : HasOK (Lib.deleteFuncD (fewD N) (.map es)) (L.filter (fun a => decide (N ≤ L.count a))) := by
  intro a ha
  obtain ⟨h1, h2⟩ := h.2 a ha
  have key : ∀ p ∈ es, p.1.sameKey (.int .u32 a) = true → p.2 = .lit (.int .i64 ((L.count a : Nat) : Int)) := fun p hp hs => by
    have e := WideAt.sameKey_eq hs
    obtain ⟨k, d⟩ := p
    simp only at e
    subst e
    have := WideAt.atKey_mem (.lit (.int .i64 0)) (lit_key a) hap hp
    rw [h2] at this
    exact this.symm
  show (es.filter fun p => !fewD N p.1 p.2).any (fun p => p.1.sameKey (.int .u32 a)) = _
  have h1' : es.any (fun p => p.1.sameKey (.int .u32 a)) = decide (a ∈ L) := h1
  rw [Bool.eq_iff_iff, List.any_eq_true]
  rw [Bool.eq_iff_iff, List.any_eq_true] at h1'
  simp only [List.mem_filter, decide_eq_true_eq] at h1' ⊢
  constructor
  · rintro ⟨p, ⟨hp, hf⟩, hs⟩
    refine ⟨h1'.1 ⟨p, hp, hs⟩, ?_⟩
    rw [key p hp hs] at hf
    simp [fewD] at hf
    omega
  · rintro ⟨hm, hN⟩
    obtain ⟨p, hp, hs⟩ := h1'.2 hm
    refine ⟨p, ⟨hp, ?_⟩, hs⟩
    rw [key p hp hs]
    simp [fewD]
    omega
theorem eFew : ∀ args w, (callFunc 36 args).run Try.prog w = .ok (.enter 36 args) w := enters_of Try.func36 (by kernel_rfl) rfl
theorem few_any (N B : Nat) (A : Option Addr) (c : Nat) (x y : Int) (w : World) (hc : w.cell? ⟨B, 0, none⟩ = some (.slice A N c)) :
    Calls Try.prog 36 #[.int .u32 x, .int .i64 y, .pointer (some ⟨B, 0, none⟩)] w fun e w' => e = .returned (.bool (decide (y < (N : Int)))) ∧ w' = w := by
  go_enter Try.func36, Try.ntmps36
  go_wp2
  go_ret
  exact ⟨rfl, rfl⟩
theorem grown_cell {W W' : World} {b : Nat} (h : W.grownBy W' (some b)) {p : Addr} {v : Value} (hc : W.cell? p = some v) (hn : p.block ≠ b) : W'.cell? p = some v :=
  (World.cell?_of_block (h.block _ (World.block_lt_of_cell? W p hc) (fun e => hn (by cases e; rfl)))).trans hc
theorem del_map {D : DataW Unit} {k : Lit} (h : IsMap D) : IsMap (D.del k) := by
  obtain ⟨es, rfl⟩ := h
  exact ⟨_, rfl⟩
theorem filt_take {xs L : List Int} {k : Nat} {x : Int} (h : xs[k]? = some x) : (L.filter (fun a => !decide (a ∈ xs.take k))).filter (fun b => !decide (b = x)) = L.filter (fun a => !decide (a ∈ xs.take (k + 1))) := by
  rw [List.filter_filter]
  refine List.filter_congr fun a _ => ?_
  rw [List.take_add_one, h]
  simp [List.mem_append]
  cases decide (a ∈ List.take k xs) <;> cases decide (a = x) <;> rfl
/-- a map that counts what L holds, all else below it as it was -/
structure CM (w W1 : World) (mb nn : Nat) (L : List Int) (W : World) : Prop where
  h : ∃ D, CntOK D L ∧ W.ownsMap Try.prog 27 (plainElem (H := Unit) Try.prog 3) mb nn D
  g : W1.grownBy W (some mb)
theorem CM.next {w W1 W W' : World} {mb nn : Nat} {L : List Int} (h : CM w W1 mb nn L W) (hb : Below W.heap.size W W') : CM w W1 mb nn L W' := by
  obtain ⟨D, h1, h2⟩ := h.h
  exact ⟨⟨D, h1, om_next h2 hb⟩, ⟨hb.os.trans h.g.os, hb.tape.trans h.g.tape, hb.output.trans h.g.output, Nat.le_trans h.g.size hb.size, fun k hk hne => (hb.block k (Nat.lt_of_lt_of_le hk h.g.size)).trans (h.g.block k hk hne)⟩⟩
set_option maxRecDepth 100000 in
set_option maxHeartbeats 8000000 in
theorem refused_any (A1 A : Option Addr) (n1 c1 n c : Nat) (ms : List Mb) (xs : List Int) (w : World) (h : MS w A1 n1 ms) (h2 : AR w A n xs) (hn1 : n1 ≤ 1000000) (hn : n ≤ 1000000) (hf : (flat ms).length ≤ 1000000) (hx1 : ∀ m ∈ ms, m.n ≤ 1000000) :
    Calls Try.prog 25 #[.slice A1 n1 c1, .slice A n c] w fun e w' => ∃ (A' : Option Addr) (c' : Nat), e = .returned (.slice A' (refL ms xs).length c') ∧ w'.ownsRow w.heap.size 27 1 (.slice A' (refL ms xs).length c') (refL ms xs).length (A32 (refL ms xs)) ∧ Below w.heap.size w w' := by
  have H := Lib.hid h
  have H2 := Lib.hid h2
  have HX1 := Lib.hid hx1
  have HL := Lib.hid (And.intro h.r.len h2.len)
  have HF := Lib.hid (And.intro hf (Nat.le_trans (risen_len ms) hf))
  have HU : Hid ((∀ a ∈ risen ms, U32 a) ∧ ∀ a ∈ xs, U32 a) := Lib.hid ⟨fun a ha => by
    unfold risen at ha
    obtain ⟨m, hm, hg⟩ := List.mem_flatMap.1 ha
    exact (h.a m hm).isAs a ((grp_mem _ _).1 hg), fun a ha => h2.isAs a ha⟩
  have hmm := @run_makeMap Try.prog
  clear h h2 hf hx1
  go_enter Try.func25, Try.ntmps25
  go_upto_region 2 with fail
  have hbk := (Blk.new w 52 #[.slice A1 n1 c1]).alloc (.map #[] 0)
  have hown : ((w.alloc (.cells #[.slice A1 n1 c1] 52)).alloc (.map #[] 0)).ownsMap Try.prog 27 (plainElem (H := Unit) Try.prog 3) (w.heap.size + 1) 0 (.map []) := by
    have := World.ownsMap_made (w.alloc (.cells #[.slice A1 n1 c1] 52)) Try.prog 27 (plainElem (H := Unit) Try.prog 3)
    simpa using this
  have HB1 := Lib.hid (((Below.refl w.heap.size w).alloc (Nat.le_refl _) (.cells #[.slice A1 n1 c1] 52)).alloc (by simp) (.map #[] 0))
  clear hmm
  generalize (w.alloc (.cells #[.slice A1 n1 c1] 52)).alloc (.map #[] 0) = W1 at *
  have HO := Lib.hid hown
  have z0 : W1.cell? ⟨w.heap.size, 0, none⟩ = some (.slice A1 n1 c1) := hbk.cell 0
  have hmbc : w.heap.size ≠ w.heap.size + 1 := by omega
  have hwm : w.heap.size ≤ w.heap.size + 1 := by omega
  have hmb1 : w.heap.size + 1 < W1.heap.size := hown.lt
  generalize w.heap.size + 1 = mb at *
  have bwr : Hid (∀ {wr : World}, W1.grownBy wr (some mb) → Below w.heap.size w wr) := Lib.hid (fun hg => HB1.out.grown hg HB1.out.size (by intro j hj; cases hj; exact hwm))
  have HZ := Lib.hid (And.intro z0 (And.intro hmbc hbk.lt))
  clear hbk hown hmbc hwm
  go_wp2_with fail
  go_loopw [15] (fun iv wr => ∃ k : Nat, k ≤ n1 ∧ iv = .int .i64 (k : Int) ∧ Hid (CM w W1 mb (risen (ms.take k)).length (risen (ms.take k)) wr)) (fun iv _ => n1 - (intOf iv).toNat)
  case atStart => exact ⟨0, Nat.zero_le _, rfl, Lib.hid ⟨⟨_, cnt_nil, HO.out⟩, ⟨rfl, rfl, rfl, Nat.le_refl _, fun _ _ _ => rfl⟩⟩⟩
  case round =>
    obtain ⟨k, hk, rfl, HC⟩ := hrel
    rcases Nat.lt_or_ge k n1 with hlt | hge
    · obtain ⟨b, o, m, rfl, hb, hm, hc, hr⟩ := (H.out.next (bwr.out HC.out.g)).cell hlt
      have hi0 : (k : Int) < (n1 : Int) := by omega
      have HR := Lib.hid (rising_any m.c m.n m.A m.xs wr hr (HX1.out m (List.mem_of_getElem? hm)))
      have HT := Lib.hid (risen_take hm)
      have HUm : Hid (∀ a ∈ groupsL m.xs, U32 a) := Lib.hid fun a ha => hr.isAs a ((grp_mem _ _).1 ha)
      have hglen : (risen (ms.take k)).length + (groupsL m.xs).length ≤ 1000000 := by
        have h1 := congrArg List.length HT.out
        rw [List.length_append] at h1
        have h2 : (risen (ms.take (k + 1))).length ≤ (flat ms).length := Nat.le_trans (risen_len _) (flat_le ms (k + 1))
        have := HF.out
        omega
      generalize groupsL m.xs = G at *
      generalize m.A = mA at *
      generalize m.n = mn at *
      generalize m.c = mc at *
      generalize risen (ms.take k) = L0 at *
      clear hm hr z0
      go_wp2_with (go_at_call 24; (with_reducible refine HR.out.mono ?_); rintro e w5 ⟨A5, c5, rfl, hr5, hb5⟩)
      have HC5 := Lib.hid (HC.out.next hb5)
      have HR5 := Lib.hid hr5
      have hw5 : mb < wr.heap.size := Nat.lt_of_lt_of_le hmb1 HC.out.g.size
      clear hr5 hb5 HC HR
      generalize wr = w4 at *
      go_loopw [22] (fun jv wj => ∃ j : Nat, j ≤ G.length ∧ jv = .int .i64 (j : Int) ∧ Hid (CM w W1 mb (L0 ++ G.take j).length (L0 ++ G.take j) wj) ∧ Hid (w5.grownBy wj (some mb))) (fun jv _ => G.length - (intOf jv).toNat)
      case atStart => exact ⟨0, Nat.zero_le _, rfl, by rw [List.take_zero, List.append_nil]; exact HC5, Lib.hid ⟨rfl, rfl, rfl, Nat.le_refl _, fun _ _ _ => rfl⟩⟩
      case round =>
        clear HC5
        obtain ⟨j, hj, rfl, HC, HG⟩ := hrel
        rcases Nat.lt_or_ge j G.length with hjlt | hjge
        · obtain ⟨A6, c6, hA6, _, hA⟩ := own_slice HR5.out
          cases hA6
          obtain ⟨g, rfl, hg1, hg2⟩ := hA (by omega)
          obtain ⟨x, hx⟩ : ∃ x, G.getD j 0 = x := ⟨_, rfl⟩
          have hgj : G[j]? = some x := by rw [← hx, List.getD_eq_getElem?_getD, List.getElem?_eq_getElem hjlt]; rfl
          have k0 := HR5.out.kept HG.out (.inr (by intro e; have e2 : g = mb := by cases e; rfl
                                                   omega))
          have k1 : wr.cell? ⟨g, j, none⟩ = some (.int .u32 x) := by
            rw [k0.cellAt j (by omega), A32_at hjlt, hx]
          have hi1 : (j : Int) < (G.length : Int) := by omega
          obtain ⟨D, hD, hM⟩ := HC.out.h
          have hu : U32 x := HUm.out x (List.mem_of_getElem? hgj)
          have HT2 : Hid (L0 ++ G.take j ++ [x] = L0 ++ G.take (j + 1) ∧ (L0 ++ G.take j).length + 1 = (L0 ++ G.take (j + 1)).length) := Lib.hid (by rw [List.take_add_one, hgj]; simp; omega)
          have hLn : (L0 ++ G.take j).length ≤ 1000000 := by rw [List.length_append, List.length_take]; omega
          have hcl : (L0 ++ G.take j).count x ≤ (L0 ++ G.take j).length := List.count_le_length
          have hz : (zeroValue 3).run Try.prog wr = .ok (.int .i64 0) wr := by kernel_rfl
          obtain ⟨c0, hrun, hat, hwc⟩ := hM.lookup_int keyedU Try.underlying66 Try.underlying3 hz (keyOf_int_mk Try.underlying27 (wf_a hu))
          rw [(hD.2 x hu).2] at hat
          simp only [DataW.lit.injEq, Lit.int.injEq, true_and] at hat
          subst hat
          have hput := cnt_put hD x
          have hcn : (L0 ++ G.take j).count x ≤ 1000000 := Nat.le_trans hcl hLn
          clear hcl hD
          generalize (L0 ++ G.take j).count x = cn at *
          obtain ⟨W8, hrun8, hm8, hg8⟩ := hM.update (val := .int .i64 ((cn : Int) + 1)) keyedU Try.underlying66 (Nat.lt_of_le_of_lt hLn (by unfold maxLen; decide)) (keyOf_int_mk Try.underlying27 (wf_a hu)) (plainElem_int Try.underlying3 (by simp [Lit.wf, IntKind.min, IntKind.max, IntKind.signed, IntKind.bits]; omega))
          have HC8 : Hid (CM w W1 mb (L0 ++ G.take (j + 1)).length (L0 ++ G.take (j + 1)) W8) := Lib.hid (by
            rw [← HT2.out.2, ← HT2.out.1]
            exact ⟨⟨_, hput, hm8⟩, HC.out.g.trans hg8⟩)
          have HG8 := Lib.hid (HG.out.trans hg8)
          clear hx hgj hu hm8 hg8 hz hLn hput hM k0 HC HG hwc
          go_wp2
          go_roundw
          case rel => exact ⟨j + 1, by omega, by go_num, HC8, HG8⟩
          case measure => simp [intOf]; omega
        · have q1 : ¬ (j : Int) < (G.length : Int) := by omega
          have HC9 : Hid (CM w W1 mb (risen (ms.take (k + 1))).length (risen (ms.take (k + 1))) wr) := Lib.hid (by
            have := HC.out
            rw [show j = G.length by omega, List.take_length, ← HT.out] at this
            exact this)
          clear HC HG
          go_wp2
          go_roundw
          case rel => exact ⟨k + 1, by omega, by go_num, HC9⟩
          case measure => simp [intOf]; omega
    · have q1 : ¬ (k : Int) < (n1 : Int) := by omega
      have HC1 : Hid (CM w W1 mb (risen ms).length (risen ms) wr) := Lib.hid (by
        have := HC.out
        rw [show ms.take k = ms by rw [show k = n1 by omega, ← HL.out.1, List.take_length]] at this
        exact this)
      clear HC
      have q2 : (risen ms).length ≤ 1000000 := HF.out.2
      go_wp2_with fail
      go_loopw [34] (fun iv wr => ∃ i : Nat, i ≤ n ∧ iv = .int .i64 (i : Int) ∧ Hid (CM w W1 mb (risen ms).length ((risen ms).filter (fun a => !decide (a ∈ xs.take i))) wr)) (fun iv _ => n - (intOf iv).toNat)
      case atStart => exact ⟨0, Nat.zero_le _, rfl, by
        rw [show (risen ms).filter (fun a => !decide (a ∈ xs.take 0)) = risen ms by rw [List.filter_eq_self]; intro a _; simp]
        exact HC1⟩
      case round =>
        clear HC1
        obtain ⟨i, hi, rfl, HC⟩ := hrel
        rcases Nat.lt_or_ge i n with hilt | hige
        · obtain ⟨b, o, rfl, hb, hc⟩ := (H2.out.next (bwr.out HC.out.g)).at_ hilt
          have hi0 : (i : Int) < (n : Int) := by omega
          obtain ⟨x, hx⟩ : ∃ x, xs.getD i 0 = x := ⟨_, rfl⟩
          rw [hx] at hc
          have hxi : xs[i]? = some x := by rw [← hx, List.getD_eq_getElem?_getD, List.getElem?_eq_getElem (by have := HL.out.2; omega)]; rfl
          obtain ⟨D, hD, hM⟩ := HC.out.h
          have hu : U32 x := HU.out.2 x (List.mem_of_getElem? hxi)
          have HT2 := Lib.hid (filt_take (L := risen ms) hxi)
          have hd2 := cnt_del (a := x) hD (del_map hD.1)
          rw [HT2.out] at hd2
          have HD2 := Lib.hid hd2
          have HG := Lib.hid HC.out.g
          have hk := keyOf_int_mk Try.underlying27 (wf_a hu)
          clear hx hxi hD hd2 HC
          go_wp2_with (at_delete; refine wpList_delete_own _ rfl _ _ 66 27 rfl 3 keyedU Try.underlying66 (plainElem (H := Unit) Try.prog 3) mb (risen ms).length D rfl hM (.int .u32 x) _ rfl hk ?_; intro w6 hown6 hturn6)
          have HC6 : Hid (CM w W1 mb (risen ms).length ((risen ms).filter (fun a => !decide (a ∈ xs.take (i + 1)))) w6) := Lib.hid ⟨⟨_, HD2.out, hown6⟩, HG.out.trans hturn6.grown⟩
          clear hown6 hturn6 hM
          go_wp2
          go_roundw
          case rel => exact ⟨i + 1, by omega, by go_num, HC6⟩
          case measure => simp [intOf]; omega
        · have q3 : ¬ (i : Int) < (n : Int) := by omega
          obtain ⟨D, hD, hM⟩ := HC.out.h
          rw [show xs.take i = xs by rw [show i = n by omega, ← HL.out.2, List.take_length]] at hD
          have HGW := Lib.hid HC.out.g
          have HBW := Lib.hid (bwr.out HC.out.g)
          obtain ⟨es, rfl, hap, _⟩ := hM.entries keyedU
          have HAS := Lib.hid (has_few (N := n1) hD hap)
          have zb : wr.cell? ⟨w.heap.size, 0, none⟩ = some (.slice A1 n1 c1) := grown_cell HC.out.g HZ.out.1 HZ.out.2.1
          have HDF : Hid (Calls Try.prog 35 #[.map (some mb), .func (.func 36) #[] #[.pointer (some ⟨w.heap.size, 0, none⟩)]] wr fun e w' => e = .returned (.tuple #[]) ∧ w'.ownsMap Try.prog 27 (plainElem (H := Unit) Try.prog 3) mb (risen ms).length (Lib.deleteFuncD (fewD n1) (.map es)) ∧ wr.grownBy w' (some mb)) := Lib.hid (AnyDf.maps_DeleteFunc Try.delFuncA keyedU (plainElem (H := Unit) Try.prog 3) (fewD n1) 36 #[.pointer (some ⟨w.heap.size, 0, none⟩)] mb (risen ms).length (.map es) wr eFew hM (fun W key val kl yd yp hgW hkey hval => by
            obtain ⟨a, rfl⟩ := key_ua hkey
            obtain ⟨y, rfl, hyd, _⟩ := plainElem_int_inv Try.underlying3 hval
            have hyd' : yd = .lit (.int .i64 y) := congrArg Prod.fst hyd
            subst hyd'
            refine (few_any n1 w.heap.size A1 c1 a y W (grown_cell hgW zb HZ.out.2.1)).mono ?_
            rintro e w' ⟨rfl, rfl⟩
            exact ⟨rfl, ⟨rfl, rfl, rfl, Nat.le_refl _, fun _ _ _ => rfl⟩⟩))
          clear hD hM hap zb HC
          go_upto_region 17 with (go_at_call 35; (with_reducible refine HDF.out.mono ?_); rintro e w7 ⟨rfl, hm7, hg7⟩)
          have HB7 := Lib.hid (bwr.out (HGW.out.trans hg7))
          have HM7 := Lib.hid hm7
          have hrk := ref_keys ms xs
          rw [HL.out.1] at hrk
          obtain ⟨Lk, hLk⟩ : ∃ Lk, ((risen ms).filter (fun a => !decide (a ∈ xs))).filter (fun a => decide (n1 ≤ ((risen ms).filter (fun a => !decide (a ∈ xs))).count a)) = Lk := ⟨_, rfl⟩
          have hlen : Lk.length ≤ 1000000 := by
            rw [← hLk]
            exact Nat.le_trans (Nat.le_trans (List.length_filter_le _ _) (List.length_filter_le _ _)) q2
          have hUk : ∀ a ∈ Lk, U32 a := fun a ha => by
            rw [← hLk] at ha
            exact HU.out.1 a (List.mem_filter.1 (List.mem_filter.1 ha).1).1
          rw [hLk] at hrk HAS
          have hnub : (nubA Lk).length ≤ 1000000 := by
            have := grp_len Lk
            unfold groupsL at this
            rw [sortA_len] at this
            omega
          have HSR := Lib.hid (sorted_any w7.heap.size mb (risen ms).length _ Lk (w7.alloc (.cells #[.map (some mb)] 66)) (by simp) ((Blk.new w7 _ _).cell 0) (HM7.out.alloc _) HAS.out hUk hnub q2)
          rw [hrk] at HSR
          have HB8 := Lib.hid (HB7.out.alloc HB7.out.size (.cells #[.map (some mb)] 66))
          clear hm7 hg7 hrk hLk hlen hUk hnub
          go_wp2_with (first
            | (go_at_call 37; refine (callsIn_wide.1 (keys_inU Fence.wide 1 trivial rfl (some mb) _)).mono ?_; rintro e w8 ⟨rfl, rfl⟩)
            | (go_at_call 33; (with_reducible refine HSR.out.mono ?_); rintro e w9 ⟨A9, c9, rfl, hr9, hb9⟩))
          go_ret
          exact ⟨A9, c9, rfl, ownk_up hr9 HB8.out.size, HB8.out.trans (hb9.mono HB8.out.size)⟩
end Go.Proofs.Ytfiiichiflglaaa

