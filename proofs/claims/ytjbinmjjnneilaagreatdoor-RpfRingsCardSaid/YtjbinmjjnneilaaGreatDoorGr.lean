/- The sort by insertion, plainly: it sorts; of lists of the same numbers, each once, it makes the same. topo.groups of any network (of up to twelve groups): the groups that a source sends to, or a member listens to, rising, each once; over the seat's program. -/
import Derived.Test.YtjbinmjjnneilaaGreatDoorSo
import Derived.Test.YtjbinmjjnneilaaGreatDoorGr0
import Derived.Test.YtjbinmjjnneilaaGreatDoorNw0
namespace Go.Proofs.YtjbinmjjnneilaaGreatDoor
open Go.RowKit Sm
theorem getD_set {xs : List Int} {i k : Nat} {v : Int} (hi : i < xs.length) : (xs.set i v).getD k 0 = if i = k then v else xs.getD k 0 := by
  rw [List.getD_eq_getElem?_getD, List.getElem?_set]
  by_cases h : i = k
  · subst h; simp [hi]
  · simp [h, List.getD_eq_getElem?_getD]
theorem sink_sorts : ∀ (j K : Nat) (xs : List Int), j ≤ K → K < xs.length → (∀ i i', i < i' → i' ≤ K → i ≠ j → i' ≠ j → xs.getD i 0 ≤ xs.getD i' 0) → (∀ i', j < i' → i' ≤ K → xs.getD j 0 ≤ xs.getD i' 0) →
    ∀ i i', i < i' → i' ≤ K → (sinkA xs j).getD i 0 ≤ (sinkA xs j).getD i' 0
  | 0, K, xs, _, _, h1, h2, i, i', hi, hk => by
    unfold sinkA
    by_cases e : i = 0
    · subst e; exact h2 i' hi hk
    · exact h1 i i' hi hk e (by omega)
  | j + 1, K, xs, hj, hK, h1, h2, i, i', hi, hk => by
    unfold sinkA
    split
    · rename_i hlt
      refine sink_sorts j K _ (by omega) (by simpa using hK) ?_ ?_ i i' hi hk
      · intro a b hab hbK ha hb
        rw [getD_set (by simp; omega), getD_set (by omega), getD_set (by simp; omega), getD_set (by omega), if_neg (Ne.symm ha), if_neg (Ne.symm hb)]
        by_cases ea : j + 1 = a
        · rw [if_pos ea, if_neg (by omega)]
          exact h1 j b (by omega) hbK (by omega) (by omega)
        · rw [if_neg ea]
          by_cases eb : j + 1 = b
          · rw [if_pos eb]
            exact h1 a j (by omega) (by omega) (by omega) (by omega)
          · rw [if_neg eb]
            exact h1 a b hab hbK (Ne.symm ea) (Ne.symm eb)
      · intro b hjb hbK
        rw [getD_set (by simp; omega), getD_set (by omega), getD_set (by simp; omega), getD_set (by omega), if_pos rfl, if_neg (show j ≠ b by omega)]
        by_cases eb : j + 1 = b
        · rw [if_pos eb]; omega
        · rw [if_neg eb]
          exact h2 b (by omega) hbK
    · rename_i hge
      by_cases ea : i = j + 1
      · subst ea; exact h2 i' hi hk
      · by_cases eb : i' = j + 1
        · subst eb
          by_cases ec : i = j
          · subst ec; omega
          · have := h1 i j (by omega) (by omega) ea (by omega)
            omega
        · exact h1 i i' hi hk ea eb
theorem ins_sorts (xs : List Int) : ∀ k, k < xs.length → ∀ i i', i < i' → i' ≤ k → (insA xs k).getD i 0 ≤ (insA xs k).getD i' 0
  | 0, _, i, i', hi, hk => by omega
  | k + 1, h, i, i', hi, hk => by
    unfold insA
    refine sink_sorts (k + 1) (k + 1) (insA xs k) (Nat.le_refl _) (by rw [insA_len]; exact h) ?_ ?_ i i' hi hk
    · intro a b hab hb _ hb2
      exact ins_sorts xs k (by omega) a b hab (by omega)
    · intro b h1 h2; omega
theorem sortA_sorts (xs : List Int) : (sortA xs).Pairwise (· ≤ ·) := by
  rw [List.pairwise_iff_getElem]
  intro i j hi hj hij
  have hl : (sortA xs).length = xs.length := by unfold sortA; rw [insA_len]
  have := ins_sorts xs (xs.length - 1) (by omega) i j hij (by omega)
  have e1 : (sortA xs).getD i 0 = (sortA xs)[i] := by simp [List.getD_eq_getElem?_getD, hi]
  have e2 : (sortA xs).getD j 0 = (sortA xs)[j] := by simp [List.getD_eq_getElem?_getD, hj]
  rw [← e1, ← e2]
  exact this
theorem sink_perm : ∀ (j : Nat) (xs : List Int), j < xs.length → (sinkA xs j).Perm xs
  | 0, xs, _ => List.Perm.refl _
  | j + 1, xs, h => by
    unfold sinkA
    split
    · refine (sink_perm j _ (by simp; omega)).trans ?_
      have e1 : xs.getD j 0 = xs[j] := by simp [List.getD_eq_getElem?_getD, show j < xs.length by omega]
      have e2 : xs.getD (j + 1) 0 = xs[j + 1] := by simp [List.getD_eq_getElem?_getD, h]
      rw [e1, e2]
      exact List.set_set_perm h (by omega)
    · exact List.Perm.refl _
theorem ins_perm (xs : List Int) : ∀ k, k < xs.length ∨ k = 0 → (insA xs k).Perm xs
  | 0, _ => List.Perm.refl _
  | k + 1, h => by
    unfold insA
    exact (sink_perm (k + 1) _ (by rw [insA_len]; omega)).trans (ins_perm xs k (by omega))
theorem sortA_perm (xs : List Int) : (sortA xs).Perm xs := by
  unfold sortA
  exact ins_perm xs _ (by omega)
theorem sortA_len (xs : List Int) : (sortA xs).length = xs.length := (sortA_perm xs).length_eq
theorem sortA_same {xs ys : List Int} (h : xs.Perm ys) : sortA xs = sortA ys :=
  List.Perm.eq_of_pairwise (le := (· ≤ ·)) (fun a b _ _ h1 h2 => by omega) (sortA_sorts xs) (sortA_sorts ys) (((sortA_perm xs).trans h).trans (sortA_perm ys).symm)
/-- each number once -/
def nubA : List Int → List Int
  | [] => []
  | a :: l => if nubA l |>.contains a then nubA l else a :: nubA l
theorem nub_mem : ∀ (l : List Int) (a : Int), a ∈ nubA l ↔ a ∈ l
  | [], a => Iff.rfl
  | b :: l, a => by
    unfold nubA
    have ih := nub_mem l
    split
    · rename_i h
      have hb : b ∈ nubA l := by simpa using h
      rw [ih, List.mem_cons]
      constructor
      · exact .inr
      · rintro (rfl | h)
        · exact (ih a).1 hb
        · exact h
    · rw [List.mem_cons, List.mem_cons, ih]
theorem nub_nodup : ∀ l : List Int, (nubA l).Nodup
  | [] => List.nodup_nil
  | b :: l => by
    unfold nubA
    split
    · exact nub_nodup l
    · rename_i h
      exact List.nodup_cons.2 ⟨by simpa using h, nub_nodup l⟩
theorem same_once {ss l : List Int} (h : ss.Nodup) (hm : ∀ a, a ∈ ss ↔ a ∈ l) : ss.Perm (nubA l) :=
  (List.perm_ext_iff_of_nodup h (nub_nodup l)).2 fun a => by rw [hm, nub_mem]
end Go.Proofs.YtjbinmjjnneilaaGreatDoor
namespace Go.Proofs.YtjbinmjjnneilaaGreatDoor
open Go.RowKit Lx Sm Go.Maps Go.Sort Go.Shelf
/-- a map that counts: so often each address -/
def CntOK (D : DataW Unit) (L : List Int) : Prop := IsMap D ∧ ∀ a, U32 a → Maps.has D (.int .u32 a) = decide (a ∈ L) ∧ D.atKey (.int .u32 a) (.lit (.int .i64 0)) = .lit (.int .i64 ((L.count a : Nat) : Int))
theorem cnt_nil : CntOK (.map []) [] := ⟨⟨_, rfl⟩, fun a _ => ⟨by simp [Maps.has], by simp [DataW.atKey]⟩⟩
theorem cnt_put {D : DataW Unit} {L : List Int} (h : CntOK D L) (a : Int) : CntOK (D.put (.int .u32 a) (.lit (.int .i64 (((L.count a : Nat) : Int) + 1)))) (L ++ [a]) := by
  refine ⟨h.1.put _ _, fun b hb => ?_⟩
  obtain ⟨h1, h2⟩ := h.2 b hb
  by_cases e : a = b
  · subst e
    rw [has_put_same h.1 (lit_key _), atKey_put_same h.1 (lit_key _)]
    simp
  · have hne : (Lit.int .u32 b) ≠ .int .u32 a := fun q => e (by cases q; rfl)
    rw [has_put_other hne, atKey_put_other hne, h1, h2]
    have hc : List.count b [a] = 0 := List.count_eq_zero.2 (by simp; exact fun q => e q.symm)
    rw [List.count_append, hc]
    simp [Ne.symm e]
theorem key_wf {a : Int} {kl : Lit} (h : keyOf Tryz.prog 43 (ua a) = some kl) : kl = .int .u32 a ∧ U32 a := by
  simp [keyOf, ua, Tryz.underlying43, mapKey] at h
  obtain ⟨hw, rfl⟩ := h
  exact ⟨rfl, wf_u32 hw⟩
def groupsL (L : List Int) : List Int := sortA (nubA L)
theorem met_groups {D : DataW Unit} {L ss : List Int} (h : CntOK D L) (hu : ∀ a ∈ L, U32 a) (hm : AllMetU D ss) : ss.Perm (nubA L) ∧ ∀ a ∈ ss, U32 a := by
  obtain ⟨left, hm, hl⟩ := hm
  have key : ∀ a, a ∈ ss → U32 a ∧ a ∈ L := fun a ha => by
    obtain ⟨kl, hk⟩ := hm.keys a ha
    obtain ⟨rfl, hua⟩ := key_wf hk
    have := ((hm.just a _ hk).1 ha).1
    rw [(h.2 a hua).1] at this
    exact ⟨hua, by simpa using this⟩
  refine ⟨same_once hm.apart fun a => ⟨fun ha => (key a ha).2, fun ha => ?_⟩, fun a ha => (key a ha).1⟩
  have hk := keyOf_int_mk Tryz.underlying43 (wf_a (hu a ha))
  exact (hm.just a _ hk).2 ⟨by rw [(h.2 a (hu a ha)).1]; simpa using ha, hl _⟩
set_option maxHeartbeats 2000000 in
theorem sorted_any (Bm b nn : Nat) (D : DataW Unit) (L : List Int) (w : World) (hBm : Bm < w.heap.size) (hm : w.cell? ⟨Bm, 0, none⟩ = some (.map (some b))) (hown : w.ownsMap Tryz.prog 43 (plainElem (H := Unit) Tryz.prog 3) b nn D) (hc : CntOK D L) (hu : ∀ a ∈ L, U32 a) (hn : (nubA L).length ≤ 12) (hnn : nn ≤ 1000000) :
    Calls Tryz.prog 56 #[.func (.func 107) #[] #[.pointer (some ⟨Bm, 0, none⟩)]] w fun e w' =>
      ∃ (A : Option Addr) (c : Nat), e = .returned (.slice A (groupsL L).length c) ∧ w'.ownsRow w.heap.size 43 1 (.slice A (groupsL L).length c) (groupsL L).length (A32 (groupsL L)) ∧ Below w.heap.size w w' := by
  have hcol := callsIn_wide.1 (collect_inU Fence.wide 3 trivial trivial rfl (by omega) _ _ trivial eKeysU _ _ _ (Nat.le_trans hown.size_le hnn) w w (Below.refl _ _) (keys_stopsU Fence.wide 1 trivial rfl (by omega) Bm b nn D w hBm hm hown))
  clear hown hm
  go_enter Tryz.func56, Tryz.ntmps56
  go_wp2_with fail
  refine hcol.mono ?_
  rintro e w1 ⟨v, ss, rfl, hS, hrow, hb⟩
  obtain ⟨hp, hus⟩ := met_groups hc hu hS
  have hl : ss.length = (nubA L).length := hp.length_eq
  have hgl : (groupsL L).length = ss.length := by unfold groupsL; rw [sortA_len, hl]
  have hgs : sortA ss = groupsL L := sortA_same hp
  obtain ⟨A, c, rfl, hnc, hA⟩ := own_slice hrow
  have HB := Lib.hid hb
  have HR : Hid (w1.ownsRow w.heap.size 43 1 (.slice A ss.length c) ss.length (A32 ss)) := Lib.hid hrow
  by_cases h0 : ss.length = 0
  · obtain rfl : ss = [] := List.eq_nil_of_length_eq_zero h0
    have hg0 : groupsL L = [] := List.eq_nil_of_length_eq_zero (by rw [hgl]; rfl)
    have HG0 := Lib.hid hg0
    clear hrow hS hb hcol hp hl hgl hgs hA hg0
    go_wp2_with (go_at_call 59; refine (sort0_any A c _).mono ?_; rintro e w2 ⟨rfl, hb2⟩)
    go_ret
    rw [HG0.out]
    exact ⟨A, c, rfl, own_next HR.out hb2, below_next HB.out hb2⟩
  · obtain ⟨g, rfl, hg1, hg2⟩ := hA (by omega)
    have HS := Lib.hid (sort_any w.heap.size g ss.length c ss w1 HR.out (by omega) (by omega))
    have HG := Lib.hid (And.intro hgl hgs)
    clear hrow hS hb hcol hp hl hgl hgs hA hg1 hg2
    go_wp2_with (go_at_call 59; refine HS.out.mono ?_; rintro e w2 ⟨rfl, hs2⟩)
    go_ret
    have h2 := hs2.own
    rw [HG.out.2, ← HG.out.1] at h2
    rw [← HG.out.1]
    exact ⟨_, c, rfl, h2, HB.out.trans (hs2.below HB.out.size)⟩
/-- the groups that are named, in their order -/
def grpL (x : Cfg) : List Int := x.ss.map (·.2.2) ++ x.ms.map (·.g)
theorem grown_trans {w w1 w2 : World} {b : Nat} (h1 : w.grownBy w1 (some b)) (h2 : w1.grownBy w2 (some b)) : w.grownBy w2 (some b) :=
  ⟨h2.os.trans h1.os, h2.tape.trans h1.tape, h2.output.trans h1.output, Nat.le_trans h1.size h2.size, fun k hk hne => (h2.block k (Nat.lt_of_lt_of_le hk h1.size) hne).trans (h1.block k hk hne)⟩
set_option maxRecDepth 100000 in
set_option maxHeartbeats 4000000 in
theorem tgrp_any (M : Cm) (x : Cfg) (w : World) (h : CW w M x) (hn : (nubA (grpL x)).length ≤ 12) (hsm : M.s.n + M.m.n ≤ 1000000) :
    Calls Tryz.prog 20 #[.agg #[.slice M.r.A M.r.n M.r.c, .slice M.l.A M.l.n M.l.c, .slice M.p.A M.p.n M.p.c, .slice M.o.A M.o.n M.o.c, .slice M.g.A M.g.n M.g.c, .slice M.s.A M.s.n M.s.c, .slice M.m.A M.m.n M.m.c]] w fun e w' => ∃ (A : Option Addr) (c : Nat), e = .returned (.slice A (groupsL (grpL x)).length c) ∧ w'.ownsRow w.heap.size 43 1 (.slice A (groupsL (grpL x)).length c) (groupsL (grpL x)).length (A32 (groupsL (grpL x))) ∧ Below w.heap.size w w' := by
  have H := Lib.hid h
  have hsn := Lib.hid h.s.len
  have hmn := Lib.hid h.m.len
  have hs6 : M.s.n ≤ 1000000 := h.sok.2
  have hm6 : M.m.n ≤ 1000000 := h.mok.2
  have HU : Hid ((∀ a ∈ grpL x, U32 a) ∧ (nubA (grpL x)).length ≤ 12) := Lib.hid ⟨by
    intro a ha
    unfold grpL at ha
    rw [List.mem_append, List.mem_map, List.mem_map] at ha
    rcases ha with ⟨y, hy, rfl⟩ | ⟨y, hy, rfl⟩
    · exact (h.ok.2.2.2.2.1 y hy).2
    · exact h.ok.2.2.2.2.2 y hy, hn⟩
  have hmm := @run_makeMap Tryz.prog
  clear h hn
  go_enter Tryz.func20, Tryz.ntmps20
  go_upto_region 2 with fail
  have hbk := (Blk.new w 37 #[.slice M.r.A M.r.n M.r.c, .slice M.l.A M.l.n M.l.c, .slice M.p.A M.p.n M.p.c, .slice M.o.A M.o.n M.o.c, .slice M.g.A M.g.n M.g.c, .slice M.s.A M.s.n M.s.c, .slice M.m.A M.m.n M.m.c]).alloc (.map #[] 0)
  have hown : ((w.alloc (.cells #[.slice M.r.A M.r.n M.r.c, .slice M.l.A M.l.n M.l.c, .slice M.p.A M.p.n M.p.c, .slice M.o.A M.o.n M.o.c, .slice M.g.A M.g.n M.g.c, .slice M.s.A M.s.n M.s.c, .slice M.m.A M.m.n M.m.c] 37)).alloc (.map #[] 0)).ownsMap Tryz.prog 43 (plainElem (H := Unit) Tryz.prog 3) (w.heap.size + 1) 0 (.map []) := by
    have := World.ownsMap_made (w.alloc (.cells #[.slice M.r.A M.r.n M.r.c, .slice M.l.A M.l.n M.l.c, .slice M.p.A M.p.n M.p.c, .slice M.o.A M.o.n M.o.c, .slice M.g.A M.g.n M.g.c, .slice M.s.A M.s.n M.s.c, .slice M.m.A M.m.n M.m.c] 37)) Tryz.prog 43 (plainElem (H := Unit) Tryz.prog 3)
    simpa using this
  have HB1 := Lib.hid (((Below.refl w.heap.size w).alloc (Nat.le_refl _) (.cells #[.slice M.r.A M.r.n M.r.c, .slice M.l.A M.l.n M.l.c, .slice M.p.A M.p.n M.p.c, .slice M.o.A M.o.n M.o.c, .slice M.g.A M.g.n M.g.c, .slice M.s.A M.s.n M.s.c, .slice M.m.A M.m.n M.m.c] 37)).alloc (by simp) (.map #[] 0))
  clear hmm
  generalize (w.alloc (.cells #[.slice M.r.A M.r.n M.r.c, .slice M.l.A M.l.n M.l.c, .slice M.p.A M.p.n M.p.c, .slice M.o.A M.o.n M.o.c, .slice M.g.A M.g.n M.g.c, .slice M.s.A M.s.n M.s.c, .slice M.m.A M.m.n M.m.c] 37)).alloc (.map #[] 0) = W1 at *
  have HO := Lib.hid hown
  have z5 : W1.cell? ⟨w.heap.size, 5, none⟩ = some (.slice M.s.A M.s.n M.s.c) := hbk.cell 5
  have y6 : W1.cell? ⟨w.heap.size, 6, none⟩ = some (.slice M.m.A M.m.n M.m.c) := hbk.cell 6
  have hmbc : w.heap.size ≠ w.heap.size + 1 := by omega
  have hwm : w.heap.size ≤ w.heap.size + 1 := by omega
  generalize w.heap.size + 1 = mb at *
  have bwr : ∀ {wr : World}, W1.grownBy wr (some mb) → Below w.heap.size w wr := fun hg => HB1.out.grown hg HB1.out.size (by intro j hj; cases hj; exact hwm)
  clear hbk hown
  go_wp2_with fail
  go_loopw [12] (fun iv wr => ∃ (k : Nat) (D : DataW Unit) (L : List Int), k ≤ M.s.n ∧ iv = .int .i64 k ∧ Hid (L = (x.ss.take k).map (·.2.2)) ∧ Hid (CntOK D L ∧ wr.ownsMap Tryz.prog 43 (plainElem (H := Unit) Tryz.prog 3) mb L.length D ∧ W1.grownBy wr (some mb))) (fun iv _ => M.s.n - (intOf iv).toNat)
  case atStart => exact ⟨0, .map [], [], Nat.zero_le _, rfl, Lib.hid rfl, Lib.hid ⟨cnt_nil, HO.out, ⟨rfl, rfl, rfl, Nat.le_refl _, fun _ _ _ => rfl⟩⟩⟩
  case round =>
    obtain ⟨k, D, L, hk, rfl, HL0, HI⟩ := hrel
    have HBw := Lib.hid (bwr HI.out.2.2)
    rcases Nat.lt_or_ge k M.s.n with hlt | hge
    · obtain ⟨bq, oq, ⟨l1, s1, g1⟩, hA, hb, hx, hc0', hc1', hc2'⟩ := ISource.cells (IR.next H.out.s HBw.out) hlt
      have hi0 : (k : Int) < (M.s.n : Int) := by omega
      have hu : U32 g1 := (H.out.ok.2.2.2.2.1 _ (List.mem_of_getElem? hx)).2
      have HT : Hid (L ++ [g1] = (x.ss.take (k + 1)).map (·.2.2)) := Lib.hid (by rw [HL0.out, List.take_add_one, hx]; simp)
      have hLn : L.length ≤ 2000000 := by rw [HL0.out, List.length_map, List.length_take]; omega
      have hcl : L.count g1 ≤ L.length := List.count_le_length
      have hz : (zeroValue 3).run Tryz.prog (wr.alloc (.cells #[.int .i64 l1, .int .u32 s1, .int .u32 g1] 94)) = .ok (.int .i64 0) (wr.alloc (.cells #[.int .i64 l1, .int .u32 s1, .int .u32 g1] 94)) := by kernel_rfl
      obtain ⟨c, hrun, hat, hwc⟩ := (HI.out.2.1.alloc (.cells #[.int .i64 l1, .int .u32 s1, .int .u32 g1] 94)).lookup_int keyedU Tryz.underlying70 Tryz.underlying3 hz (keyOf_int_mk Tryz.underlying43 (wf_a hu))
      rw [(HI.out.1.2 g1 hu).2] at hat
      simp only [DataW.lit.injEq, Lit.int.injEq, true_and] at hat
      subst hat
      obtain ⟨W8, hrun8, hm8, hg8⟩ := (HI.out.2.1.alloc (.cells #[.int .i64 l1, .int .u32 s1, .int .u32 g1] 94)).update (val := .int .i64 (((L.count g1 : Nat) : Int) + 1)) keyedU Tryz.underlying70 (by unfold maxLen; omega) (keyOf_int_mk Tryz.underlying43 (wf_a hu)) (plainElem_int Tryz.underlying3 (by simp [Lit.wf, IntKind.min, IntKind.max, IntKind.signed, IntKind.bits]; omega))
      have HI8 : Hid (CntOK (D.put (.int .u32 g1) (.lit (.int .i64 (((L.count g1 : Nat) : Int) + 1)))) (L ++ [g1]) ∧ W8.ownsMap Tryz.prog 43 (plainElem (H := Unit) Tryz.prog 3) mb (L ++ [g1]).length (D.put (.int .u32 g1) (.lit (.int .i64 (((L.count g1 : Nat) : Int) + 1)))) ∧ W1.grownBy W8 (some mb)) :=
        Lib.hid ⟨cnt_put HI.out.1 g1, by simpa using hm8, (grown_trans (grown_trans HI.out.2.2 (World.grownBy_alloc wr _ _)) hg8)⟩
      rw [hA]
      generalize hcc : ((L.count g1 : Nat) : Int) = cc at *
      have hc0 : 0 ≤ cc := by omega
      have hc1 : cc ≤ 2000000 := by omega
      clear z5 hx hu hm8 hg8 hz hcl hcc
      go_wp2
      go_roundw
      case rel => exact ⟨k + 1, _, L ++ [g1], hlt, by go_num, HT, HI8⟩
      case measure => simp [intOf]; omega
    · obtain rfl : k = M.s.n := by omega
      have hd : decide ((M.s.n : Int) < (M.s.n : Int)) = false := by simp
      have z6 := grown_cell HI.out.2.2 y6 hmbc
      go_wp2_with fail
      go_loopw [26] (fun iv wr => ∃ (k : Nat) (D : DataW Unit) (L : List Int), k ≤ M.m.n ∧ iv = .int .i64 k ∧ Hid (L = x.ss.map (·.2.2) ++ (x.ms.take k).map (·.g)) ∧ Hid (CntOK D L ∧ wr.ownsMap Tryz.prog 43 (plainElem (H := Unit) Tryz.prog 3) mb L.length D ∧ W1.grownBy wr (some mb))) (fun iv _ => M.m.n - (intOf iv).toNat)
      case atStart => exact ⟨0, D, L, Nat.zero_le _, rfl, Lib.hid (by rw [HL0.out, ← hsn.out, List.take_length]; simp), HI⟩
      case round =>
        obtain ⟨k, D, L, hk, rfl, HL0, HI⟩ := hrel
        have HBw := Lib.hid (bwr HI.out.2.2)
        rcases Nat.lt_or_ge k M.m.n with hlt | hge
        · obtain ⟨bq, oq, ⟨l1, g1, o1, A1, n1, c1, ys1⟩, hA, hb, hx, hc0', hc1', hc2', hc3'⟩ := IMember.cells (IR.next H.out.m HBw.out) hlt
          have hi0 : (k : Int) < (M.m.n : Int) := by omega
          have hu : U32 g1 := H.out.ok.2.2.2.2.2 _ (List.mem_of_getElem? hx)
          have HT : Hid (L ++ [g1] = x.ss.map (·.2.2) ++ (x.ms.take (k + 1)).map (·.g)) := Lib.hid (by rw [HL0.out, List.take_add_one, hx]; simp)
          have hLn : L.length ≤ 2000000 := by rw [HL0.out, List.length_append, List.length_map, List.length_map, List.length_take, hsn.out]; omega
          have hcl : L.count g1 ≤ L.length := List.count_le_length
          have hz : (zeroValue 3).run Tryz.prog (wr.alloc (.cells #[.int .i64 l1, .int .u32 g1, .bool o1, .slice A1 n1 c1] 76)) = .ok (.int .i64 0) (wr.alloc (.cells #[.int .i64 l1, .int .u32 g1, .bool o1, .slice A1 n1 c1] 76)) := by kernel_rfl
          obtain ⟨c, hrun, hat, hwc⟩ := (HI.out.2.1.alloc (.cells #[.int .i64 l1, .int .u32 g1, .bool o1, .slice A1 n1 c1] 76)).lookup_int keyedU Tryz.underlying70 Tryz.underlying3 hz (keyOf_int_mk Tryz.underlying43 (wf_a hu))
          rw [(HI.out.1.2 g1 hu).2] at hat
          simp only [DataW.lit.injEq, Lit.int.injEq, true_and] at hat
          subst hat
          obtain ⟨W8, hrun8, hm8, hg8⟩ := (HI.out.2.1.alloc (.cells #[.int .i64 l1, .int .u32 g1, .bool o1, .slice A1 n1 c1] 76)).update (val := .int .i64 (((L.count g1 : Nat) : Int) + 1)) keyedU Tryz.underlying70 (by unfold maxLen; omega) (keyOf_int_mk Tryz.underlying43 (wf_a hu)) (plainElem_int Tryz.underlying3 (by simp [Lit.wf, IntKind.min, IntKind.max, IntKind.signed, IntKind.bits]; omega))
          have HI8 : Hid (CntOK (D.put (.int .u32 g1) (.lit (.int .i64 (((L.count g1 : Nat) : Int) + 1)))) (L ++ [g1]) ∧ W8.ownsMap Tryz.prog 43 (plainElem (H := Unit) Tryz.prog 3) mb (L ++ [g1]).length (D.put (.int .u32 g1) (.lit (.int .i64 (((L.count g1 : Nat) : Int) + 1)))) ∧ W1.grownBy W8 (some mb)) :=
            Lib.hid ⟨cnt_put HI.out.1 g1, by simpa using hm8, (grown_trans (grown_trans HI.out.2.2 (World.grownBy_alloc wr _ _)) hg8)⟩
          rw [hA]
          generalize hcc : ((L.count g1 : Nat) : Int) = cc at *
          have hc0 : 0 ≤ cc := by omega
          have hc1 : cc ≤ 2000000 := by omega
          clear z6 hx hu hm8 hg8 hz hcl hcc
          go_wp2
          go_roundw
          case rel => exact ⟨k + 1, _, L ++ [g1], hlt, by go_num, HT, HI8⟩
          case measure => simp [intOf]; omega
        · obtain rfl : k = M.m.n := by omega
          have hd : decide ((M.m.n : Int) < (M.m.n : Int)) = false := by simp
          have HLL : Hid (L = grpL x) := Lib.hid (by rw [HL0.out, ← hmn.out, List.take_length]; rfl)
          have HSR := Lib.hid fun W Bm hB hc hW => sorted_any Bm mb L.length D L W hB hc hW HI.out.1 (by rw [HLL.out]; exact HU.out.1) (by rw [HLL.out]; exact HU.out.2) (by rw [HLL.out]; unfold grpL; rw [List.length_append, List.length_map, List.length_map, hsn.out, hmn.out]; omega)
          have HRES : Hid (groupsL L = groupsL (grpL x)) := Lib.hid (by rw [HLL.out])
          go_wp2_with (first
            | (go_at_call 57; refine (callsIn_wide.1 (keys_inU Fence.wide 1 trivial rfl (some mb) _)).mono ?_; rintro e w1 ⟨rfl, hw1⟩)
            | (go_at_call 56; subst hw1; refine (HSR.out _ wr.heap.size (by simp) (by go_simp) (HI.out.2.1.alloc _)).mono ?_; rintro e w2 ⟨A, c, rfl, hr2, hb2⟩))
          go_ret
          rw [← HRES.out]
          exact ⟨A, c, rfl, ownk_up hr2 (by have := HBw.out.size; simp; omega), (HBw.out.alloc HBw.out.size _).trans (hb2.mono (by have := HBw.out.size; simp; omega))⟩
end Go.Proofs.YtjbinmjjnneilaaGreatDoor

