/- slices.SortedFunc over an iterator of prefixes; a trie's All. -/
import Derived.Test.YtnnoigdedjbbmaaKq
import Derived.Test.YtnnoigdedjbbmaaCo
import Derived.Test.YtnnoigdedjbbmaaSort
import Derived.Test.YtnnoigdedjbbmaaTf
import Derived.Test.YtnnoigdedjbbmaaIt
import Derived.Shelf.SlSortCmp.NoneTotal
namespace Go.Proofs.Ytnnoigdedjbbmaa
open Go.RowKit Go.Maps Go.Sort Go.Shelf
def encPf (p : Tr.Pf) : List Value := [.int .u32 p.1, .int .i64 p.2]
theorem PF_flat (l : List Tr.Pf) : PF l = l.flatMap encPf := by
  unfold PF encPf; rw [List.flatMap_def]
def ltP (p q : Tr.Pf) : Prop := p.1 < q.1 ∨ (p.1 = q.1 ∧ p.2 < q.2)
theorem ord_lt (p q : Tr.Pf) : ltOf ordP p q = true ↔ ltP p q := by
  unfold ltOf ordP orI cmpI ltP
  obtain ⟨a, b⟩ := p
  obtain ⟨c, d⟩ := q
  simp only
  by_cases h1 : a < c
  · simp [h1]
  · by_cases h2 : c < a
    · have h3 : ¬ a = c := by omega
      simp [h1, h2, h3]
    · have h3 : a = c := by omega
      subst h3
      by_cases h4 : b < d
      · simp [h4]
      · by_cases h5 : d < b <;> simp [h4, h5]
theorem ord_ge (p q : Tr.Pf) : ltOf ordP p q = false ↔ ¬ ltP p q := by rw [← ord_lt, Bool.not_eq_true]
theorem swoP : SWO (ltOf ordP) where
  irrefl x := by rw [ord_ge]; simp [ltP]
  trans x y z h1 h2 := by rw [ord_lt] at *; unfold ltP at *; omega
  ntrans x y z h1 h2 := by rw [ord_ge] at *; unfold ltP at *; omega
theorem totalP (x y : Tr.Pf) (h1 : ltOf ordP x y = false) (h2 : ltOf ordP y x = false) : x = y := by
  rw [ord_ge] at h1 h2
  unfold ltP at h1 h2
  exact Prod.ext (by omega) (by omega)
/-- the sorted one -/
def sortP (ss : List Tr.Pf) : List Tr.Pf := ss.mergeSort fun x y => !ltOf ordP y x
theorem sortP_perm (ss : List Tr.Pf) : (sortP ss).Perm ss := List.mergeSort_perm _ _
theorem sortP_rises {ss : List Tr.Pf} (hn : ss.Nodup) : (sortP ss).Pairwise ltP := by
  have tr : ∀ a b c : Tr.Pf, (!ltOf ordP b a) = true → (!ltOf ordP c b) = true → (!ltOf ordP c a) = true := fun a b c h1 h2 => by
    rw [Bool.not_eq_true', ord_ge] at *; unfold ltP at *; omega
  have to : ∀ a b : Tr.Pf, ((!ltOf ordP b a) || (!ltOf ordP a b)) = true := fun a b => by
    rw [Bool.or_eq_true, Bool.not_eq_true', Bool.not_eq_true', ord_ge, ord_ge]; unfold ltP; omega
  have h := List.pairwise_mergeSort (le := fun x y => !ltOf ordP y x) tr to ss
  have hn' : (sortP ss).Nodup := (sortP_perm ss).nodup_iff.2 hn
  refine (h.and hn').imp fun {a b} h => ?_
  have h1 := h.1
  have h2 := h.2
  rw [Bool.not_eq_true', ord_ge] at h1
  have h3 : ¬ (a.1 = b.1 ∧ a.2 = b.2) := fun e => h2 (Prod.ext e.1 e.2)
  unfold ltP at *
  omega
theorem cmpLays (blk off size : Nat) (w : World) : CmpLays Try.prog 25 #[] encPf 2 ordP blk off size w :=
  fun _ _ _ _ x y => (order_any x.1 x.2 y.1 y.2 _).mono fun _ _ ⟨he, hg⟩ => ⟨he, hg⟩
theorem grown_sorted {w : World} {g n : Nat} {os : Array Obj} (d : Array Tr.Pf) : w.grownBy (sortWorldK encPf 2 w g 0 n d os) (some g) := by
  refine ⟨rfl, rfl, rfl, by simp [sortWorldK, putRowK, putRow, mapBlock, Sort.ahead, Sort.grow], fun k hk hne => ?_⟩
  unfold sortWorldK
  rw [heap_grow_old _ _ (by simpa [putRowK, putRow, mapBlock, Sort.ahead] using hk)]
  have : g ≠ k := fun e => hne (by rw [e])
  simp [putRowK, putRow, mapBlock, Sort.ahead, Array.getElem?_modify, this]
theorem holds_own {w : World} {base g cap : Nat} {ss : List Tr.Pf} (h : w.ownsRow base 27 2 (.slice (some ⟨g, 0, none⟩) ss.length cap) ss.length (PF ss)) : HoldsK encPf 2 w g 0 ss.toArray ∧ g < w.heap.size := by
  rcases h.2 with ⟨hv, _⟩ | ⟨g', cap', cur, hv, _, hh, hnc, _, hsz, ht⟩
  · cases hv
  · have hg : g = g' := by cases hv; rfl
    subst hg
    refine ⟨fun j hj => ?_, (Array.getElem?_eq_some_iff.1 hh).1⟩
    have hj' : j < ss.length * 2 := by simpa using hj
    refine ⟨?_, by simp [World.frozen?, hh]⟩
    rw [get_flatK _ _ _ _ (by simpa using hj'), Nat.zero_add, cell_of_row w g j cur _ (0, 0) hh]
    have h1 : (cur.toList.take (ss.length * 2))[j]? = (PF ss)[j]? := by rw [ht]
    rw [List.getElem?_take_of_lt hj'] at h1
    rw [← Array.getElem?_toList, h1]
    have hat : ∀ (l : List Tr.Pf) (j : Nat), j < l.length * 2 → (PF l)[j]? = some (encPf l.toArray[j / 2]!)[j % 2]! := by
      intro l
      induction l with
      | nil => intro j hj; simp at hj
      | cons x r ih =>
        intro j hj
        have e : PF (x :: r) = [Value.int .u32 x.1, .int .i64 x.2] ++ PF r := rfl
        rw [e]
        match j, hj with
        | 0, _ => simp [encPf]
        | 1, _ => simp [encPf]
        | j + 2, hj =>
          rw [List.getElem?_append_right (by simp)]
          simp only [List.length_cons, List.length_nil, Nat.reduceAdd, Nat.add_sub_cancel]
          rw [ih j (by simp at hj; omega), show (j + 2) / 2 = j / 2 + 1 by omega, show (j + 2) % 2 = j % 2 by omega]
          simp
    exact hat ss j hj'
theorem reads_holds {w : World} {g : Nat} {ks : List Tr.Pf} (h : HoldsK encPf 2 w g 0 ks.toArray) (hg : g < w.heap.size) : RI encPf 2 w (some ⟨g, 0, none⟩) ks.length ks := by
  refine ⟨rfl, fun _ => ⟨g, 0, rfl, hg, fun i x hx j v hv => ?_⟩⟩
  have hi := (List.getElem?_eq_some_iff.1 hx).1
  have hj : j < 2 := by have := (List.getElem?_eq_some_iff.1 hv).1; simpa [encPf] using this
  have hc := (HoldsK.cell h (i := i) (c := j) (by simpa using hi) hj).1
  rw [hc]
  have e1 : ks.toArray[i]! = x := by
    have := (List.getElem?_eq_some_iff.1 hx).2
    simp [hi, this]
  rw [e1]
  obtain ⟨h1, h2⟩ := List.getElem?_eq_some_iff.1 hv
  rw [getElem!_pos (encPf x) j h1, h2]
theorem sortP_len (ss : List Tr.Pf) : (sortP ss).length = ss.length := (sortP_perm ss).length_eq
theorem eOrder : ∀ args w, (callFunc 25 args).run Try.prog w = .ok (.enter 25 args) w := enters_of Try.func25 (by kernel_rfl) rfl
theorem eKeys : ∀ args w, (callFunc 29 args).run Try.prog w = .ok (.enter 29 args) w := enters_of Try.func29 (by kernel_rfl) rfl
theorem sort_some (g cap base : Nat) (ss : List Tr.Pf) (w : World) (h : w.ownsRow base 27 2 (.slice (some ⟨g, 0, none⟩) ss.length cap) ss.length (PF ss)) (hn : ss.length ≤ 1000000) :
    Calls Try.prog 28 #[.slice (some ⟨g, 0, none⟩) ss.length cap, .func (.func 25) #[] #[]] w fun e w' => e = .returned (.tuple #[]) ∧ RI encPf 2 w' (some ⟨g, 0, none⟩) ss.length (sortP ss) ∧ w.grownBy w' (some g) := by
  obtain ⟨hH, hg⟩ := holds_own h
  have hcon := AnyQ.slices_SortFunc_total Try.sortP 2 Try.isAgg27 Try.sizeOf27 encPf (fun _ => rfl) (fun x v hv => by simp [encPf] at hv; rcases hv with rfl | rfl <;> rfl) ordP swoP 25 #[] g 0 cap ss.toArray w eOrder (cmpLays g 0 ss.toArray.size w) hH hg (by simp; omega) totalP
  simp only [List.size_toArray] at hcon
  refine hcon.mono ?_
  rintro e w' ⟨rfl, n, os, rfl⟩
  refine ⟨rfl, ?_, grown_sorted _⟩
  have hk : HoldsK encPf 2 (sortWorldK encPf 2 w g 0 n (sortP ss).toArray os) g 0 (sortP ss).toArray := by
    unfold sortWorldK
    refine holdsK_grow _ _ _ _ _ _ _ (by simpa [putRowK, putRow, mapBlock, Sort.ahead] using hg) ?_
    exact holdsK_putRowK _ _ _ _ _ ss.toArray _ (holdsK_ahead _ _ _ _ _ _ _ hH) (by simp [sortP_len])
  have hr := reads_holds hk (by simp [sortWorldK, putRowK, putRow, mapBlock, Sort.ahead, Sort.grow]; omega)
  rw [sortP_len] at hr
  exact hr
set_option maxHeartbeats 1000000 in
theorem sortedFunc_any (lb : Array Value) (S Sp : List Tr.Pf → Prop) (N : Nat) (hN : N ≤ 1000000) (hS1 : ∀ ss, S ss → ss.length ≤ 1000000) (w w0 : World) (hb0 : Below w0.heap.size w0 w)
    (hseq : SeqStopsK Fence.wide 1 Try.prog 29 lb (fun x : Tr.Pf => #[pv x]) KeepsWalks S Sp N w0) :
    Calls Try.prog 23 #[.func (.func 29) #[] lb, .func (.func 25) #[] #[]] w fun e w' =>
      ∃ (A : Option Addr) (c : Nat) (ss : List Tr.Pf), e = .returned (.slice A ss.length c) ∧ S ss ∧ RI encPf 2 w' A ss.length (sortP ss) ∧ Below w.heap.size w w' := by
  have hcol := callsIn_wide.1 (collect_in Fence.wide 3 trivial trivial rfl (by omega) _ lb trivial eKeys S Sp N hN w w0 hb0 hseq)
  have HS := Lib.hid hS1
  clear hS1 hseq
  go_enter Try.func23, Try.ntmps23
  go_wp2_with fail
  refine hcol.mono ?_
  rintro e w1 ⟨v, ss, rfl, hS, hrow, hb⟩
  have HSS := Lib.hid hS
  have HB := Lib.hid hb
  have hlen := HS.out ss hS
  rcases hrow.2 with ⟨rfl, hl⟩ | ⟨g, cap, cur, rfl, hbase, _⟩
  · obtain rfl : ss = [] := List.eq_nil_of_length_eq_zero hl
    clear hrow hl hb hS hlen
    go_wp2_with fail
    refine (AnyF.slices_SortFunc_none Try.sortP none 0 (.func (.func 25) #[] #[]) w1).mono ?_
    rintro e w2 ⟨rfl, rfl⟩
    go_wp2
    go_ret
    exact ⟨none, 0, [], rfl, HSS.out, (by rw [show sortP [] = [] by simp [sortP]]; exact RI.none_ _ _ _ _), HB.out⟩
  · have HR := Lib.hid hrow
    clear hrow hb hS
    go_wp2_with fail
    refine (sort_some g cap _ ss w1 HR.out hlen).mono ?_
    rintro e w2 ⟨rfl, hri, hgr⟩
    have HRI := Lib.hid hri
    have hB2 : Below w.heap.size w w2 := HB.out.grown hgr HB.out.size (fun k e => by cases e; exact hbase)
    clear hri hgr
    go_wp2
    go_ret
    exact ⟨_, cap, ss, rfl, HSS.out, HRI.out, hB2⟩
theorem MI.keys {w : World} {F : Nat → Prop} {b : Nat} {L : Tr.Row} {es : Array MapEntry} {clock : Nat} (h : MI w F b L es clock) : es.toList.map (·.key) = (L.map (·.1)).map pv := by
  apply List.ext_getElem?
  intro j
  rw [List.map_map, List.getElem?_map, List.getElem?_map]
  cases hl : L[j]? with
  | none =>
    have : es.toList[j]? = none := by
      rw [List.getElem?_eq_none_iff] at hl ⊢
      rw [← h.size] at hl
      simpa using hl
    rw [this]; rfl
  | some x =>
    obtain ⟨e, he⟩ := h.back hl
    rw [he]
    simp [(h.each j e x he hl).1]
/-- a row's prefixes, in order -/
def Tr.Sorts (L : Tr.Row) (ks : List Tr.Pf) : Prop := ks.Perm (L.map (·.1)) ∧ ks.Pairwise ltP
theorem Tr.Sorts.len {L : Tr.Row} {ks : List Tr.Pf} (h : Tr.Sorts L ks) : ks.length = L.length := by rw [h.1.length_eq]; simp
def AllPost (w : World) (L : Tr.Row) (e : Ending) (w' : World) : Prop :=
  ∃ (A : Option Addr) (c : Nat) (ks : List Tr.Pf), e = .returned (.slice A L.length c) ∧ RI encPf 2 w' A L.length ks ∧ Tr.Sorts L ks ∧ Below w.heap.size w w'
set_option maxHeartbeats 1000000 in
theorem all_any (w : World) (F : Nat → Prop) (N : Nat) (L : Tr.Row) (h : TR w F N L) (hL : L.length ≤ 1000000) :
    Calls Try.prog 15 #[.pointer (some ⟨N, 0, none⟩)] w (AllPost w L) := by
  obtain ⟨h1, h2, m, h3, h4⟩ := h
  have hc := h3.cell 0
  simp at hc
  have hlt := h2 N h1
  rcases h4 with ⟨rfl, rfl⟩ | ⟨b, rfl, hbN, es, clock, hI⟩
  · have kc := callsIn_wide.1 (keys_in Fence.wide 1 trivial rfl none w)
    have hm : (w.alloc (.cells #[.map none] 29)).cell? ⟨w.heap.size, 0, none⟩ = some (.map none) := by go_simp
    have hB := (Below.refl w.heap.size w).alloc (Nat.le_refl _) (.cells #[.map none] 29)
    have hs := sortedFunc_any #[.pointer (some ⟨w.heap.size, 0, none⟩)] _ _ 0 (by omega) (fun ss h => by rw [h]; simp) _ _ (Below.refl _ _) (keys_stops_nil Fence.wide 1 trivial rfl w.heap.size (w.alloc (.cells #[.map none] 29)) (by simp) hm)
    have HB := Lib.hid hB
    clear h2 h3 hm hB hL
    go_enter Try.func15, Try.ntmps15
    go_wp2_with fail
    refine kc.mono ?_
    rintro e w1 ⟨rfl, rfl⟩
    go_wp2_with fail
    refine hs.mono ?_
    rintro e w2 ⟨A, c, ss, rfl, rfl, hri, hb⟩
    have HRI := Lib.hid hri
    have hB2 := HB.out.trans (hb.mono HB.out.size)
    clear hri hb
    go_wp2
    go_ret
    exact ⟨A, c, sortP [], rfl, HRI.out, ⟨by rw [show sortP [] = [] by simp [sortP]]; exact List.Perm.nil, by rw [show sortP [] = [] by simp [sortP]]; exact List.Pairwise.nil⟩, hB2⟩
  · have kc := callsIn_wide.1 (keys_in Fence.wide 1 trivial rfl (some b) w)
    have hm : (w.alloc (.cells #[.map (some b)] 29)).cell? ⟨w.heap.size, 0, none⟩ = some (.map (some b)) := by go_simp
    have hB := (Below.refl w.heap.size w).alloc (Nat.le_refl _) (.cells #[.map (some b)] 29)
    have hown : (w.alloc (.cells #[.map (some b)] 29)).ownsMap Try.prog 27 R0 b es.size (.map ((es.toList.map (WideElems.rg Try.prog 27 R0)).foldr DataW.insert [])) :=
      ⟨es, clock, (hB.block b (h2 b hI.own)).trans hI.block, hI.fit, Nat.le_refl _, rfl⟩
    have hsz : Maps.size (.map ((es.toList.map (WideElems.rg Try.prog 27 R0)).foldr DataW.insert []) : DataW Unit) = L.length := by
      rw [size_eq, (WideShapes.sorted_perm _).length_eq]
      simpa using hI.size
    have hall : ∀ ss, AllMet (.map ((es.toList.map (WideElems.rg Try.prog 27 R0)).foldr DataW.insert [])) ss → ss.Perm (L.map (·.1)) := fun ss ⟨left, hM, hl⟩ =>
      hM.all keyedP pv_inj' hI.fit rfl hl hI.keys
    have hs := sortedFunc_any #[.pointer (some ⟨w.heap.size, 0, none⟩)] _ _ _ (by rw [hsz]; exact hL) (fun ss h => by rw [(hall ss h).length_eq]; simpa using hL) _ _ (Below.refl _ _) (keys_stops Fence.wide 1 trivial rfl (by omega) w.heap.size b es.size _ (w.alloc (.cells #[.map (some b)] 29)) (by simp) hm hown)
    have HB := Lib.hid hB
    have HP := Lib.hid hall
    have HA := Lib.hid hI.apartL
    clear h2 h3 hm hB hL hall hown hsz hI
    go_enter Try.func15, Try.ntmps15
    go_wp2_with fail
    refine kc.mono ?_
    rintro e w1 ⟨rfl, rfl⟩
    go_wp2_with fail
    refine hs.mono ?_
    rintro e w2 ⟨A, c, ss, rfl, hS, hri, hb⟩
    have hp := HP.out ss hS
    have hl : ss.length = L.length := by rw [hp.length_eq]; simp
    rw [hl] at hri ⊢
    have HRI := Lib.hid hri
    have hB2 := HB.out.trans (hb.mono HB.out.size)
    have hso : Tr.Sorts L (sortP ss) := ⟨(sortP_perm ss).trans hp, sortP_rises (hp.nodup_iff.2 HA.out)⟩
    clear hri hb hS hp hl
    go_wp2
    go_ret
    exact ⟨A, c, sortP ss, rfl, HRI.out, hso, hB2⟩
end Go.Proofs.Ytnnoigdedjbbmaa

