/- AgeOrders: the law of the order in which things are told, walked over the seat's program. -/
import Derived.Test.YtnnppoamdllebaaAgd
import Derived.Test.YtnnppoamdllebaaQb
import Derived.Test.YtnnppoamdllebaaAddr
namespace Go.Proofs.Ytnnppoamdllebaa
open Go.RowKit Sm Ag
def mK : Ms := ⟨1, 0, 0, 0, 0, 0, 0, false, []⟩
theorem putP_len (M : List En) (y : En) : (putP M y).length ≤ M.length + 1 := by
  unfold putP
  split
  · rw [List.length_map]; omega
  · simp
/-- those of the first i, from place k on, round -/
def X (xs : List Dd) (k n i : Nat) (z : Th) : Prop := ∃ j, j < i ∧ ∃ d, xs[(j + k) % n]? = some d ∧ d.t = z
def PX (xs : List Dd) (k n i : Nat) (M : List En) : Prop := Just mK (X xs k n i) M ∧ M.length ≤ i
theorem PX.nil (xs : List Dd) (k n : Nat) : PX xs k n 0 [] := ⟨(Just.nil mK).iff fun z => ⟨fun h => h.elim, fun ⟨j, h, _⟩ => by omega⟩, Nat.le_refl _⟩
theorem PX.step {xs : List Dd} {k n i : Nat} {M : List En} (h : PX xs k n i M) {d : Dd} (hd : xs[(i + k) % n]? = some d) : PX xs k n (i + 1) (putP M ⟨d.t, 0, mK⟩) := by
  refine ⟨(h.1.put d.t).iff fun z => ⟨?_, ?_⟩, by have := putP_len M ⟨d.t, 0, mK⟩; have := h.2; omega⟩
  · rintro (⟨j, h1, h2⟩ | rfl)
    · exact ⟨j, by omega, h2⟩
    · exact ⟨i, by omega, d, hd, rfl⟩
  · rintro ⟨j, h1, d', h2, h3⟩
    by_cases hj : j = i
    · subst hj
      rw [hd] at h2
      cases h2
      exact .inr h3.symm
    · exact .inl ⟨j, by omega, d', h2, h3⟩
theorem X_round {xs : List Dd} {k n : Nat} (hn : 0 < n) (z : Th) : X xs k n n z ↔ X xs 0 n n z := by
  constructor
  · rintro ⟨j, h1, d, h2, h3⟩
    exact ⟨(j + k) % n, Nat.mod_lt _ hn, d, by rw [Nat.add_zero, Nat.mod_mod]; exact h2, h3⟩
  · rintro ⟨j, h1, d, h2, h3⟩
    rw [Nat.add_zero, Nat.mod_eq_of_lt h1] at h2
    refine ⟨(j + (n - k % n)) % n, Nat.mod_lt _ hn, d, ?_, h3⟩
    have hk := Nat.mod_lt k hn
    have e : ((j + (n - k % n)) % n + k) % n = j := by
      rw [Nat.mod_add_mod]
      have e2 : j + (n - k % n) + k = j + n + n * (k / n) := by
        have := Nat.div_add_mod k n
        omega
      rw [e2, Nat.add_mul_mod_self_left, Nat.add_mod_right, Nat.mod_eq_of_lt h1]
    rw [e]
    exact h2
/-- what is told of a kind is told by who was heard -/
theorem told (xs : List Dd) (n : Nat) (κ : Int) : ∃ L0 : List En, ∀ M, PX xs 0 n n M → ∀ L, AllP M κ L → L = L0 := by
  by_cases h : ∃ M L, PX xs 0 n n M ∧ AllP M κ L
  · obtain ⟨M, L, h1, h2⟩ := h
    refine ⟨L, fun M' h1' L' h2' => rise_unique h2'.1 h2.1 fun e => ?_⟩
    rw [h2'.2, h2.2, h1'.1.2, h1.1.2]
  · exact ⟨[], fun M h1 L h2 => absurd ⟨M, L, h1, h2⟩ h⟩
theorem sized (xs : List Dd) (n : Nat) : ∃ l : Nat, ∀ M, PX xs 0 n n M → M.length = l := by
  by_cases h : ∃ M, PX xs 0 n n M
  · obtain ⟨M, h1⟩ := h
    refine ⟨M.length, fun M' h1' => List.Perm.length_eq ((List.perm_ext_iff_of_nodup h1'.1.nodup h1.1.nodup).2 fun e => ?_)⟩
    rw [h1'.1.2, h1.1.2]
  · exact ⟨0, fun M h1 => absurd ⟨M, h1⟩ h⟩
/-- a kind that is there: not none, and no more than all -/
theorem told_len {xs : List Dd} {n l i : Nat} {M : List En} {L0 : List En} {d : Dd} (hi : i < n) (hd : xs[i]? = some d) (h : PX xs 0 n n M) (hl : M.length = l) (ha : AllP M d.t.1 L0) : 0 < L0.length ∧ L0.length ≤ l := by
  constructor
  · have hm : (⟨d.t, 0, mK⟩ : En) ∈ L0 := (ha.2 _).2 ⟨(h.1.2 _).2 ⟨⟨i, hi, d, by rw [Nat.add_zero, Nat.mod_eq_of_lt hi]; exact hd, rfl⟩, rfl⟩, rfl⟩
    exact List.length_pos_of_mem hm
  · rw [← hl]
    have hn : L0.Nodup := ha.1.imp fun {a b} hab e => by rw [e] at hab; exact ltT_irrefl _ hab
    have hf : (M.filter fun e => decide (e.t.1 = d.t.1)).Nodup := h.1.nodup.sublist List.filter_sublist
    have hp : L0.Perm (M.filter fun e => decide (e.t.1 = d.t.1)) := (List.perm_ext_iff_of_nodup hn hf).2 fun e => by
      rw [ha.2, List.mem_filter]
      simp
    rw [hp.length_eq]
    exact List.length_filter_le _ _
theorem max_cast (v m : Nat) : max (v : Int) (m : Int) = ((max v m : Nat) : Int) := by omega
theorem pred_of {j : Nat} (h : 0 < j) : ∃ jp : Nat, (j : Int) - 1 = (jp : Int) ∧ jp + 1 = j := ⟨j - 1, by omega, by omega⟩
theorem less_self (x : Th) : decide (ordT x x < 0) = false := by rw [decide_eq_false_iff_not, ord_ltT]; exact ltT_irrefl x
set_option maxRecDepth 100000 in
set_option maxHeartbeats 16000000 in
theorem law_orders (A : Option Addr) (n c : Nat) (xs : List Dd) (a1 : Int) (w : World) (h : RI CDd 15 w A n xs) (hw : ∀ x ∈ xs, wfDd w x) :
    Calls Try.prog 6 #[.slice A n c, .int .i64 a1] w fun e w' => e = .returned (.bool true) ∧ Below w.heap.size w w' := by
  have HF := Lib.hid (first15_any w)
  have HR := Lib.hid h
  have HW := Lib.hid hw
  clear h hw
  go_enter Try.func6, Try.ntmps6
  go_wp2_with fail
  refine HF.out.mono ?_
  rintro e w1 ⟨rfl, hb1⟩
  have HB1 := Lib.hid hb1
  clear hb1 HF
  rcases Nat.lt_or_ge 20 n with hn | hn
  · have hd : decide (20 < n) = true := by simpa using hn
    have hd' : decide ((20 : Int) < (n : Int)) = true := by simp; omega
    go_wp2
    go_ret
    exact ⟨rfl, HB1.out⟩
  have hd0 : decide (20 < n) = false := by simpa using hn
  have hd0' : decide ((20 : Int) < (n : Int)) = false := by simp; omega
  obtain ⟨k, hk, hkn⟩ : ∃ k : Nat, a1 % ((n : Int) + 1) = (k : Int) ∧ k ≤ n := ⟨(a1 % ((n : Int) + 1)).toNat, by have := Int.emod_nonneg a1 (show ((n : Int) + 1) ≠ 0 by omega); omega, by have := Int.emod_lt_of_pos a1 (show 0 < ((n : Int) + 1) by omega); omega⟩
  have HN := Lib.hid (fun W => number_any a1 ((n : Int) + 1) W (by omega) (by omega))
  rw [hk] at HN
  have hTT : TT w w1.heap.size (w1.heap.size + 1) (PX xs 0 n 0) (PX xs k n 0) ((w1.alloc (.cells #[.map none] 33)).alloc (.cells #[.map none] 33)) := by
    have h2 := TP.new (w1.alloc (.cells #[.map none] 33))
    rw [sz_alloc] at h2
    have hs := HB1.out.size
    exact ⟨none, [], none, [], (TP.new w1).next ((Below.refl _ _).alloc (Nat.le_refl _) _), PX.nil _ _ _, h2, PX.nil _ _ _, ⟨hs, by simp⟩, ⟨by omega, by simp⟩, by omega, by simp, (HB1.out.alloc hs _).alloc (by simp; omega) _⟩
  have HTT := Lib.hid hTT
  clear hTT hk
  go_wp2_with fail
  refine (HN.out _).mono ?_
  rintro e w' ⟨rfl, rfl⟩
  generalize (w1.alloc (.cells #[.map none] 33)).alloc (.cells #[.map none] 33) = W2 at *
  have hNN : w1.heap.size ≠ w1.heap.size + 1 := by omega
  generalize w1.heap.size + 1 = N2 at *
  generalize w1.heap.size = N1 at *
  clear HN HB1 hNN
  go_wp2_with fail
  go_loopw [10] (fun iv wr => ∃ i : Nat, i ≤ n ∧ iv = .int .i64 i ∧ Hid (TT w N1 N2 (PX xs 0 n i) (PX xs k n i) wr)) (fun iv _ => n - (intOf iv).toNat)
  case atStart => exact ⟨0, Nat.zero_le _, rfl, HTT⟩
  case round =>
    clear HTT
    obtain ⟨i, hi, rfl, HI⟩ := hrel
    rcases Nat.lt_or_ge i n with hlt | hge
    · have hbw := HI.out.below
      obtain ⟨b, o, d, rfl, hbl, hx, hcell⟩ := (HR.out.next hbw).at_ hlt
      have hxs : xs.length = n := HR.out.len
      have hwd := HW.out d (List.mem_of_getElem? hx)
      have HX := Lib.hid hx
      have hi0 : (i : Int) < (n : Int) := by omega
      have qd1 : wr.cell? ⟨b, o + i * 15 + 1, none⟩ = some (.int .i64 d.t.1) := hcell 1 _ rfl
      have qd2 : wr.cell? ⟨b, o + i * 15 + 2, none⟩ = some (.int .i64 d.t.2.1) := hcell 2 _ rfl
      have qd3 : wr.cell? ⟨b, o + i * 15 + 3, none⟩ = some (.int .u32 d.t.2.2.1) := hcell 3 _ rfl
      have qd4 : wr.cell? ⟨b, o + i * 15 + 4, none⟩ = some (.int .u32 d.t.2.2.2.1) := hcell 4 _ rfl
      have qd5 : wr.cell? ⟨b, o + i * 15 + 5, none⟩ = some (.int .u32 d.t.2.2.2.2) := hcell 5 _ rfl
      have qd14 : wr.cell? ⟨b, o + i * 15 + 14, none⟩ = some (.slice d.A d.n d.c) := hcell 14 _ rfl
      clear hcell
      rcases Nat.lt_or_ge 10 d.n with hdn | hdn
      · have hd1 : decide (10 < d.n) = true := by simpa using hdn
        have hd1' : decide ((10 : Int) < (d.n : Int)) = true := by simp; omega
        go_wp2
        go_ret
        exact ⟨rfl, HI.out.below⟩
      have hd1 : decide (10 < d.n) = false := by simpa using hdn
      have hd1' : decide ((10 : Int) < (d.n : Int)) = false := by simp; omega
      obtain ⟨q, hq, hqn⟩ : ∃ q : Nat, q = (i + k) % n ∧ q < n := ⟨_, rfl, Nat.mod_lt _ (by omega)⟩
      have hq2 : ((i : Int) + (k : Int)) % (n : Int) = (q : Int) := by rw [hq]; simp
      have hnz : ((n : Int) == 0) = false := by simp; omega
      obtain ⟨d2, hx2⟩ : ∃ d2, xs[q]? = some d2 := ⟨xs[q]'(by omega), List.getElem?_eq_getElem _⟩
      have HX2 : Hid (xs[(i + k) % n]? = some d2) := Lib.hid (by rw [← hq]; exact hx2)
      have HXQ := Lib.hid hx2
      have hwd2 := HW.out d2 (List.mem_of_getElem? hx2)
      have hC := hear_tt HI.out d.t mK none 0 0 hwd.1 (fun M hM => by have := hM.2; omega) (AR.none_ _ _) (by omega) (P' := PX xs 0 n (i + 1)) (fun M hM => hM.step (by rw [Nat.add_zero, Nat.mod_eq_of_lt hlt]; exact HX.out))
      unfold tv mv mK at hC
      have HC := Lib.hid hC
      have HW2 := Lib.hid hwd2.1
      clear hC hwd hwd2 hx hx2 hq hxs
      go_wp2_with fail
      refine HC.out.mono ?_
      rintro e w3 ⟨rfl, ht⟩
      have HT := Lib.hid ht
      have hC := hear_tt HT.out.swap d2.t mK none 0 0 HW2.out (fun M hM => by have := hM.2; omega) (AR.none_ _ _) (by omega) (P' := PX xs k n (i + 1)) (fun M hM => hM.step HX2.out)
      unfold tv mv mK at hC
      have HC2 := Lib.hid hC
      obtain ⟨b', o', d3, hA', hbl', hx', hcell⟩ := (HR.out.next HT.out.below).at_ hqn
      cases hA'
      obtain rfl : d2 = d3 := Option.some.inj (HXQ.out.symm.trans hx')
      clear ht hC HC qd1 qd2 qd3 qd4 qd5 qd14 hbl hx' HX HX2 HXQ
      have pd1 : w3.cell? ⟨b, o + q * 15 + 1, none⟩ = some (.int .i64 d2.t.1) := hcell 1 _ rfl
      have pd2 : w3.cell? ⟨b, o + q * 15 + 2, none⟩ = some (.int .i64 d2.t.2.1) := hcell 2 _ rfl
      have pd3 : w3.cell? ⟨b, o + q * 15 + 3, none⟩ = some (.int .u32 d2.t.2.2.1) := hcell 3 _ rfl
      have pd4 : w3.cell? ⟨b, o + q * 15 + 4, none⟩ = some (.int .u32 d2.t.2.2.2.1) := hcell 4 _ rfl
      have pd5 : w3.cell? ⟨b, o + q * 15 + 5, none⟩ = some (.int .u32 d2.t.2.2.2.2) := hcell 5 _ rfl
      clear hcell
      have hqi : (q : Int) < (n : Int) := by omega
      go_wp2_with fail
      refine HC2.out.mono ?_
      rintro e w4 ⟨rfl, ht⟩
      have HT4 := Lib.hid ht.swap
      clear ht HC2 HT pd1 pd2 pd3 pd4 pd5
      go_wp2
      go_roundw
      case rel => exact ⟨i + 1, hlt, by go_num, HT4⟩
      case measure => simp [intOf]; omega
    · obtain rfl : n = i := by omega
      have hd : decide ((n : Int) < (n : Int)) = false := by simp
      obtain ⟨l, hl⟩ := sized xs n
      have hT0 : Hid (TT w N1 N2 (PX xs 0 n n) (PX xs 0 n n) wr) := Lib.hid (by
        rcases Nat.eq_zero_or_pos n with h0 | h0
        · subst h0
          exact (HI.out.swap.imp (fun M hM => ⟨hM.1.iff fun z => ⟨fun ⟨j, hj, _⟩ => by omega, fun ⟨j, hj, _⟩ => by omega⟩, hM.2⟩)).swap
        · exact (HI.out.swap.imp (fun M hM => ⟨hM.1.iff fun z => X_round h0 z, hM.2⟩)).swap)
      have HL := Lib.hid hl
      clear HI hl hi hge
      go_wp2_with fail
      clear hd
      go_loopw [9, 11] (fun vv iv wr => ∃ v i : Nat, i ≤ n ∧ v ≤ l ∧ vv = .int .i64 v ∧ iv = .int .i64 i ∧ Hid (TT w N1 N2 (PX xs 0 n n) (PX xs 0 n n) wr)) (fun _ iv _ => n - (intOf iv).toNat)
      case atStart => exact ⟨0, 0, Nat.zero_le _, Nat.zero_le _, rfl, rfl, hT0⟩
      case round =>
        clear hT0
        obtain ⟨v, i, hi, hv, rfl, rfl, HI⟩ := hrel
        rcases Nat.lt_or_ge i n with hlt | hge
        · obtain ⟨b, o, d, rfl, hbl, hx, hcell⟩ := (HR.out.next HI.out.below).at_ hlt
          have hi0 : (i : Int) < (n : Int) := by omega
          obtain ⟨L0, hL0⟩ := told xs n d.t.1
          have HX := Lib.hid hx
          have qd1 : wr.cell? ⟨b, o + i * 15 + 1, none⟩ = some (.int .i64 d.t.1) := hcell 1 _ rfl
          have HC1 := Lib.hid (all_tt HI.out d.t.1 (fun M hM => by have := hM.2; omega) L0 (fun M hM L hL => hL0 M hM L hL))
          have HL0 := Lib.hid hL0
          clear hcell hx hL0
          go_wp2_with fail
          refine HC1.out.mono ?_
          rintro e w3 ⟨A1, c1, La, rfl, hra, hea, ht, hb3, M, hPM, hAM⟩
          have HT3 := Lib.hid ht
          have HRA := Lib.hid hra
          have HEA := Lib.hid hea
          have hlen := told_len hlt HX.out hPM (HL.out M hPM) hAM
          have hm20 : L0.length ≤ 20 := by have e5 := hlen.2; have e6 := HL.out M hPM; have e7 := hPM.2; omega
          have HASC := Lib.hid hAM.1
          have HC2 := Lib.hid (all_tt HT3.out.swap d.t.1 (fun M hM => by have := hM.2; omega) L0 (fun M hM L hL => HL0.out M hM L hL))
          have qd2 : w3.cell? ⟨b, o + i * 15 + 1, none⟩ = some (.int .i64 d.t.1) := (hb3.cell (p := ⟨b, o + i * 15 + 1, none⟩) hbl).trans qd1
          clear ht hra hea hPM hAM HC1 qd1 HI HX HL0 hb3 hbl
          obtain ⟨m, hm⟩ : ∃ m : Nat, m = L0.length := ⟨_, rfl⟩
          rw [← hm] at hlen HRA HC2 hm20
          have HMM := Lib.hid hm
          clear hm
          have hmz : ((m : Int) == 0) = false := by simp; omega
          have hmm : ((m : Int) != (m : Int)) = false := by simp
          have hmz2 : (m == 0) = false := by simp; omega
          rw [← HMM.out]
          go_wp2_with fail
          refine HC2.out.mono ?_
          rintro e w4 ⟨A2, c2, Lb, rfl, hrb, heb, ht, hb4, _⟩
          have HT4 := Lib.hid ht.swap
          have HRB := Lib.hid hrb
          have HEB := Lib.hid heb
          have HRA4 := Lib.hid (HRA.out.next hb4)
          clear ht hrb heb HC2 qd2 HRA HT3 hb4
          go_wp2_with fail
          go_loopw [14] (fun iv wr => ∃ j : Nat, j ≤ m ∧ iv = .int .i64 j ∧ Hid (TT w N1 N2 (PX xs 0 n n) (PX xs 0 n n) wr ∧ RI encE 15 wr A1 m La ∧ RI encE 15 wr A2 m Lb)) (fun iv _ => m - (intOf iv).toNat)
          case atStart => exact ⟨0, Nat.zero_le _, rfl, Lib.hid ⟨HT4.out, HRA4.out, HRB.out⟩⟩
          case round =>
            clear HT4 HRA4 HRB
            obtain ⟨j, hj, rfl, HJ⟩ := hrel
            rcases Nat.lt_or_ge j m with hltj | hgej
            · obtain ⟨ba, oa, ya, rfl, hba, hya, hca⟩ := HJ.out.2.1.at_ hltj
              obtain ⟨bb, ob, yb, rfl, hbb, hyb, hcb⟩ := HJ.out.2.2.at_ hltj
              have e1 : L0[j]? = some ya.e := by rw [← HEA.out, List.getElem?_map, hya]; rfl
              have e2 : L0[j]? = some yb.e := by rw [← HEB.out, List.getElem?_map, hyb]; rfl
              have e3 : yb.e = ya.e := Option.some.inj (e2.symm.trans e1)
              have hj0 : (j : Int) < (m : Int) := by omega
              have sa0 : ∀ p : Snc wr, p.W.cell? ⟨ba, oa + j * 15, none⟩ = some (.int .i64 ya.e.t.1) := fun p => (p.b.cell (p := ⟨ba, oa + j * 15, none⟩) hba).trans (hca 0 _ rfl)
              have sa1 : ∀ p : Snc wr, p.W.cell? ⟨ba, oa + j * 15 + 1, none⟩ = some (.int .i64 ya.e.t.2.1) := fun p => (p.b.cell (p := ⟨ba, oa + j * 15 + 1, none⟩) hba).trans (hca 1 _ rfl)
              have sa2 : ∀ p : Snc wr, p.W.cell? ⟨ba, oa + j * 15 + 2, none⟩ = some (.int .u32 ya.e.t.2.2.1) := fun p => (p.b.cell (p := ⟨ba, oa + j * 15 + 2, none⟩) hba).trans (hca 2 _ rfl)
              have sa3 : ∀ p : Snc wr, p.W.cell? ⟨ba, oa + j * 15 + 3, none⟩ = some (.int .u32 ya.e.t.2.2.2.1) := fun p => (p.b.cell (p := ⟨ba, oa + j * 15 + 3, none⟩) hba).trans (hca 3 _ rfl)
              have sa4 : ∀ p : Snc wr, p.W.cell? ⟨ba, oa + j * 15 + 4, none⟩ = some (.int .u32 ya.e.t.2.2.2.2) := fun p => (p.b.cell (p := ⟨ba, oa + j * 15 + 4, none⟩) hba).trans (hca 4 _ rfl)
              have sb0 : ∀ p : Snc wr, p.W.cell? ⟨bb, ob + j * 15, none⟩ = some (.int .i64 yb.e.t.1) := fun p => (p.b.cell (p := ⟨bb, ob + j * 15, none⟩) hbb).trans (hcb 0 _ rfl)
              have sb1 : ∀ p : Snc wr, p.W.cell? ⟨bb, ob + j * 15 + 1, none⟩ = some (.int .i64 yb.e.t.2.1) := fun p => (p.b.cell (p := ⟨bb, ob + j * 15 + 1, none⟩) hbb).trans (hcb 1 _ rfl)
              have sb2 : ∀ p : Snc wr, p.W.cell? ⟨bb, ob + j * 15 + 2, none⟩ = some (.int .u32 yb.e.t.2.2.1) := fun p => (p.b.cell (p := ⟨bb, ob + j * 15 + 2, none⟩) hbb).trans (hcb 2 _ rfl)
              have sb3 : ∀ p : Snc wr, p.W.cell? ⟨bb, ob + j * 15 + 3, none⟩ = some (.int .u32 yb.e.t.2.2.2.1) := fun p => (p.b.cell (p := ⟨bb, ob + j * 15 + 3, none⟩) hbb).trans (hcb 3 _ rfl)
              have sb4 : ∀ p : Snc wr, p.W.cell? ⟨bb, ob + j * 15 + 4, none⟩ = some (.int .u32 yb.e.t.2.2.2.2) := fun p => (p.b.cell (p := ⟨bb, ob + j * 15 + 4, none⟩) hbb).trans (hcb 4 _ rfl)
              obtain ⟨z, hz⟩ : ∃ z, z = ya.e.t := ⟨_, rfl⟩
              rw [e3] at sb0 sb1 sb2 sb3 sb4
              rw [← hz] at sa0 sa1 sa2 sa3 sa4 sb0 sb1 sb2 sb3 sb4
              have G1 : ∀ p : Snc wr, Calls Try.prog 15 #[.agg #[.int .i64 z.1, .int .i64 z.2.1, .int .u32 z.2.2.1, .int .u32 z.2.2.2.1, .int .u32 z.2.2.2.2], .agg #[.int .i64 z.1, .int .i64 z.2.1, .int .u32 z.2.2.1, .int .u32 z.2.2.2.1, .int .u32 z.2.2.2.2]] p.W fun e w' => e = .returned (.bool false) ∧ ∃ Q : Snc wr, w' = Q.W := fun p => by
                have := less_any z z p.W
                rw [less_self] at this
                unfold tv at this
                exact Calls.since this
              rcases Nat.eq_zero_or_pos j with hjz | hjp
              · have hg : decide (0 < j) = false := by simp; omega
                have hg' : decide ((0 : Int) < (j : Int)) = false := by simp; omega
                clear hca hcb hba hbb e1 e2 e3 hz hya hyb hjz
                go_upto_region 26 with fail
                refine wp_region_since (by kernel_rfl) (by kernel_rfl) ?_
                repeat (go_big_quiet_step (first | (go_at_call 15; with_reducible exact G1 _)))
                refine wpQuiet_nil ?_
                rintro w5 ⟨P5, rfl⟩
                have HP5 : Hid (TT w N1 N2 (PX xs 0 n n) (PX xs 0 n n) P5.W ∧ RI encE 15 P5.W (some ⟨ba, oa, none⟩) m La ∧ RI encE 15 P5.W (some ⟨bb, ob, none⟩) m Lb) := Lib.hid ⟨HJ.out.1.next P5.b, HJ.out.2.1.next P5.b, HJ.out.2.2.next P5.b⟩
                clear sa0 sa1 sa2 sa3 sa4 sb0 sb1 sb2 sb3 sb4 G1 HJ
                generalize P5.W = W5 at *
                go_wp2_with fail
                go_roundw
                case rel => exact ⟨j + 1, hltj, by go_num, HP5⟩
                case measure => simp [intOf]; omega
              · obtain ⟨jp, hjp2, hjp3⟩ := pred_of hjp
                have hjpm : jp < m := by omega
                obtain ⟨bp, op, yp, hAp, hbp, hyp, hcp⟩ := HJ.out.2.1.at_ hjpm
                cases hAp
                have e4 : L0[jp]? = some yp.e := by rw [← HEA.out, List.getElem?_map, hyp]; rfl
                have hless : decide (ordT yp.e.t z < 0) = true := by
                  rw [decide_eq_true_eq, ord_ltT, hz]
                  have := List.pairwise_iff_getElem.1 HASC.out jp j (List.getElem?_eq_some_iff.1 e4).1 (List.getElem?_eq_some_iff.1 e1).1 (by omega)
                  rw [(List.getElem?_eq_some_iff.1 e4).2, (List.getElem?_eq_some_iff.1 e1).2] at this
                  exact this
                have hjp0 : (jp : Int) < (m : Int) := by omega
                have sp0 : ∀ p : Snc wr, p.W.cell? ⟨ba, oa + jp * 15, none⟩ = some (.int .i64 yp.e.t.1) := fun p => (p.b.cell (p := ⟨ba, oa + jp * 15, none⟩) hba).trans (hcp 0 _ rfl)
                have sp1 : ∀ p : Snc wr, p.W.cell? ⟨ba, oa + jp * 15 + 1, none⟩ = some (.int .i64 yp.e.t.2.1) := fun p => (p.b.cell (p := ⟨ba, oa + jp * 15 + 1, none⟩) hba).trans (hcp 1 _ rfl)
                have sp2 : ∀ p : Snc wr, p.W.cell? ⟨ba, oa + jp * 15 + 2, none⟩ = some (.int .u32 yp.e.t.2.2.1) := fun p => (p.b.cell (p := ⟨ba, oa + jp * 15 + 2, none⟩) hba).trans (hcp 2 _ rfl)
                have sp3 : ∀ p : Snc wr, p.W.cell? ⟨ba, oa + jp * 15 + 3, none⟩ = some (.int .u32 yp.e.t.2.2.2.1) := fun p => (p.b.cell (p := ⟨ba, oa + jp * 15 + 3, none⟩) hba).trans (hcp 3 _ rfl)
                have sp4 : ∀ p : Snc wr, p.W.cell? ⟨ba, oa + jp * 15 + 4, none⟩ = some (.int .u32 yp.e.t.2.2.2.2) := fun p => (p.b.cell (p := ⟨ba, oa + jp * 15 + 4, none⟩) hba).trans (hcp 4 _ rfl)
                obtain ⟨zp, hzp⟩ : ∃ z, z = yp.e.t := ⟨_, rfl⟩
                rw [← hzp] at sp0 sp1 sp2 sp3 sp4 hless
                have G2 : ∀ p : Snc wr, Calls Try.prog 15 #[.agg #[.int .i64 zp.1, .int .i64 zp.2.1, .int .u32 zp.2.2.1, .int .u32 zp.2.2.2.1, .int .u32 zp.2.2.2.2], .agg #[.int .i64 z.1, .int .i64 z.2.1, .int .u32 z.2.2.1, .int .u32 z.2.2.2.1, .int .u32 z.2.2.2.2]] p.W fun e w' => e = .returned (.bool true) ∧ ∃ Q : Snc wr, w' = Q.W := fun p => by
                  have := less_any zp z p.W
                  rw [hless] at this
                  unfold tv at this
                  exact Calls.since this
                have hg : decide (0 < j) = true := by simp; omega
                have hg' : decide ((0 : Int) < (j : Int)) = true := by simp; omega
                clear hca hcb hcp hba hbb hbp e1 e2 e3 e4 hz hzp hya hyb hyp hjp hjp3 hless
                go_upto_region 26 with fail
                refine wp_region_since (by kernel_rfl) (by kernel_rfl) ?_
                repeat (go_big_quiet_step (first | (go_at_call 15; first | (with_reducible exact G1 _) | (with_reducible exact G2 _))))
                refine wpQuiet_nil ?_
                rintro w5 ⟨P5, rfl⟩
                have HP5 : Hid (TT w N1 N2 (PX xs 0 n n) (PX xs 0 n n) P5.W ∧ RI encE 15 P5.W (some ⟨ba, oa, none⟩) m La ∧ RI encE 15 P5.W (some ⟨bb, ob, none⟩) m Lb) := Lib.hid ⟨HJ.out.1.next P5.b, HJ.out.2.1.next P5.b, HJ.out.2.2.next P5.b⟩
                clear sa0 sa1 sa2 sa3 sa4 sb0 sb1 sb2 sb3 sb4 sp0 sp1 sp2 sp3 sp4 G1 G2 HJ hjp2
                generalize P5.W = W5 at *
                go_wp2_with fail
                go_roundw
                case rel => exact ⟨j + 1, hltj, by go_num, HP5⟩
                case measure => simp [intOf]; omega
            · obtain rfl : m = j := by omega
              have hd : decide ((m : Int) < (m : Int)) = false := by simp
              have HTW := Lib.hid HJ.out.1
              clear HJ hj hgej
              go_wp2_with fail
              have hml := hlen.2
              refine ⟨⟨max v m, i + 1, hlt, Nat.max_le.2 ⟨hv, hml⟩, by rw [max_cast], rfl, HTW⟩, ?_⟩
              simp [intOf]
              omega
        · obtain rfl : n = i := by omega
          have hd : decide ((n : Int) < (n : Int)) = false := by simp
          have hll : ((l : Int) == (l : Int)) = true := by simp
          have hvl : decide ((v : Int) ≤ (l : Int)) = true := by simp; omega
          have hvl2 : decide (v ≤ l) = true := by simp; omega
          have HX1 := Lib.hid (len_tt HI.out l HL.out)
          have HX2 := Lib.hid (len_tt HI.out.swap l HL.out)
          have HBW := Lib.hid HI.out.below
          clear HI
          go_wp2_with fail
          refine HX1.out.mono ?_
          rintro e w' ⟨rfl, rfl⟩
          go_wp2_with fail
          refine HX2.out.mono ?_
          rintro e w' ⟨rfl, rfl⟩
          go_wp2_with fail
          refine HX1.out.mono ?_
          rintro e w' ⟨rfl, rfl⟩
          go_wp2
          go_ret
          exact ⟨rfl, HBW.out⟩
end Go.Proofs.Ytnnppoamdllebaa

