/- Contract of the document's own sum, over the seat's program. -/
import Derived.Test.YtfcfnfofihpegaaDoorBytes
import Derived.Test.YtfcfnfofihpegaaDoorSum
namespace Go.Proofs.YtfcfnfofihpegaaDoor
open Go.RowKit Sm
namespace Sm
/-- one byte more, the carry added again -/
theorem ref_step {x n T : Int} (h0 : 0 ≤ n) (h1 : n ≤ 65536) (hx0 : 0 ≤ x) (hx1 : x ≤ 65280) (hT : 0 ≤ T) (ho : oc n = oc T) :
    IntKind.u32.wrap (n + x) = n + x ∧ IntKind.u32.wrap (bits .and .u32 (n + x) 65535 + (n + x) / 65536) = (n + x) % 65536 + (n + x) / 65536 ∧
    0 ≤ (n + x) % 65536 + (n + x) / 65536 ∧ (n + x) % 65536 + (n + x) / 65536 ≤ 65536 ∧ oc ((n + x) % 65536 + (n + x) / 65536) = oc (T + x) := by
  rw [and_u32 (n + x) (by omega) (by omega)]
  refine ⟨?_, ?_, by omega, by omega, ?_⟩
  · simp [IntKind.wrap, IntKind.bits, IntKind.signed]; omega
  · simp [IntKind.wrap, IntKind.bits, IntKind.signed]; omega
  · rw [Int.add_comm, oc_fold (by omega)]
    exact oc_add h0 hT hx0 ho
theorem ref_end {n : Int} (h0 : 0 ≤ n) (h1 : n ≤ 65536) :
    IntKind.u32.wrap (bits .and .u32 n 65535 + n / 65536) = oc n ∧ IntKind.u16.wrap (oc n) = oc n := by
  rw [and_u32 n (by omega) (by omega)]
  have e : n % 65536 + n / 65536 = oc n := by
    rw [Int.add_comm, ← oc_fold h0, oc_small (by omega) (by omega)]
  have hb := oc_bd h0
  rw [e]
  constructor
  · simp [IntKind.wrap, IntKind.bits, IntKind.signed]; omega
  · simp [IntKind.wrap, IntKind.bits, IntKind.signed]; omega
end Sm
theorem rsum_any (A : Option Addr) (n c : Nat) (xs : List Int) (w : World) (h : BR w A n xs) (hn : n ≤ 1048576) :
    Calls Tryd.prog 43 #[.slice A n c] w fun e w' => e = .returned (.int .u16 (sum xs)) ∧ Below w.heap.size w w' := by
  have hl := h.len
  go_enter Tryd.func43, Tryd.ntmps43
  go_wp2_with fail
  go_loopw [3, 4, 5] (fun t i _ wr => ∃ (k : Nat) (m : Int), k ≤ n ∧ i = .int .i64 k ∧ t = .int .u32 m ∧ 0 ≤ m ∧ m ≤ 65536 ∧ Hid (oc m = oc (tot (xs.take k))) ∧ Below w.heap.size w wr) (fun _ i _ _ => n - (intOf i).toNat)
  case atStart => exact ⟨0, 0, Nat.zero_le _, rfl, rfl, by omega, by omega, rfl, Below.refl _ _⟩
  case round =>
    obtain ⟨k, m, hk, rfl, rfl, hm0, hm1, ho, hbw⟩ := hrel
    have hbd0 := h.isB.at_ k
    have htb := (tot_bd (h.isB.take k)).1
    rcases Nat.lt_or_ge k n with hlt | hge
    · obtain ⟨b, o, rfl, _, hc0⟩ := (h.next hbw).at_ hlt
      have hi0 : (k : Int) < n := by omega
      rcases Nat.mod_two_eq_zero_or_one k with h2 | h2
      · have HT := Lib.hid (tot_step_even xs k (by omega) h2)
        obtain ⟨s1, s2, s3, s4, s5⟩ := ref_step (x := xs.getD k 0 * 256) hm0 hm1 (by omega) (by omega) htb ho.out
        have HS := Lib.hid s5
        have HB := Lib.hid hbw
        have he : ((k : Int) % 2 == 0) = true := by simp; omega
        generalize xs.getD k 0 = u at *
        clear s5 hbw htb
        go_wp2
        go_roundw
        case rel => exact ⟨k + 1, _, by omega, by go_num, rfl, s3, s4, by rw [HT.out]; exact HS, HB.out⟩
        case measure => simp [intOf]; omega
      · have HT := Lib.hid (tot_step_odd xs k (by omega) h2)
        obtain ⟨s1, s2, s3, s4, s5⟩ := ref_step (x := xs.getD k 0) hm0 hm1 (by omega) (by omega) htb ho.out
        have HS := Lib.hid s5
        have HB := Lib.hid hbw
        have he : ((k : Int) % 2 == 0) = false := by simp; omega
        generalize xs.getD k 0 = u at *
        clear s5 hbw htb
        go_wp2
        go_roundw
        case rel => exact ⟨k + 1, _, by omega, by go_num, rfl, s3, s4, by rw [HT.out]; exact HS, HB.out⟩
        case measure => simp [intOf]; omega
    · obtain rfl : k = n := by omega
      obtain ⟨e1, e2⟩ := ref_end hm0 hm1
      have hob := oc_bd hm0
      rw [List.take_of_length_le (by omega)] at ho
      generalize oc m = O at *
      go_wp2
      go_ret
      exact ⟨ret_int (xor_u16 hob.1 hob.2 (by rw [ho.out]; rfl)), hbw⟩

set_option maxHeartbeats 1000000 in
/-- Put. -/
theorem put_any (A : Option Addr) (n c : Nat) (xs : List Int) (a : Int) (w : World) (h : BR w A n xs) (hn : n ≤ 1048576) :
    Calls Tryd.prog 27 #[.slice A n c, .int .i64 a] w fun e w' => ∃ A' c', e = .returned (.slice A' n c') ∧ w'.ownsRow w.heap.size 5 1 (.slice A' n c') n (B8 (put xs a)) ∧ Below w.heap.size w w' := by
  have hl := h.len
  have HC := clone_any A n c xs w h hn
  have hcase : a < 0 ∨ (∃ k : Nat, a = k ∧ k % 2 = 1) ∨ (∃ k : Nat, a = k ∧ k % 2 = 0 ∧ n < k + 2) ∨ (∃ k : Nat, a = k ∧ k % 2 = 0 ∧ k + 2 ≤ n) := by
    rcases Int.lt_or_le a 0 with h0 | h0
    · exact .inl h0
    · obtain ⟨k, rfl⟩ := Int.eq_ofNat_of_zero_le h0
      rcases Nat.mod_two_eq_zero_or_one k with h2 | h2
      · rcases Nat.lt_or_ge n (k + 2) with h3 | h3
        · exact .inr (.inr (.inl ⟨k, rfl, h2, h3⟩))
        · exact .inr (.inr (.inr ⟨k, rfl, h2, h3⟩))
      · exact .inr (.inl ⟨k, rfl, h2⟩)
  rcases hcase with h0 | ⟨k, rfl, h2⟩ | ⟨k, rfl, h2, h3⟩ | ⟨k, rfl, h2, h3⟩
  · have e : put xs a = xs := by unfold put place; rw [if_neg]; simp; omega
    rw [e]
    go_enter Tryd.func27, Tryd.ntmps27
    go_wp2_with fail
    refine HC.mono ?_
    rintro e w1 ⟨A', c', rfl, hown, hb⟩
    go_wp2
    go_ret
    exact ⟨_, c', rfl, hown, hb⟩
  · have e : put xs (k : Int) = xs := by unfold put place; rw [if_neg]; simp; omega
    have hm : ((k : Int) % 2 != 0) = true := by simp; omega
    rw [e]
    go_enter Tryd.func27, Tryd.ntmps27
    go_wp2_with fail
    refine HC.mono ?_
    rintro e w1 ⟨A', c', rfl, hown, hb⟩
    go_wp2
    go_ret
    exact ⟨_, c', rfl, hown, hb⟩
  · have e : put xs (k : Int) = xs := by unfold put place; rw [if_neg]; simp; omega
    have hm : ((k : Int) % 2 != 0) = false := by simp; omega
    have hg : decide ((n : Int) - 2 < (k : Int)) = true := by simp; omega
    rw [e]
    go_enter Tryd.func27, Tryd.ntmps27
    go_wp2_with fail
    refine HC.mono ?_
    rintro e w1 ⟨A', c', rfl, hown, hb⟩
    go_wp2
    go_ret
    exact ⟨_, c', rfl, hown, hb⟩
  · have e : put xs (k : Int) = put2 (zero2 xs k) k (sum (zero2 xs k)) := by
      unfold put
      rw [if_pos (by simp [place]; omega)]
      rfl
    have hm : ((k : Int) % 2 != 0) = false := by simp; omega
    have hg : decide ((n : Int) - 2 < (k : Int)) = false := by simp; omega
    have hzb := zero2_b h.isB k
    have hzl := zero2_len xs k
    have HE := Lib.hid e
    have HX := Lib.hid h.isB
    clear e
    go_enter Tryd.func27, Tryd.ntmps27
    go_wp2_with fail
    refine HC.mono ?_
    rintro e w1 ⟨A', c', rfl, hown, hb⟩
    obtain ⟨_, _, he, _, _, hf⟩ := own_form hown HX.out
    obtain ⟨g, hA, hbg, hlt⟩ := hf (by omega)
    simp only [Value.slice.injEq, true_and] at he
    obtain ⟨rfl, rfl⟩ := he
    cases hA
    have f0 : w1.frozen? ⟨g, k, none⟩ = false := hown.frozenAt k
    have f1 : w1.frozen? ⟨g, k + 1, none⟩ = false := hown.frozenAt (k + 1)
    have hi0 : (k : Int) < n := by omega
    have hi1 : (k : Int) + 1 < n := by omega
    have hown2 := own_set (own_set hown k 0) (k + 1) 0
    have hb2 : Below w.heap.size w ((w1.setCell ⟨g, k, none⟩ (.int .u8 0)).setCell ⟨g, k + 1, none⟩ (.int .u8 0)) := below_store (below_store hb hbg _) hbg _
    obtain ⟨_, _, he, hnc, hbr, _⟩ := own_form hown2 hzb
    simp only [Value.slice.injEq, true_and] at he
    obtain ⟨rfl, rfl⟩ := he
    have HS := of_any _ n c' _ _ hbr hn
    have HO := Lib.hid hown2
    have HB := Lib.hid hb2
    have c0 : w1.cell? ⟨g, k, none⟩ = (B8 xs)[k]? := hown.cellAt k (by omega)
    have c1 : w1.cell? ⟨g, k + 1, none⟩ = (B8 xs)[k + 1]? := hown.cellAt (k + 1) (by omega)
    rw [B8_at (by omega)] at c0 c1
    have H0 := Lib.hid hown
    clear hown hb hown2 hb2 hbr HC hf
    go_wp2_with fail
    refine HS.mono ?_
    rintro e w2 ⟨rfl, hbz⟩
    have hown3 := own_next HO.out hbz
    have hb3 : Below w.heap.size w w2 := HB.out.trans (hbz.mono HB.out.size)
    clear HS HO HB c0 c1 f0 f1 hbz
    have f0 : w2.frozen? ⟨g, k, none⟩ = false := hown3.frozenAt k
    have f1 : w2.frozen? ⟨g, k + 1, none⟩ = false := hown3.frozenAt (k + 1)
    have c0 : w2.cell? ⟨g, k, none⟩ = some (.int .u8 0) := (hown3.cellAt k (by omega)).trans (by rw [B8_at (by simp; omega)]; simp [show k < xs.length by omega])
    have c1 : w2.cell? ⟨g, k + 1, none⟩ = some (.int .u8 0) := (hown3.cellAt (k + 1) (by omega)).trans (by rw [B8_at (by simp; omega)]; rw [getD_set_self _ (by simp; omega)])
    have hsb := sum_bd hzb
    have hown4 := own_set (own_set hown3 k (sum (zero2 xs k) / 256)) (k + 1) (sum (zero2 xs k) % 256)
    have hb4 := below_store (i := k + 1) (below_store (i := k) hb3 hbg (.int .u8 (sum (zero2 xs k) / 256))) hbg (.int .u8 (sum (zero2 xs k) % 256))
    have HO := Lib.hid hown4
    have HB := Lib.hid hb4
    have hz : (xs.set k 0).set (k + 1) 0 = zero2 xs k := rfl
    rw [hz] at HO ⊢
    generalize hSS : sum (zero2 xs k) = S at *
    have HSS := Lib.hid hSS
    clear hown3 hb3 hown4 hb4 hz hSS
    go_wp2
    go_ret
    exact ⟨_, c', rfl, by rw [HE.out]; exact HO.out, HB.out⟩

set_option maxHeartbeats 1000000 in
/-- The document's own. -/
theorem rput_any (A : Option Addr) (n c : Nat) (xs : List Int) (a : Int) (w : World) (h : BR w A n xs) (hn : n ≤ 1048576) :
    Calls Tryd.prog 40 #[.slice A n c, .int .i64 a] w fun e w' => ∃ A' c', e = .returned (.slice A' n c') ∧ w'.ownsRow w.heap.size 5 1 (.slice A' n c') n (B8 (put xs a)) ∧ Below w.heap.size w w' := by
  have hl := h.len
  have HC := rbytes_any A n c xs w h hn
  have hcase : a < 0 ∨ (∃ k : Nat, a = k ∧ k % 2 = 1) ∨ (∃ k : Nat, a = k ∧ k % 2 = 0 ∧ n < k + 2) ∨ (∃ k : Nat, a = k ∧ k % 2 = 0 ∧ k + 2 ≤ n) := by
    rcases Int.lt_or_le a 0 with h0 | h0
    · exact .inl h0
    · obtain ⟨k, rfl⟩ := Int.eq_ofNat_of_zero_le h0
      rcases Nat.mod_two_eq_zero_or_one k with h2 | h2
      · rcases Nat.lt_or_ge n (k + 2) with h3 | h3
        · exact .inr (.inr (.inl ⟨k, rfl, h2, h3⟩))
        · exact .inr (.inr (.inr ⟨k, rfl, h2, h3⟩))
      · exact .inr (.inl ⟨k, rfl, h2⟩)
  rcases hcase with h0 | ⟨k, rfl, h2⟩ | ⟨k, rfl, h2, h3⟩ | ⟨k, rfl, h2, h3⟩
  · have e : put xs a = xs := by unfold put place; rw [if_neg]; simp; omega
    rw [e]
    go_enter Tryd.func40, Tryd.ntmps40
    go_wp2_with fail
    refine HC.mono ?_
    rintro e w1 ⟨gg, c', rfl, hown, hb⟩
    go_wp2
    go_ret
    exact ⟨_, c', rfl, hown, hb⟩
  · have e : put xs (k : Int) = xs := by unfold put place; rw [if_neg]; simp; omega
    have hm : ((k : Int) % 2 != 0) = true := by simp; omega
    rw [e]
    go_enter Tryd.func40, Tryd.ntmps40
    go_wp2_with fail
    refine HC.mono ?_
    rintro e w1 ⟨gg, c', rfl, hown, hb⟩
    go_wp2
    go_ret
    exact ⟨_, c', rfl, hown, hb⟩
  · have e : put xs (k : Int) = xs := by unfold put place; rw [if_neg]; simp; omega
    have hm : ((k : Int) % 2 != 0) = false := by simp; omega
    have hg : decide ((n : Int) - 2 < (k : Int)) = true := by simp; omega
    rw [e]
    go_enter Tryd.func40, Tryd.ntmps40
    go_wp2_with fail
    refine HC.mono ?_
    rintro e w1 ⟨gg, c', rfl, hown, hb⟩
    go_wp2
    go_ret
    exact ⟨_, c', rfl, hown, hb⟩
  · have e : put xs (k : Int) = put2 (zero2 xs k) k (sum (zero2 xs k)) := by
      unfold put
      rw [if_pos (by simp [place]; omega)]
      rfl
    have hm : ((k : Int) % 2 != 0) = false := by simp; omega
    have hg : decide ((n : Int) - 2 < (k : Int)) = false := by simp; omega
    have hzb := zero2_b h.isB k
    have hzl := zero2_len xs k
    have HE := Lib.hid e
    have HX := Lib.hid h.isB
    clear e
    go_enter Tryd.func40, Tryd.ntmps40
    go_wp2_with fail
    refine HC.mono ?_
    rintro e w1 ⟨gg, c', rfl, hown, hb⟩
    obtain ⟨_, _, he, _, _, hf⟩ := own_form hown HX.out
    obtain ⟨g, hA, hbg, hlt⟩ := hf (by omega)
    simp only [Value.slice.injEq, true_and] at he
    obtain ⟨rfl, rfl⟩ := he
    obtain rfl : g = gg := by injection hA with hA; injection hA with hA; exact hA.symm
    have f0 : w1.frozen? ⟨g, k, none⟩ = false := hown.frozenAt k
    have f1 : w1.frozen? ⟨g, k + 1, none⟩ = false := hown.frozenAt (k + 1)
    have hi0 : (k : Int) < n := by omega
    have hi1 : (k : Int) + 1 < n := by omega
    have hown2 := own_set (own_set hown k 0) (k + 1) 0
    have hb2 : Below w.heap.size w ((w1.setCell ⟨g, k, none⟩ (.int .u8 0)).setCell ⟨g, k + 1, none⟩ (.int .u8 0)) := below_store (below_store hb hbg _) hbg _
    obtain ⟨_, _, he, hnc, hbr, _⟩ := own_form hown2 hzb
    simp only [Value.slice.injEq, true_and] at he
    obtain ⟨rfl, rfl⟩ := he
    have HS := rsum_any _ n c' _ _ hbr hn
    have HO := Lib.hid hown2
    have HB := Lib.hid hb2
    have c0 : w1.cell? ⟨g, k, none⟩ = (B8 xs)[k]? := hown.cellAt k (by omega)
    have c1 : w1.cell? ⟨g, k + 1, none⟩ = (B8 xs)[k + 1]? := hown.cellAt (k + 1) (by omega)
    rw [B8_at (by omega)] at c0 c1
    have H0 := Lib.hid hown
    clear hown hb hown2 hb2 hbr HC hf
    go_wp2_with fail
    refine HS.mono ?_
    rintro e w2 ⟨rfl, hbz⟩
    have hown3 := own_next HO.out hbz
    have hb3 : Below w.heap.size w w2 := HB.out.trans (hbz.mono HB.out.size)
    clear HS HO HB c0 c1 f0 f1 hbz
    have f0 : w2.frozen? ⟨g, k, none⟩ = false := hown3.frozenAt k
    have f1 : w2.frozen? ⟨g, k + 1, none⟩ = false := hown3.frozenAt (k + 1)
    have c0 : w2.cell? ⟨g, k, none⟩ = some (.int .u8 0) := (hown3.cellAt k (by omega)).trans (by rw [B8_at (by simp; omega)]; simp [show k < xs.length by omega])
    have c1 : w2.cell? ⟨g, k + 1, none⟩ = some (.int .u8 0) := (hown3.cellAt (k + 1) (by omega)).trans (by rw [B8_at (by simp; omega)]; rw [getD_set_self _ (by simp; omega)])
    have hsb := sum_bd hzb
    have hown4 := own_set (own_set hown3 k (sum (zero2 xs k) / 256)) (k + 1) (sum (zero2 xs k) % 256)
    have hb4 := below_store (i := k + 1) (below_store (i := k) hb3 hbg (.int .u8 (sum (zero2 xs k) / 256))) hbg (.int .u8 (sum (zero2 xs k) % 256))
    have HO := Lib.hid hown4
    have HB := Lib.hid hb4
    have hz : (xs.set k 0).set (k + 1) 0 = zero2 xs k := rfl
    rw [hz] at HO ⊢
    generalize hSS : sum (zero2 xs k) = S at *
    have HSS := Lib.hid hSS
    clear hown3 hb3 hown4 hb4 hz hSS
    go_wp2
    go_ret
    exact ⟨_, c', rfl, by rw [HE.out]; exact HO.out, HB.out⟩
end Go.Proofs.YtfcfnfofihpegaaDoor
