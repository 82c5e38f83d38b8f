/- The statement on the least of addresses, walked. -/
import Derived.Test.YtgehloimlabkdaaQr
import Derived.Test.YtgehloimlabkdaaAppA
namespace Go.Proofs.Ytgehloimlabkdaa
open Go.RowKit Sm
set_option maxRecDepth 100000 in
set_option maxHeartbeats 4000000 in
theorem law_least (A : Option Addr) (n c : Nat) (xs : List Int) (a : Int) (w : World) (h : AR w A n xs) (ha : isA a) :
    Calls Try.prog 3 #[.slice A n c, .int .u32 a] w fun e w' => e = .returned (.bool true) ∧ Below w.heap.size w w' := by
  have HR := Lib.hid h
  have hlen := h.len
  by_cases hbig : 20 < n
  · have hd : decide ((20 : Int) < (n : Int)) = true := by simp; omega
    have hd2 : (20 : Int) < (n : Int) := by omega
    clear h hlen
    go_enter Try.func3, Try.ntmps3
    go_wp2_with (go_at_call 6; refine (first13_any _).mono ?_; rintro e w1 ⟨rfl, hb1⟩; have HB1 := Lib.hid hb1; clear hb1)
    go_ret
    exact ⟨rfl, HB1.out⟩
  · have hd : decide ((20 : Int) < (n : Int)) = false := by simp; omega
    have hd2 : ¬ (20 : Int) < (n : Int) := by omega
    rcases Nat.eq_zero_or_pos n with rfl | hpos
    · clear h hlen
      go_enter Try.func3, Try.ntmps3
      go_wp2_with (go_at_call 6; refine (first13_any _).mono ?_; rintro e w1 ⟨rfl, hb1⟩; have HB1 := Lib.hid hb1; clear hb1)
      go_ret
      exact ⟨rfl, HB1.out⟩
    · have HM := Lib.hid (leastP_all xs n)
      have HK : Hid (leastP xs n < n) := Lib.hid (by have := leastP_lt xs n; omega)
      have HA : Hid (leastP (xs ++ [a]) (n + 1) = if a < xs.getD (leastP xs n) 0 then n else leastP xs n) := Lib.hid (by
        have e := leastP_app xs a n (by omega)
        have hq := leastP_lt xs n
        show (if (xs ++ [a]).getD n 0 < (xs ++ [a]).getD (leastP (xs ++ [a]) n) 0 then n else leastP (xs ++ [a]) n) = _
        rw [e]
        have e1 : (xs ++ [a]).getD n 0 = a := by subst hlen; simp [List.getD_eq_getElem?_getD]
        have e2 : (xs ++ [a]).getD (leastP xs n) 0 = xs.getD (leastP xs n) 0 := by simp [List.getD_eq_getElem?_getD, List.getElem?_append_left (show leastP xs n < xs.length by omega)]
        rw [e1, e2])
      have HLE := Lib.hid fun W (hW : AR W A n xs) => least_any A n c xs W hW (by omega)
      generalize leastP xs n = K at *
      have hp1 : decide (0 < n) = true := by simp; omega
      have hp2 : ((n : Int) == 0) = false := by simp; omega
      have hp3 : ¬ (n : Int) = 0 := by omega
      have k1 : ¬ (K : Int) < 0 := by omega
      have k2 : ¬ (n : Int) ≤ (K : Int) := by have := HK.out; omega
      clear h hlen
      go_enter Try.func3, Try.ntmps3
      go_upto_region 9 with (first
        | (go_at_call 6; refine (first13_any _).mono ?_; rintro e w1 ⟨rfl, hb1⟩; have HB1 := Lib.hid hb1; have HR1 := Lib.hid (HR.out.next hb1); clear hb1)
        | (go_at_call 7; (with_reducible refine (HLE.out _ HR1.out).mono ?_); rintro e w2 ⟨rfl, hb2⟩; have HB2 := Lib.hid (below_next HB1.out hb2); have HR2 := Lib.hid (HR1.out.next hb2); clear hb2))
      go_wp2_with fail
      go_loopw [8] (fun iv wr => ∃ k : Nat, k ≤ n ∧ iv = .int .i64 k ∧ Hid (Below w2.heap.size w2 wr)) (fun iv _ => n - (intOf iv).toNat)
      case atStart => exact ⟨0, by omega, rfl, Lib.hid (Below.refl _ _)⟩
      case round =>
        obtain ⟨k, hk, rfl, HB⟩ := hrel
        rcases Nat.lt_or_ge k n with hlt | hge
        · obtain ⟨b, o, eA, hbl, hx⟩ := (HR2.out.next HB.out).at_ hlt
          obtain ⟨b', o', eA', _, hy⟩ := (HR2.out.next HB.out).at_ HK.out
          subst eA
          obtain ⟨rfl, rfl⟩ : b = b' ∧ o = o' := by cases eA'; exact ⟨rfl, rfl⟩
          have m1 := HM.out.1 k hlt
          have m2 := HM.out.2 k
          generalize xs.getD k 0 = x at *
          generalize xs.getD K 0 = y at *
          have hi1 : (k : Int) < (n : Int) := by omega
          have hi2 : (K : Int) < (n : Int) := by have := HK.out; omega
          have j0 : (0 : Int) ≤ (k : Int) := by omega
          have j1 : (0 : Int) ≤ (K : Int) := by omega
          have c0 := Snc.all fun W (hW : Below wr.heap.size wr W) => (hW.cell (p := ⟨b, o + k, none⟩) hbl).trans hx
          have c1 := Snc.all fun W (hW : Below wr.heap.size wr W) => (hW.cell (p := ⟨b, o + K, none⟩) hbl).trans hy
          have q1 : decide (x < y) = false := by simpa using m1
          clear eA' hx hy
          by_cases hkK : k < K
          · have t1 : (k : Int) < (K : Int) := by omega
            have t2 : decide ((k : Int) < (K : Int)) = true := by simp; omega
            have t3 : (x == y) = false := by have := m2 hkK; simp; omega
            clear m2
            go_upto_region 12 with fail
            refine wp_region_since (by kernel_rfl) (by kernel_rfl) ?_
            repeat (go_big_quiet_step (fail))
            refine wpQuiet_nil ?_
            rintro w5 ⟨P5, rfl⟩
            have HB5 := Lib.hid (below_next HB.out P5.b)
            clear c0 c1
            go_wp2
            go_roundw
            case rel => exact ⟨k + 1, by omega, by go_num, HB5⟩
            case measure => simp [intOf]; omega
          · have t1 : ¬ (k : Int) < (K : Int) := by omega
            have t2 : decide ((k : Int) < (K : Int)) = false := by simp; omega
            clear m2
            go_upto_region 12 with fail
            refine wp_region_since (by kernel_rfl) (by kernel_rfl) ?_
            repeat (go_big_quiet_step (fail))
            refine wpQuiet_nil ?_
            rintro w5 ⟨P5, rfl⟩
            have HB5 := Lib.hid (below_next HB.out P5.b)
            clear c0 c1
            go_wp2
            go_roundw
            case rel => exact ⟨k + 1, by omega, by go_num, HB5⟩
            case measure => simp [intOf]; omega
        · obtain rfl : k = n := by omega
          have hd' : decide ((k : Int) < (k : Int)) = false := by simp
          obtain ⟨m, hm, hmc⟩ : ∃ m, leastP (xs ++ [a]) (k + 1) = m ∧ ((a < xs.getD K 0 ∧ m = k) ∨ (¬ a < xs.getD K 0 ∧ m = K)) := by
            refine ⟨_, rfl, ?_⟩
            rw [HA.out]
            by_cases h : a < xs.getD K 0
            · exact .inl ⟨h, if_pos h⟩
            · exact .inr ⟨h, if_neg h⟩
          have HMC := Lib.hid hmc
          have HMM := Lib.hid hm
          clear hmc hm
          have hi : IsAs (xs ++ [a]) := by
            intro y hy
            rcases List.mem_append.1 hy with hy | hy
            · exact HR.out.isAs y hy
            · simp at hy; subst hy; exact ha
          have HI := Lib.hid hi
          have HR5 := Lib.hid (HR2.out.next HB.out)
          have HKN := Lib.hid (show k ≤ 1048576 by omega)
          clear hi
          go_upto_region 15 with (first
            | (at_builtin; (with_reducible refine wpList_appA rfl _ _ rfl wr.heap.size _ 0 [] rfl (World.ownsRow_lit wr #[] 0 (Nat.le_refl _) (by decide) rfl) A k c xs rfl (HR5.out.next ((Below.refl _ _).alloc (Nat.le_refl _) _)) (by decide) HKN.out (by simp) ?_); intro v4 w4 hown4 hb4)
            | (at_builtin; (with_reducible refine wpList_appA rfl _ _ rfl wr.heap.size v4 (0 + k) ([] ++ xs) rfl (hown4.alloc _) _ 1 1 [a] rfl (ar_lit (Blk.new w4 _ _) ha) (by rw [Nat.zero_add]; exact HKN.out) (by decide) (by have hz := hb4.size; rw [sz_alloc] at hz; rw [sz_alloc]; omega) ?_); intro v5 w5 hown5 hb5)
            | (go_at_call 7; obtain ⟨A5, c5, rfl, _, hr5, _⟩ := own_forma (by simpa using hown5) HI.out; (with_reducible refine (least_any A5 _ c5 (xs ++ [a]) w5 hr5 (by have := HKN.out; omega)).mono ?_); rintro e w6 ⟨rfl, hb6⟩; rw [HMM.out]; have HB6 := Lib.hid (((((Below.refl wr.heap.size wr).alloc (Nat.le_refl _) _).trans hb4).alloc (by have hz := hb4.size; rw [sz_alloc] at hz; omega) _).trans hb5 |>.trans (hb6.mono (by have hz := hb4.size; have hz2 := hb5.size; rw [sz_alloc] at hz hz2; omega)))))
          have HB7 := Lib.hid (below_next HB2.out (below_next HB.out HB6.out))
          obtain ⟨b, o, eA, hbl, hy⟩ := (HR5.out.next HB6.out).at_ HK.out
          subst eA
          have HY := Lib.hid fun W (hW : Below w6.heap.size w6 W) => (hW.cell (p := ⟨b, o + K, none⟩) hbl).trans hy
          clear hb6 hr5 hown5 hb5 hb4 hown4 hy
          generalize xs.getD K 0 = y at *
          go_upto_region 16 with (go_at_call 7; refine (least_any none 0 0 [] _ (AR.none_ _ _) (by decide)).mono ?_; rintro e w8 ⟨rfl, hb8⟩; have HB8 := Lib.hid (below_next HB7.out hb8); have cy := HY.out _ hb8; clear hb8)
          have i1 : (K : Int) < (k : Int) := by have := HK.out; omega
          have i2 : (0 : Int) ≤ (K : Int) := by omega
          rcases HMC.out with ⟨hay, hm⟩ | ⟨hay, hm⟩
          · have t1 : decide (a < y) = true := by simpa using hay
            subst hm
            go_wp2
            go_ret
            exact ⟨rfl, HB8.out⟩
          · have t1 : decide (a < y) = false := by simpa using hay
            subst hm
            have t2 : ((m : Int) == (k : Int)) = false := by simp; omega
            have t3 : (m == k) = false := by simp; omega
            go_wp2
            go_ret
            exact ⟨rfl, HB8.out⟩
end Go.Proofs.Ytgehloimlabkdaa

