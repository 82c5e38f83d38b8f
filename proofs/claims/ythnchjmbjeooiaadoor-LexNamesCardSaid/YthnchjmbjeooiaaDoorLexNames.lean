/- The law on names, walked. Conditions: the fourteen errors lie in their variables; the library's bound variable holds some number. -/
import Derived.Test.YthnchjmbjeooiaaDoorUb
import Derived.Test.YthnchjmbjeooiaaDoorFirst
import Derived.Test.YthnchjmbjeooiaaDoorIsC
import Derived.Test.YthnchjmbjeooiaaDoorName
namespace Go.Proofs.YthnchjmbjeooiaaDoor
open Go.RowKit Go.Lib Lx
namespace Lx
/-- letters in their order -/
def abc (k : Nat) : List UInt8 := (List.range k).map fun i => UInt8.ofNat (97 + i)
theorem abc_len (k : Nat) : (abc k).length = k := by simp [abc]
theorem abc_succ (k : Nat) : abc (k + 1) = abc k ++ [UInt8.ofNat (97 + k)] := by simp [abc, List.range_succ]
theorem abc_ltr (k : Nat) (h : k ≤ 20) : ∀ x ∈ abc k, ltr x = true := by
  intro x hx
  obtain ⟨i, hi, rfl⟩ := List.mem_map.1 hx
  have hi' : i < k := by simpa using hi
  unfold ltr
  rw [UInt8.toNat_ofNat']
  simp; omega
theorem nch_ltr {x : UInt8} (h : ltr x = true) : nch x = true := by unfold nch; rw [h]; rfl
theorem set_all {l : List UInt8} {j : Nat} {c : UInt8} (hj : j < l.length) (hl : ∀ x ∈ l, nch x = true) : (l.set j c).all nch = nch c := by
  cases hc : nch c with
  | true =>
    rw [List.all_eq_true]
    intro x hx
    rcases List.mem_or_eq_of_mem_set hx with h | rfl
    · exact hl x h
    · exact hc
  | false =>
    rw [Bool.eq_false_iff]
    intro ha
    rw [List.all_eq_true] at ha
    have := ha c (List.mem_iff_getElem.2 ⟨j, by simpa using hj, by simp⟩)
    rw [hc] at this
    cases this
theorem head_set {l : List UInt8} {j : Nat} {c : UInt8} (hj : j < l.length) (hl : ∀ x ∈ l, ltr x = true) : ltr ((l.set j c).headD 0) = if j = 0 then ltr c else true := by
  cases l with
  | nil => simp at hj
  | cons a l =>
    cases j with
    | zero => simp
    | succ j => simp; exact hl a (by simp)
theorem name_abc (n j : Nat) (c : UInt8) (hj : j < n) (hn : n ≤ 20) : nameOk ((abc n).set j c) = (decide (n ≤ 12) && ((if j = 0 then ltr c else true) && nch c)) := by
  unfold nameOk headOk
  rw [head_set (by rw [abc_len]; exact hj) (abc_ltr n hn), set_all (by rw [abc_len]; exact hj) (fun x hx => nch_ltr (abc_ltr n hn x hx)), List.length_set, abc_len, Bool.and_assoc]
  congr 1
  rw [decide_eq_decide]; omega
theorem abc_next (N k : Nat) (h : k < N) : (abc k ++ List.replicate (N - k) 0).set k (UInt8.ofNat (97 + k)) = abc (k + 1) ++ List.replicate (N - (k + 1)) 0 := by
  rw [List.set_append_right _ _ (by rw [abc_len]; omega), abc_len, Nat.sub_self, show N - k = (N - (k + 1)) + 1 by omega, List.replicate_succ, List.set_cons_zero, abc_succ, List.append_assoc]
  rfl
end Lx
theorem u8_nat {a : Int} (h : (Lit.int .u8 a).wf = true) : ∃ c : UInt8, a = (c.toNat : Int) := by
  obtain ⟨h0, h1⟩ := wf_u8 h
  exact ⟨UInt8.ofNat a.toNat, by rw [UInt8.toNat_ofNat']; omega⟩
theorem nm_yes {b : Bool} {x : Value} (h : b = true) : nmV b x = .nilIface := by rw [h]; rfl
theorem nm_no {b : Bool} {x : Value} (h : b = false) : nmV b x = x := by rw [h]; rfl
set_option maxRecDepth 100000 in
set_option maxHeartbeats 4000000 in
theorem law_names (ads : List Addr) (m a0 a1 : Int) (c : UInt8) (W : World) (hS : EnvS ads W) (hM : EnvM m W) :
    Calls Tryd.prog 6 #[.int .i64 a0, .int .i64 a1, .int .u8 (c.toNat : Int)] W fun e w' => e = .returned (.bool true) ∧ Below W.heap.size W w' := by
  obtain ⟨i0, hi, hz0, hz1, hz2⟩ := info_parts (show (Tryd.prog.info? 5).map (fun i => (i.zero, i.size, i.bytes)) = some (some (.int .u8 0), 1, 1) by kernel_rfl)
  have hr0 : 0 ≤ a0 % 20 := Int.emod_nonneg _ (by omega)
  have hr1 : a0 % 20 < 20 := Int.emod_lt_of_pos _ (by omega)
  obtain ⟨N, hN⟩ : ∃ N : Nat, a0 % 20 = N := ⟨(a0 % 20).toNat, by omega⟩
  have hNum := Lib.hid (fun W => number_any a0 20 W (by omega) (by omega))
  rw [hN] at hNum hr1
  have hN1 : N < 20 := by omega
  clear hN hr0 hr1
  have HF := Lib.hid (first_any m W hM)
  have HS := Lib.hid hS
  clear hS hM
  go_enter Tryd.func6, Tryd.ntmps6
  go_wp2_with (first
    | (go_at_call 8; refine HF.out.mono ?_; rintro e w1 ⟨rfl, hb⟩; have HB1 := Lib.hid hb; clear hb)
    | (go_at_call 17; refine (hNum.out _).mono ?_; rintro e w2 ⟨rfl, rfl⟩)
    | (at_make; refine wpList_make_full _ rfl _ _ 49 rfl W.heap.size 5 i0 (.int .u8 0) 1 Tryd.underlying49 hi hz0 hz1 .i64 .i64 (N : Int) (N : Int) N rfl rfl rfl rfl (by rw [hz2]; omega) (by unfold maxLen; omega) HB1.out.size ?_; intro w2 hown hgrow
       have HO2 := Lib.hid hown
       have HB2 := Lib.hid (HB1.out.grown hgrow HB1.out.size (fun k hk => by cases hk))
       clear hown hgrow))
  rw [UB_zero] at HO2
  obtain ⟨G, hG⟩ : ∃ G, G = w1.heap.size := ⟨_, rfl⟩
  have hGW : W.heap.size ≤ G := hG ▸ HB1.out.size
  rw [← hG] at HO2 ⊢
  clear hG HB1 HF hNum
  go_loopw [9] (fun i wr => ∃ k : Nat, k ≤ N ∧ i = .int .i64 k ∧ wr.ownsRow W.heap.size 5 1 (.slice (some ⟨G, 0, none⟩) N N) N (UB (abc k ++ List.replicate (N - k) 0)) ∧ Below W.heap.size W wr) (fun i _ => N - (intOf i).toNat)
  case atStart => exact ⟨0, by omega, rfl, by simpa [abc] using HO2.out, HB2.out⟩
  case round =>
    obtain ⟨k, hk, rfl, hown, hbw⟩ := hrel
    clear HO2 HB2
    rcases Nat.lt_or_ge k N with hlt | hge
    · have hset := Lib.hid (ub_set hown k (UInt8.ofNat (97 + k)) (97 + (k : Int)) (by rw [UInt8.toNat_ofNat']; omega))
      rw [abc_next N k hlt] at hset
      have hc := ub_cell hown hlt
      have hf : wr.frozen? ⟨G, k, none⟩ = false := hown.frozenAt k
      have HB := Lib.hid (below_store hbw hGW (i := k) (.int .u8 (97 + (k : Int))))
      generalize ((abc k ++ List.replicate (N - k) 0).getD k 0).toNat = q at *
      clear hown hbw
      have hi0 : (k : Int) < N := by omega
      have hm26 : (k : Int).tmod 26 = k := by rw [Int.tmod_eq_emod_of_nonneg (by omega)]; omega
      go_wp2
      go_roundw
      case rel => exact ⟨k + 1, by omega, by go_num, hset.out, HB.out⟩
      case measure => simp [intOf]; omega
    · obtain rfl : k = N := by omega
      rw [Nat.sub_self, List.replicate_zero, List.append_nil] at hown
      -- TAIL
      obtain ⟨a, ha, he⟩ := erS_at HS.out (j := 8) (by omega)
      have hcell := erS_cell HS.out (j := 8) (g := 3) (by omega) rfl
      rw [he] at hcell
      have HX := Lib.hid (fun (l : List UInt8) W' (hb : Below W.heap.size W W') => name_any (str l) (ev a) W' ((hb.cell (World.block_lt_of_cell? _ _ hcell)).trans hcell))
      have HI := Lib.hid (fun W' (hb : Below W.heap.size W W') => is_any ads 8 a 109 W' (HS.out.below hb) (by omega) ha)
      simp only [str_data] at HX
      rw [show (((101 + 8 : Nat) : Int) == 109) = true from rfl] at HI
      clear ha he hcell HS
      unfold ev at HX HI
      rcases Nat.eq_zero_or_pos k with rfl | hk0
      · have hcv := ub_str (P := Tryd.prog) hown 49 9 5 Tryd.underlying49 Tryd.underlying5 Tryd.underlying9
        have HB := Lib.hid hbw
        have HN := Lib.hid (HX.out (abc 0))
        simp only [nm_no (show nameOk (abc 0) = false from rfl)] at HN
        generalize str (abc 0) = T at *
        clear HX hown hbw
        go_wp2_with (first
          | (go_at_call 15; refine (HN.out _ HB.out).mono ?_; rintro e w5 ⟨rfl, rfl⟩)
          | (go_at_call 11; refine (HI.out _ HB.out).mono ?_; rintro e w6 ⟨rfl, hb6⟩
             have HB6 := Lib.hid ((HB.out).trans (hb6.mono (HB.out).size))
             clear hb6))
        all_goals
          go_ret
          exact ⟨ret_bool (by first | rfl | (simp; omega)), HB6.out⟩
      · have hj0 : 0 ≤ a1 % k := Int.emod_nonneg _ (by omega)
        have hj1 : a1 % k < k := Int.emod_lt_of_pos _ (by omega)
        obtain ⟨j, hj⟩ : ∃ j : Nat, a1 % k = j := ⟨(a1 % k).toNat, by omega⟩
        have HNu := Lib.hid (fun W => number_any a1 k W (by omega) (by omega))
        rw [hj] at HNu hj1
        clear hj0 hj
        have hjk : j < k := by omega
        have hc := ub_cell hown hjk
        have hf : wr.frozen? ⟨G, j, none⟩ = false := hown.frozenAt j
        have hown1 := ub_set hown j c c.toNat rfl
        have HB := Lib.hid (below_store hbw hGW (i := j) (.int .u8 (c.toNat : Int)))
        have hcv := ub_str (P := Tryd.prog) hown1 49 9 5 Tryd.underlying49 Tryd.underlying5 Tryd.underlying9
        have HN := Lib.hid (HX.out ((abc k).set j c))
        have HV := Lib.hid (name_abc k j c hjk (by omega))
        generalize str ((abc k).set j c) = T at *
        generalize nameOk ((abc k).set j c) = V at *
        generalize ((abc k).getD j 0).toNat = q at *
        have hch := ch_cases c
        have HC : Hid (nch c = nch c) := rfl
        clear HX hown hbw hown1 HC
        have hk1 : (0 : Int) < k := by omega
        have hj2 : (j : Int) < k := by omega
        rcases Nat.lt_or_ge 12 k with hk12 | hk12
        · clear hch
          have hv : V = false := by rw [HV.out]; simp; omega
          simp only [nm_no hv] at HN
          clear hv HV
          generalize c.toNat = z at *
          go_wp2_with (first
            | (go_at_call 17; refine (HNu.out _).mono ?_; rintro e w4 ⟨rfl, rfl⟩)
            | (go_at_call 15; refine (HN.out _ HB.out).mono ?_; rintro e w5 ⟨rfl, rfl⟩)
            | (go_at_call 11; refine (HI.out _ HB.out).mono ?_; rintro e w6 ⟨rfl, hb6⟩
               have HB6 := Lib.hid ((HB.out).trans (hb6.mono (HB.out).size))
               clear hb6))
          all_goals
            go_ret
            exact ⟨ret_bool (by first | rfl | (simp; omega)), HB6.out⟩
        · rcases hch with ⟨g1, g2, h3, h4⟩ | ⟨g1, h3, h4, h5⟩ | ⟨g1, g2, h3, h4, h5⟩ | ⟨g0, g1, h3, h4, h5⟩ | ⟨g1, h3, h4, h5⟩ | ⟨g0, g1, h3, h4, h5⟩
          · skip
            have hv : V = true := by rw [HV.out]; rw [h3, h4]; simp; omega
            simp only [nm_yes hv] at HN
            clear hv HV
            clear h3 h4
            generalize c.toNat = z at *
            go_wp2_with (first
              | (go_at_call 17; refine (HNu.out _).mono ?_; rintro e w4 ⟨rfl, rfl⟩)
              | (go_at_call 15; refine (HN.out _ HB.out).mono ?_; rintro e w5 ⟨rfl, rfl⟩))
            all_goals
              go_ret
              exact ⟨ret_bool (by first | rfl | (simp; omega)), HB.out⟩
          · skip
            have hv : V = false := by rw [HV.out]; rw [h3]; simp
            simp only [nm_no hv] at HN
            clear hv HV
            clear h3 h4 h5
            have g2 : 97 ≤ c.toNat := by omega
            have g3 : 48 ≤ c.toNat := by omega
            have g4 : 57 < c.toNat := by omega
            have g5 : (((c.toNat : Nat) : Int) == 45) = false := by simp; omega
            generalize c.toNat = z at *
            go_wp2_with (first
              | (go_at_call 17; refine (HNu.out _).mono ?_; rintro e w4 ⟨rfl, rfl⟩)
              | (go_at_call 15; refine (HN.out _ HB.out).mono ?_; rintro e w5 ⟨rfl, rfl⟩)
              | (go_at_call 11; refine (HI.out _ HB.out).mono ?_; rintro e w6 ⟨rfl, hb6⟩
                 have HB6 := Lib.hid ((HB.out).trans (hb6.mono (HB.out).size))
                 clear hb6))
            all_goals
              go_ret
              exact ⟨ret_bool (by first | rfl | (simp; omega)), HB6.out⟩
          · rcases Nat.eq_zero_or_pos j with rfl | hj3
            · skip
              have hv : V = false := by rw [HV.out]; rw [h4]; simp
              simp only [nm_no hv] at HN
              clear hv HV
              clear h3 h4 h5
              have g3 : c.toNat < 97 := by omega
              generalize c.toNat = z at *
              go_wp2_with (first
                | (go_at_call 17; refine (HNu.out _).mono ?_; rintro e w4 ⟨rfl, rfl⟩)
                | (go_at_call 15; refine (HN.out _ HB.out).mono ?_; rintro e w5 ⟨rfl, rfl⟩)
                | (go_at_call 11; refine (HI.out _ HB.out).mono ?_; rintro e w6 ⟨rfl, hb6⟩
                   have HB6 := Lib.hid ((HB.out).trans (hb6.mono (HB.out).size))
                   clear hb6))
              all_goals
                go_ret
                exact ⟨ret_bool (by first | rfl | (simp; omega)), HB6.out⟩
            · skip
              have hv : V = true := by rw [HV.out]; rw [h3, if_neg (by omega)]; simp; omega
              simp only [nm_yes hv] at HN
              clear hv HV
              clear h3 h4 h5
              have g3 : c.toNat < 97 := by omega
              generalize c.toNat = z at *
              go_wp2_with (first
                | (go_at_call 17; refine (HNu.out _).mono ?_; rintro e w4 ⟨rfl, rfl⟩)
                | (go_at_call 15; refine (HN.out _ HB.out).mono ?_; rintro e w5 ⟨rfl, rfl⟩))
              all_goals
                go_ret
                exact ⟨ret_bool (by first | rfl | (simp; omega)), HB.out⟩
          · skip
            have hv : V = false := by rw [HV.out]; rw [h3]; simp
            simp only [nm_no hv] at HN
            clear hv HV
            clear h3 h4 h5
            have g3 : 48 ≤ c.toNat := by omega
            have g5 : (((c.toNat : Nat) : Int) == 45) = false := by simp; omega
            generalize c.toNat = z at *
            go_wp2_with (first
              | (go_at_call 17; refine (HNu.out _).mono ?_; rintro e w4 ⟨rfl, rfl⟩)
              | (go_at_call 15; refine (HN.out _ HB.out).mono ?_; rintro e w5 ⟨rfl, rfl⟩)
              | (go_at_call 11; refine (HI.out _ HB.out).mono ?_; rintro e w6 ⟨rfl, hb6⟩
                 have HB6 := Lib.hid ((HB.out).trans (hb6.mono (HB.out).size))
                 clear hb6))
            all_goals
              go_ret
              exact ⟨ret_bool (by first | rfl | (simp; omega)), HB6.out⟩
          · rcases Nat.eq_zero_or_pos j with rfl | hj3
            · skip
              have hv : V = false := by rw [HV.out]; rw [h4]; simp
              simp only [nm_no hv] at HN
              clear hv HV
              clear h3 h4 h5
              have g3 : c.toNat < 97 := by omega
              have g4 : c.toNat < 48 := by omega
              clear g1
              generalize c.toNat = z at *
              go_wp2_with (first
                | (go_at_call 17; refine (HNu.out _).mono ?_; rintro e w4 ⟨rfl, rfl⟩)
                | (go_at_call 15; refine (HN.out _ HB.out).mono ?_; rintro e w5 ⟨rfl, rfl⟩)
                | (go_at_call 11; refine (HI.out _ HB.out).mono ?_; rintro e w6 ⟨rfl, hb6⟩
                   have HB6 := Lib.hid ((HB.out).trans (hb6.mono (HB.out).size))
                   clear hb6))
              all_goals
                go_ret
                exact ⟨ret_bool (by first | rfl | (simp; omega)), HB6.out⟩
            · skip
              have hv : V = true := by rw [HV.out]; rw [h3, if_neg (by omega)]; simp; omega
              simp only [nm_yes hv] at HN
              clear hv HV
              clear h3 h4 h5
              have g3 : c.toNat < 97 := by omega
              have g4 : c.toNat < 48 := by omega
              have g5 : (((c.toNat : Nat) : Int) == 45) = true := by simp; omega
              clear g1
              generalize c.toNat = z at *
              go_wp2_with (first
                | (go_at_call 17; refine (HNu.out _).mono ?_; rintro e w4 ⟨rfl, rfl⟩)
                | (go_at_call 15; refine (HN.out _ HB.out).mono ?_; rintro e w5 ⟨rfl, rfl⟩))
              all_goals
                go_ret
                exact ⟨ret_bool (by first | rfl | (simp; omega)), HB.out⟩
          · skip
            have hv : V = false := by rw [HV.out]; rw [h3]; simp
            simp only [nm_no hv] at HN
            clear hv HV
            clear h3 h4 h5
            have g3 : c.toNat < 97 := by omega
            have g5 : (((c.toNat : Nat) : Int) == 45) = false := by simp; omega
            generalize c.toNat = z at *
            go_wp2_with (first
              | (go_at_call 17; refine (HNu.out _).mono ?_; rintro e w4 ⟨rfl, rfl⟩)
              | (go_at_call 15; refine (HN.out _ HB.out).mono ?_; rintro e w5 ⟨rfl, rfl⟩)
              | (go_at_call 11; refine (HI.out _ HB.out).mono ?_; rintro e w6 ⟨rfl, hb6⟩
                 have HB6 := Lib.hid ((HB.out).trans (hb6.mono (HB.out).size))
                 clear hb6))
            all_goals
              go_ret
              exact ⟨ret_bool (by first | rfl | (simp; omega)), HB6.out⟩
end Go.Proofs.YthnchjmbjeooiaaDoor
