/- The statement on ways in lines, walked. -/
import Derived.Test.YtjbinmjjnneilaaGreatDoorRpf
namespace Go.Proofs.YtjbinmjjnneilaaGreatDoor
open Go.RowKit Lx Sm Go.Maps
theorem jr_app (w : World) (ops : Array Oper) (rest : List Oper) (o : Oper) (a : Act) (Q : Exit → Act → World → Prop) (hgd : o.guard = none) (s x : Operand)
    (ho : o.op = .call { callee := .builtin .append, args := #[s, x], argTypes := #[39, 39] }) (base : Nat) (v : Value) (n : Nat) (xs : List Int) (hs : a.eval s = v) (hown : w.ownsRow base 3 1 v n (I64 xs))
    (g c : Nat) (y : Int) (hx : a.eval x = .slice (some ⟨g, 0, none⟩) 1 c) (hc : w.cell? ⟨g, 0, none⟩ = some (.int .i64 y)) (hn : n ≤ 1048576) (hbase : base ≤ w.heap.size)
    (h : ∀ v' w', w'.ownsRow base 3 1 v' (n + 1) (I64 (xs ++ [y])) → Below base w w' → wpList Tryz.prog ops Q rest (a.put o.dst v') w') : wpList Tryz.prog ops Q (o :: rest) a w := by
  obtain ⟨i, hi, hz, hsize, hby⟩ := info_parts info_int
  refine wpList_append_own w hgd s x 39 ho base 3 i (.int .i64 0) 1 8 Tryz.underlying39 hi hz hsize hby rfl (by decide) v n (I64 xs) hs hown ⟨g, 0, none⟩ 1 c (I64 [y]) hx rfl ?_ (I64_one _) (by unfold maxLen; omega) (by omega) hbase ?_
  · intro j u hj
    match j, hj with
    | 0, hj =>
      simp [I64] at hj
      subst hj
      rw [WideShapes.add_plain]
      exact hc
    | j + 1, hj => simp [I64] at hj
  · intro v' w' hown' hg _
    refine h v' w' (by rw [I64_app]; exact hown') ((Below.refl _ _).grown hg hbase ?_)
    intro k hk
    exact (hown.lt k hk).1
set_option maxHeartbeats 8000000 in
set_option maxRecDepth 100000 in
theorem law_plines (ads : List Addr) (a0 a1 a2 : Int) (w : World) (hE : EnvC ads w) :
    Calls Tryz.prog 3 #[.int .i64 a0, .int .i64 a1, .int .i64 a2] w fun e w' => e = .returned (.bool true) ∧ Below w.heap.size w w' := by
  have HF := Lib.hid (first11_any ads w hE)
  have HE := Lib.hid hE
  obtain ⟨m0, hm0, h0⟩ : ∃ m0 : Nat, m0 < 7 ∧ a0 % 7 = (m0 : Int) := ⟨(a0 % 7).toNat, by omega, by omega⟩
  obtain ⟨m, hm⟩ : ∃ m : Nat, (m0 : Int) + 1 = (m : Int) := ⟨m0 + 1, by omega⟩
  obtain ⟨q, hq, h1⟩ : ∃ q : Nat, q < m ∧ a1 % (m : Int) = (q : Int) := ⟨(a1 % (m : Int)).toNat, by
    have := Int.emod_lt_of_pos a1 (show (0 : Int) < (m : Int) by omega); have := Int.emod_nonneg a1 (show (m : Int) ≠ 0 by omega); omega, by
    have := Int.emod_nonneg a1 (show (m : Int) ≠ 0 by omega); omega⟩
  obtain ⟨l, hl, h2⟩ : ∃ l : Nat, l ≤ m ∧ a2 % ((m : Int) + 1) = (l : Int) := ⟨(a2 % ((m : Int) + 1)).toNat, by
    have := Int.emod_lt_of_pos a2 (show (0 : Int) < ((m : Int) + 1) by omega); have := Int.emod_nonneg a2 (show ((m : Int) + 1) ≠ 0 by omega); omega, by
    have := Int.emod_nonneg a2 (show ((m : Int) + 1) ≠ 0 by omega); omega⟩
  have hm8 : m ≤ 7 := by omega
  have N0 := Lib.hid fun W => numb a0 7 m0 (by decide) (by decide) h0 W
  have N1 := Lib.hid fun W => numb a1 (m : Int) q (by omega) (by omega) h1 W
  have N2 := Lib.hid fun W => numb a2 ((m : Int) + 1) l (by omega) (by omega) h2 W
  have HL := Lib.hid fun W => line_any m 0 (by omega) (by decide) W
  rw [show ((0 : Nat) : Int) = 0 from rfl] at HL
  have HA := Lib.hid fun W => naddr_any l 77 (by omega) (by decide) W
  have HCH : Hid (chainA (lineCfg m 0) (q : Int) (adr l 77) = (runW (l : Int) (m + 1) (q : Int), true)) := Lib.hid (line_chain ⟨m, by omega⟩ ⟨q, by omega⟩ ⟨l, by omega⟩ hq hl)
  clear hE h0 h1 h2
  go_enter Tryz.func3, Tryz.ntmps3
  go_upto_region 5 with (first
    | (go_at_call 5; refine HF.out.mono ?_; rintro e w1 ⟨rfl, hb1⟩; have HB1 := Lib.hid hb1; clear hb1)
    | (go_at_call_of 6 (Value.int IntKind.i64 a0); refine (N0.out _).mono ?_; rintro e w2 ⟨rfl, rfl⟩))
  have HM := Lib.hid hm
  clear hm
  go_upto_region 10 with (first
    | (go_at_call_of 6 (Value.int IntKind.i64 a1); refine (N1.out _).mono ?_; rintro e w2 ⟨rfl, rfl⟩)
    | (go_at_call_of 6 (Value.int IntKind.i64 a2); refine (N2.out _).mono ?_; rintro e w2 ⟨rfl, rfl⟩)
    | (go_at_call 8; refine (HL.out _).mono ?_; rintro e w3 ⟨M, rfl, hcw, hb3⟩; have HB3 := Lib.hid (below_next HB1.out hb3); have HN := Lib.hid (new_ok ads M (lineCfg m 0) [] w3 (HE.out.below HB3.out) hcw (line_valid ⟨m, by omega⟩) (line_rn m 0) (line_ln m 0) (fun W _ => groups0_any M W hcw.s.len.symm hcw.m.len.symm) (line_ports m 0) (fun y hy => (by cases hy))); clear hcw hb3)
    | (go_at_call 7; refine HN.out.mono ?_; rintro e w4 ⟨T, x', rfl, hT, hal, hb4⟩; obtain rfl := alike_eq hal rfl; have HT := Lib.hid hT; have HB4 := Lib.hid (below_next HB3.out hb4); clear hT hal hb4))
  have HCC := Lib.hid fun W (hW : Below w4.heap.size w4 W) => chain_any (q : Int) (adr l 77) (adr_u32 (by omega) (by decide)) W (HT.out.next hW) (line_rn m 0) (line_ln m 0) (line_ribok (n := m) (by omega)) (fun y hy => ⟨(line_ports m 0 y hy).1, (line_ports m 0 y hy).2.1⟩) (by show (rsK m).length ≤ 1000; rw [rsK_len]; omega)
  have HRO := Lib.hid fun W (hW : Below w4.heap.size w4 W) => line_round_any m (by omega) W (HT.out.next hW)
  rw [HCH.out] at HCC
  dsimp only at HCC
  generalize hY : runW (l : Int) (m + 1) (q : Int) = Y at *
  have HY := Lib.hid hY
  have HYl : Hid (Y.length ≤ 1000) := Lib.hid (by
    have : ∀ (k : Nat) (a : Int), (runW (l : Int) k a).length ≤ k := by
      intro k
      induction k with
      | zero => intro a; simp [runW]
      | succ k ih =>
        intro a
        unfold runW
        split
        · have := ih (a - 1); simp; omega
        · split
          · have := ih (a + 1); simp; omega
          · simp
    have := this (m + 1) (q : Int)
    rw [hY] at this
    omega)
  clear hY
  go_upto_region 13 with (first
    | (go_at_call 10; refine (HA.out _).mono ?_; rintro e w5 ⟨rfl, rfl⟩)
    | (go_at_call 9; refine (HCC.out _ (Below.refl _ _)).mono ?_; rintro e w6 ⟨A6, c6, rfl, hj6, hb6⟩; have HJ6 := Lib.hid hj6; have HB6 := Lib.hid hb6; clear hj6 hb6))
  go_wp2
  go_loopw [12, 13, 14] (fun dv av iv wr => ∃ (i : Nat) (a : Int) (A : Option Addr) (c : Nat) (D : List Int), i ≤ m + 1 ∧ -1 ≤ a ∧ a ≤ 20 ∧ iv = .int .i64 i ∧ av = .int .i64 a ∧ dv = .slice A D.length c ∧ Hid (D ++ runW (l : Int) (m + 1 - i) a = Y ∧ D.length = i) ∧ Hid (wr.ownsRow w6.heap.size 3 1 (.slice A D.length c) D.length (I64 D)) ∧ Hid (Below w6.heap.size w6 wr)) (fun _ _ iv _ => m + 1 - (intOf iv).toNat)
  case atStart => exact ⟨0, (q : Int), none, 0, [], by omega, by omega, by omega, rfl, rfl, rfl, Lib.hid ⟨by rw [← HY.out]; rfl, rfl⟩, Lib.hid (by simpa [I64] using World.ownsRow_nil _ _ _ _), Lib.hid (Below.refl _ _)⟩
  case round =>
    obtain ⟨i, a, A, c, D, hi, ha1, ha2, rfl, rfl, rfl, HD, HO, HB⟩ := hrel
    rcases Nat.lt_or_ge i (m + 1) with hlt | hge
    · have hi0 : (i : Int) ≤ (m : Int) := by omega
      have HU : Hid (runW (l : Int) (m + 1 - i) a = a :: (if (l : Int) < a then runW (l : Int) (m + 1 - (i + 1)) (a - 1) else if a + 1 < (l : Int) then runW (l : Int) (m + 1 - (i + 1)) (a + 1) else [])) := Lib.hid (by
        rw [show m + 1 - i = (m + 1 - (i + 1)) + 1 by omega]; rfl)
      have hDl := HD.out.2
      by_cases c1 : (l : Int) < a
      · have HD2 : Hid ((D ++ [a]) ++ runW (l : Int) (m + 1 - (i + 1)) (a - 1) = Y ∧ (D ++ [a]).length = i + 1) := Lib.hid ⟨by
          rw [← HD.out.1, HU.out, if_pos c1]; simp, by simp [hDl]⟩
        have hw1 : wrap64 (a - 1) = a - 1 := by unfold wrap64; omega
        go_wp2_with (at_builtin; refine jr_app _ _ _ _ _ _ rfl _ _ rfl w6.heap.size _ D.length D rfl (HO.out.alloc _) wr.heap.size 1 a rfl (by go_simp) (by omega) (by have := HB.out.size; simp; omega) ?_; intro v2 w7 hown2 hb2)
        obtain ⟨A2, c2, rfl, _, _⟩ := own_slice hown2
        have HO2 : Hid (w7.ownsRow w6.heap.size 3 1 (.slice A2 (D ++ [a]).length c2) (D ++ [a]).length (I64 (D ++ [a]))) := Lib.hid (by simpa using hown2)
        have HB2 := Lib.hid ((HB.out.alloc HB.out.size _).trans hb2)
        clear hown2 hb2
        go_wp2
        go_roundw
        case rel => exact ⟨i + 1, a - 1, A2, c2, D ++ [a], by omega, by omega, by omega, by go_num, rfl, by simp, HD2, HO2, HB2⟩
        case measure => simp [intOf]; omega
      · by_cases c2' : a + 1 < (l : Int)
        · have HD2 : Hid ((D ++ [a]) ++ runW (l : Int) (m + 1 - (i + 1)) (a + 1) = Y ∧ (D ++ [a]).length = i + 1) := Lib.hid ⟨by
            rw [← HD.out.1, HU.out, if_neg c1, if_pos c2']; simp, by simp [hDl]⟩
          have hw1 : wrap64 (a + 1) = a + 1 := by unfold wrap64; omega
          go_wp2_with (at_builtin; refine jr_app _ _ _ _ _ _ rfl _ _ rfl w6.heap.size _ D.length D rfl (HO.out.alloc _) wr.heap.size 1 a rfl (by go_simp) (by omega) (by have := HB.out.size; simp; omega) ?_; intro v2 w7 hown2 hb2)
          obtain ⟨A2, c2, rfl, _, _⟩ := own_slice hown2
          have HO2 : Hid (w7.ownsRow w6.heap.size 3 1 (.slice A2 (D ++ [a]).length c2) (D ++ [a]).length (I64 (D ++ [a]))) := Lib.hid (by simpa using hown2)
          have HB2 := Lib.hid ((HB.out.alloc HB.out.size _).trans hb2)
          clear hown2 hb2
          go_wp2
          go_roundw
          case rel => exact ⟨i + 1, a + 1, A2, c2, D ++ [a], by omega, by omega, by omega, by go_num, rfl, by simp, HD2, HO2, HB2⟩
          case measure => simp [intOf]; omega
        · have HDZ : Hid (D ++ [a] = Y) := Lib.hid (by
            rw [← HD.out.1, HU.out, if_neg c1, if_neg c2'])
          have hw1 : wrap64 (a + 1) = a + 1 := by unfold wrap64; omega
          go_wp2_with (at_builtin; refine jr_app _ _ _ _ _ _ rfl _ _ rfl w6.heap.size _ D.length D rfl (HO.out.alloc _) wr.heap.size 1 a rfl (by go_simp) (by omega) (by have := HB.out.size; simp; omega) ?_; intro v2 w7 hown2 hb2)
          obtain ⟨A2, c2, rfl, _, _⟩ := own_slice hown2
          have HO2 : Hid (w7.ownsRow w6.heap.size 3 1 (.slice A2 (D ++ [a]).length c2) (D ++ [a]).length (I64 (D ++ [a]))) := Lib.hid (by simpa using hown2)
          have HB2 := Lib.hid ((HB.out.alloc HB.out.size _).trans hb2)
          clear hown2 hb2
          have HOZ := HO2
          have HBZ := HB2
          have HJY := Lib.hid (HJ6.out.next HBZ.out)
          obtain ⟨A9, c9, e9, hj9⟩ := own_jr HOZ.out
          injection e9 with e1 e2 e3
          subst e1
          have HJ9 := Lib.hid hj9
          rw [HDZ.out] at HJ9
          clear hj9 e2 e3
          have HSM := Lib.hid (jsame_any A6 _ Y.length Y.length c6 c2 Y Y w7 HJY.out HJ9.out (by have := HYl.out; omega) (by have := HYl.out; omega))
          have hlq := Lib.hid (show D.length + 1 = Y.length by rw [← HDZ.out]; simp)
          rw [decide_eq_true (rfl : Y = Y)] at HSM
          go_wp2_with (first
            | (go_at_call 11; (try rw [hlq.out]); (with_reducible refine HSM.out.mono ?_); rintro e w8 ⟨rfl, hb8⟩; have HB8 := Lib.hid (below_next HBZ.out hb8); clear hb8)
            | (go_at_call 12; refine (HRO.out _ (HB6.out.trans (HB8.out.mono HB6.out.size))).mono ?_; rintro e w9 ⟨rfl, hb9⟩; have HB9 := Lib.hid (below_next HB8.out hb9); clear hb9))
          go_ret
          exact ⟨rfl, HB4.out.trans ((HB6.out.trans (HB9.out.mono HB6.out.size)).mono HB4.out.size)⟩
    · obtain rfl : i = m + 1 := by omega
      have hi0 : ¬ ((m + 1 : Nat) : Int) ≤ (m : Int) := by omega
      have HDZ : Hid (D = Y) := Lib.hid (by
        have := HD.out.1
        rw [Nat.sub_self] at this
        rw [← this]; simp [runW])
      have HOZ := HO
      have HBZ := HB
      have HJY := Lib.hid (HJ6.out.next HBZ.out)
      obtain ⟨A9, c9, e9, hj9⟩ := own_jr HOZ.out
      injection e9 with e1 e2 e3
      subst e1
      have HJ9 := Lib.hid hj9
      rw [HDZ.out] at HJ9
      clear hj9 e2 e3
      have HSM := Lib.hid (jsame_any A6 _ Y.length Y.length c6 c Y Y wr HJY.out HJ9.out (by have := HYl.out; omega) (by have := HYl.out; omega))
      have hlq := Lib.hid (show D.length = Y.length by rw [← HDZ.out])
      rw [decide_eq_true (rfl : Y = Y)] at HSM
      go_wp2_with (first
        | (go_at_call 11; (try rw [hlq.out]); (with_reducible refine HSM.out.mono ?_); rintro e w8 ⟨rfl, hb8⟩; have HB8 := Lib.hid (below_next HBZ.out hb8); clear hb8)
        | (go_at_call 12; refine (HRO.out _ (HB6.out.trans (HB8.out.mono HB6.out.size))).mono ?_; rintro e w9 ⟨rfl, hb9⟩; have HB9 := Lib.hid (below_next HB8.out hb9); clear hb9))
      go_ret
      exact ⟨rfl, HB4.out.trans ((HB6.out.trans (HB9.out.mono HB6.out.size)).mono HB4.out.size)⟩
end Go.Proofs.YtjbinmjjnneilaaGreatDoor

