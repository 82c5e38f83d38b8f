/- A way is the first router, and the way of the one that it asks; walked. -/
import Derived.Test.YtojahaphkjdenaaGreatDoorRu
import Derived.Test.YtojahaphkjdenaaGreatDoorUn
import Derived.Deep.Cut
import Derived.Maps.AppendAt
namespace Go.Proofs.YtojahaphkjdenaaGreatDoor
open Go.RowKit Lx Sm Go.Maps
set_option maxHeartbeats 8000000 in
set_option maxRecDepth 100000 in
theorem law_chains (ads : List Addr) (M : Cm) (x : Cfg) (r a : Int) (w : World) (hE : EnvC ads w) (hL : LW w M x) (hu : U32 a) :
    Calls Tryz.prog 7 #[.agg #[.slice M.r.A M.r.n M.r.c, .slice M.l.A M.l.n M.l.c, .slice M.p.A M.p.n M.p.c, .slice M.o.A M.o.n M.o.c, .slice M.g.A M.g.n M.g.c, .slice M.s.A M.s.n M.s.c, .slice M.m.A M.m.n M.m.c], .int .i64 r, .int .u32 a] w fun e w' => e = .returned (.bool true) ∧ Below w.heap.size w w' := by
  have HB0 := Lib.hid ((Below.refl w.heap.size w).alloc (Nat.le_refl _) (.cells #[.slice M.r.A M.r.n M.r.c, .slice M.l.A M.l.n M.l.c, .slice M.p.A M.p.n M.p.c, .slice M.o.A M.o.n M.o.c, .slice M.g.A M.g.n M.g.c, .slice M.s.A M.s.n M.s.c, .slice M.m.A M.m.n M.m.c] 30))
  have HK0 : Hid (Blk (w.alloc (.cells #[.slice M.r.A M.r.n M.r.c, .slice M.l.A M.l.n M.l.c, .slice M.p.A M.p.n M.p.c, .slice M.o.A M.o.n M.o.c, .slice M.g.A M.g.n M.g.c, .slice M.s.A M.s.n M.s.c, .slice M.m.A M.m.n M.m.c] 30)) w.heap.size 30 #[.slice M.r.A M.r.n M.r.c, .slice M.l.A M.l.n M.l.c, .slice M.p.A M.p.n M.p.c, .slice M.o.A M.o.n M.o.c, .slice M.g.A M.g.n M.g.c, .slice M.s.A M.s.n M.s.c, .slice M.m.A M.m.n M.m.c]) := Lib.hid (Blk.new _ _ _)
  have HF := Lib.hid (first11_any ads _ (hE.below HB0.out))
  have HE := Lib.hid hE
  have HL := Lib.hid hL
  clear hE hL
  go_enter Tryz.func7, Tryz.ntmps7
  go_upto_region 1 with fail
  generalize w.alloc (.cells #[.slice M.r.A M.r.n M.r.c, .slice M.l.A M.l.n M.l.c, .slice M.p.A M.p.n M.p.c, .slice M.o.A M.o.n M.o.c, .slice M.g.A M.g.n M.g.c, .slice M.s.A M.s.n M.s.c, .slice M.m.A M.m.n M.m.c] 30) = W0 at *
  go_wp2_with fail
  refine HF.out.mono ?_
  rintro e w1 ⟨rfl, hb1⟩
  have HB1 := Lib.hid (below_next HB0.out hb1)
  have HK1 := Lib.hid (HK0.out.next hb1)
  have y0 : w1.cell? ⟨w.heap.size, 0, none⟩ = some (.slice M.r.A M.r.n M.r.c) := HK1.out.cell 0
  have y1 : w1.cell? ⟨w.heap.size, 1, none⟩ = some (.slice M.l.A M.l.n M.l.c) := HK1.out.cell 1
  have y2 : w1.cell? ⟨w.heap.size, 2, none⟩ = some (.slice M.p.A M.p.n M.p.c) := HK1.out.cell 2
  have y3 : w1.cell? ⟨w.heap.size, 3, none⟩ = some (.slice M.o.A M.o.n M.o.c) := HK1.out.cell 3
  have y4 : w1.cell? ⟨w.heap.size, 4, none⟩ = some (.slice M.g.A M.g.n M.g.c) := HK1.out.cell 4
  have y5 : w1.cell? ⟨w.heap.size, 5, none⟩ = some (.slice M.s.A M.s.n M.s.c) := HK1.out.cell 5
  have y6 : w1.cell? ⟨w.heap.size, 6, none⟩ = some (.slice M.m.A M.m.n M.m.c) := HK1.out.cell 6
  have HG := Lib.hid (light_any M x 8 w1 (HL.out.next HB1.out) (by omega))
  clear hb1 HF
  go_wp2_with fail
  refine HG.out.mono ?_
  rintro e w2 ⟨rfl, hb2⟩
  have HB2 := Lib.hid (below_next HB1.out hb2)
  have HK2 := Lib.hid (HK1.out.next hb2)
  clear y0 y1 y2 y3 y4 y5 y6 HG hb2
  cases hlp : lightP x 8 with
  | false =>
    go_wp2
    go_ret
    exact ⟨rfl, HB2.out⟩
  | true =>
    have HOK := Lib.hid (lt_ok hlp (by omega))
    have HRL := Lib.hid (lt_rl hlp)
    have HC2 := Lib.hid ((HL.out.next HB2.out).cw HOK.out)
    have HN := Lib.hid (new_light ads M x w2 (HE.out.below HB2.out) HC2.out HOK.out)
    have y0 : w2.cell? ⟨w.heap.size, 0, none⟩ = some (.slice M.r.A M.r.n M.r.c) := HK2.out.cell 0
    have y1 : w2.cell? ⟨w.heap.size, 1, none⟩ = some (.slice M.l.A M.l.n M.l.c) := HK2.out.cell 1
    have y2 : w2.cell? ⟨w.heap.size, 2, none⟩ = some (.slice M.p.A M.p.n M.p.c) := HK2.out.cell 2
    have y3 : w2.cell? ⟨w.heap.size, 3, none⟩ = some (.slice M.o.A M.o.n M.o.c) := HK2.out.cell 3
    have y4 : w2.cell? ⟨w.heap.size, 4, none⟩ = some (.slice M.g.A M.g.n M.g.c) := HK2.out.cell 4
    have y5 : w2.cell? ⟨w.heap.size, 5, none⟩ = some (.slice M.s.A M.s.n M.s.c) := HK2.out.cell 5
    have y6 : w2.cell? ⟨w.heap.size, 6, none⟩ = some (.slice M.m.A M.m.n M.m.c) := HK2.out.cell 6
    clear hlp HL HB1 HK1 HB0 HK0
    by_cases hr : r < 0 ∨ (M.r.n : Int) ≤ r
    · cases e1 : decide (r < 0) with
      | true => go_wp2; go_ret; exact ⟨rfl, HB2.out⟩
      | false =>
        have e2 : decide ((M.r.n : Int) ≤ r) = true := by simp only [decide_eq_false_iff_not, decide_eq_true_eq] at e1 ⊢; omega
        go_wp2; go_ret; exact ⟨rfl, HB2.out⟩
    obtain ⟨q, rfl⟩ : ∃ q : Nat, r = (q : Int) := ⟨r.toNat, by omega⟩
    have hqn : q < M.r.n := by omega
    have e1 : decide ((q : Int) < 0) = false := by simp
    have e2 : decide ((M.r.n : Int) ≤ (q : Int)) = false := by simp; omega
    clear hr
    go_wp2_with fail
    refine HN.out.mono ?_
    rintro e w4 ⟨T, x', rfl, hT, hal, hb4⟩
    have HT := Lib.hid hT
    have HAL := Lib.hid hal
    have HB4 := Lib.hid (below_next HB2.out hb4)
    have HK4 := Lib.hid (HK2.out.next hb4)
    have HC4 := Lib.hid (HC2.out.next hb4)
    clear y0 y1 y2 y3 y4 y5 y6 HN hT hal hb4 HC2 HK2
    have qr : M.r.n ≤ 16 := by have := HC4.out.r.len; have := HOK.out.rl; omega
    have ql : M.l.n ≤ 12 := by have := HC4.out.l.len; have := HOK.out.ll; omega
    have qp : M.p.n ≤ 24 := by have := HC4.out.p.len; have := HOK.out.pl; omega
    have qo : M.o.n ≤ 30 := by have := HC4.out.o.len; have := HOK.out.ol; omega
    have qg : M.g.n ≤ 4 := by have := HC4.out.g.len; have := HOK.out.gl; omega
    have qs : M.s.n ≤ 5 := by have := HC4.out.s.len; have := HOK.out.sl; omega
    have qm : M.m.n ≤ 10 := by have := HC4.out.m.len; have := HOK.out.ml; omega
    clear e1 e2
    have HCH := Lib.hid (fun W (hW : Below w4.heap.size w4 W) r => chain_al r a hu W (HT.out.next hW) HAL.out HOK.out)
    have HTO := Lib.hid (fun W (hW : Below w4.heap.size w4 W) r => to_al r a hu W (HT.out.next hW) HAL.out HOK.out)
    have HCL := Lib.hid (fun r => chain_len HOK.out r a)
    have hrl := HC4.out.r.len
    have hpl := HC4.out.p.len
    have HT1 := Lib.hid (fun W (hW : Below w4.heap.size w4 W) => HTO.out W hW (q : Int))
    have hcs : ((toA x (q : Int) a).2 = false) ∨ (∃ i cst t, toA x (q : Int) a = ((i, -1, cst, t), true)) ∨ ∃ (p lN o : Nat) (a1 cst : Int) (t : Bool) (q2 : Nat) (l2 a2 : Int), toA x (q : Int) a = (((p : Int), (o : Int), cst, t), true) ∧ x.ps[o]? = some ((q2 : Int), l2, a2) ∧ q2 < x.rs.length := by
      rcases toA_cases HOK.out (q : Int) a with hc | hc | ⟨p, lN, a1, u, cst, t, hc, hx, hl, hin, hup, hc0, hc1⟩
      · exact .inl (by rw [hc])
      · exact .inr (.inl ⟨_, _, _, hc⟩)
      · rcases hup with rfl | ⟨ou, rfl, hou, hmo⟩
        · exact .inr (.inl ⟨_, _, _, hc⟩)
        · obtain ⟨⟨q2, l2, a2⟩, hx2⟩ : ∃ y, x.ps[ou]? = some y := ⟨_, List.getElem?_eq_getElem hou⟩
          have hpo := HOK.out.po _ (List.mem_of_getElem? hx2)
          dsimp only at hpo
          obtain ⟨q3, rfl⟩ : ∃ q3 : Nat, q2 = (q3 : Int) := ⟨q2.toNat, by omega⟩
          exact .inr (.inr ⟨p, lN, ou, a1, cst, t, q3, l2, a2, hc, hx2, by omega⟩)
    rcases hcs with hc | ⟨i, cst, t, hc⟩ | ⟨p, lN, o, a1, cst, t, q2, l2, a2, hc, hx, hq2⟩
    · have hch : chainA x (q : Int) a = ([], false) := chain_none hc
      obtain ⟨TA, hta⟩ : ∃ TA, toA x (q : Int) a = TA := ⟨_, rfl⟩
      obtain ⟨⟨i, u, cst, t⟩, ok⟩ := TA
      rw [hta] at hc HT1
      dsimp only at hc HT1
      subst hc
      have HCE := Lib.hid hch
      clear hch hta
      go_upto_region 11 with (first
        | (go_at_call 46; refine (HCH.out w4 (Below.refl _ _) (q : Int)).mono ?_; rintro e w5 ⟨A5, c5, rfl, hj, hb5⟩; have HJ5 := Lib.hid hj; have HB5 := Lib.hid hb5; clear hj hb5)
        | (go_at_call 43; refine (HT1.out w5 HB5.out).mono ?_; rintro e w6 ⟨rfl, hb6⟩; have HB6 := Lib.hid (HB5.out.trans (hb6.mono HB5.out.size)); have HJ6 := Lib.hid (HJ5.out.next hb6); clear hb6))
      have HB67 := Lib.hid ((Below.refl w6.heap.size w6).alloc (Nat.le_refl _) (.cells #[.int .i64 i, .int .i64 u, .int .i64 cst, .bool t] 74))
      have HB7 := Lib.hid (HB6.out.alloc HB6.out.size (.cells #[.int .i64 i, .int .i64 u, .int .i64 cst, .bool t] 74))
      have HJ7 := Lib.hid (HJ6.out.next HB67.out)
      have HK7 := Lib.hid (Blk.new w6 74 #[.int .i64 i, .int .i64 u, .int .i64 cst, .bool t])
      generalize w6.alloc (.cells #[.int .i64 i, .int .i64 u, .int .i64 cst, .bool t] 74) = W7 at *
      rw [HCE.out]
      dsimp only
      go_wp2
      go_ret
      exact ⟨rfl, HB4.out.trans (HB7.out.mono HB4.out.size)⟩
    · have hch : chainA x (q : Int) a = ([(q : Int)], true) := chain_end HOK.out (by rw [hc]) (by rw [hc])
      rw [hc] at HT1
      dsimp only at HT1
      have HCE := Lib.hid hch
      clear hch hc
      go_upto_region 11 with (first
        | (go_at_call 46; refine (HCH.out w4 (Below.refl _ _) (q : Int)).mono ?_; rintro e w5 ⟨A5, c5, rfl, hj, hb5⟩; have HJ5 := Lib.hid hj; have HB5 := Lib.hid hb5; clear hj hb5)
        | (go_at_call 43; refine (HT1.out w5 HB5.out).mono ?_; rintro e w6 ⟨rfl, hb6⟩; have HB6 := Lib.hid (HB5.out.trans (hb6.mono HB5.out.size)); have HJ6 := Lib.hid (HJ5.out.next hb6); clear hb6))
      have HB67 := Lib.hid ((Below.refl w6.heap.size w6).alloc (Nat.le_refl _) (.cells #[.int .i64 i, .int .i64 (-1), .int .i64 cst, .bool t] 74))
      have HB7 := Lib.hid (HB6.out.alloc HB6.out.size (.cells #[.int .i64 i, .int .i64 (-1), .int .i64 cst, .bool t] 74))
      have HJ7 := Lib.hid (HJ6.out.next HB67.out)
      have HK7 := Lib.hid (Blk.new w6 74 #[.int .i64 i, .int .i64 (-1), .int .i64 cst, .bool t])
      generalize w6.alloc (.cells #[.int .i64 i, .int .i64 (-1), .int .i64 cst, .bool t] 74) = W7 at *
      rw [HCE.out] at HJ7 ⊢
      dsimp only at HJ7 ⊢
      have n1 : W7.cell? ⟨w6.heap.size, 1, none⟩ = some (.int .i64 (-1)) := HK7.out.cell 1
      simp only [List.length_cons, List.length_nil, Nat.zero_add] at HJ7 ⊢
      have HSM := Lib.hid (jsame_any A5 (some ⟨W7.heap.size, 0, none⟩) 1 1 c5 1 [(q : Int)] [(q : Int)] _ (HJ7.out.next ((Below.refl W7.heap.size W7).alloc (Nat.le_refl _) (.cells #[.int .i64 (q : Int)] 3))) (jr_one W7 (q : Int) 3) (by omega) (by omega))
      rw [decide_eq_true rfl] at HSM
      go_wp2_with (go_at_call 22; refine HSM.out.mono ?_; rintro e w8 ⟨rfl, hb8⟩; have HB8 := Lib.hid (below_next (HB7.out.alloc HB7.out.size (.cells #[.int .i64 (q : Int)] 3)) hb8); clear hb8)
      go_ret
      exact ⟨rfl, HB4.out.trans (HB8.out.mono HB4.out.size)⟩
    · have hnx : nextP x (q : Int) a = (q2 : Int) := by
        unfold nextP
        rw [hc, if_neg (by simp), if_neg (by simp)]
        show (portAt x (o : Int)).1 = _
        unfold portAt
        rw [Int.toNat_natCast, hx]; rfl
      have hst := chain_step HOK.out (r := (q : Int)) (a := a) (q := (q2 : Int)) (by rw [hc]) hnx (by simp)
      have HT2 := Lib.hid (fun W (hW : Below w4.heap.size w4 W) => HTO.out W hW (q2 : Int))
      have ho : o < M.p.n := by have := (List.getElem?_eq_some_iff.1 hx).1; omega
      rw [hc] at HT1
      dsimp only at HT1
      have HX := Lib.hid hx
      have HST := Lib.hid hst
      clear hc hnx hst hx
      go_upto_region 11 with (first
        | (go_at_call 46; refine (HCH.out w4 (Below.refl _ _) (q : Int)).mono ?_; rintro e w5 ⟨A5, c5, rfl, hj, hb5⟩; have HJ5 := Lib.hid hj; have HB5 := Lib.hid hb5; clear hj hb5)
        | (go_at_call 43; refine (HT1.out w5 HB5.out).mono ?_; rintro e w6 ⟨rfl, hb6⟩; have HB6 := Lib.hid (HB5.out.trans (hb6.mono HB5.out.size)); have HJ6 := Lib.hid (HJ5.out.next hb6); clear hb6))
      have HB67 := Lib.hid ((Below.refl w6.heap.size w6).alloc (Nat.le_refl _) (.cells #[.int .i64 (p : Int), .int .i64 (o : Int), .int .i64 cst, .bool t] 74))
      have HB7 := Lib.hid (HB6.out.alloc HB6.out.size (.cells #[.int .i64 (p : Int), .int .i64 (o : Int), .int .i64 cst, .bool t] 74))
      have HJ7 := Lib.hid (HJ6.out.next HB67.out)
      have HK7 := Lib.hid (Blk.new w6 74 #[.int .i64 (p : Int), .int .i64 (o : Int), .int .i64 cst, .bool t])
      generalize w6.alloc (.cells #[.int .i64 (p : Int), .int .i64 (o : Int), .int .i64 cst, .bool t] 74) = W7 at *
      have HCS : Hid (∀ W, Below W7.heap.size W7 W → ∃ bp op, W.cell? ⟨w.heap.size, 2, none⟩ = some (.slice (some ⟨bp, op, none⟩) M.p.n M.p.c) ∧ W.cell? ⟨bp, op + o * 3, none⟩ = some (.int .i64 (q2 : Int)) ∧ W.cell? ⟨w6.heap.size, 1, none⟩ = some (.int .i64 (o : Int))) := Lib.hid fun W hW => by
        obtain ⟨bp, op, ⟨r2, l3, a3⟩, hA, hbp, hx2, c0, c1, c2⟩ := IPort.cells (IR.next HC4.out.p (below_next HB7.out hW)) ho
        rw [HX.out] at hx2
        cases hx2
        exact ⟨bp, op, by rw [← hA]; exact ((HK4.out.next HB7.out).next hW).cell 2, c0, (HK7.out.next hW).cell 1⟩
      have hon : (o : Int) < (M.p.n : Int) := by omega
      have g1 : decide ((o : Int) < 0) = false := by simp
      obtain ⟨bp, op, y2, z0, n1⟩ := HCS.out W7 (Below.refl _ _)
      go_upto_region 16 with (go_at_call 46; refine (HCH.out W7 HB7.out (q2 : Int)).mono ?_; rintro e w8 ⟨A8, c8, rfl, hj8, hb8⟩; have HJ8 := Lib.hid hj8; have HB78 := Lib.hid hb8; have HB8 := Lib.hid (HB7.out.trans (hb8.mono HB7.out.size)); have HJ58 := Lib.hid (HJ7.out.next hb8); clear hj8 hb8)
      clear y2 z0 n1
      obtain ⟨bp2, op2, y2, z0, n1⟩ := HCS.out w8 HB78.out
      have hl8 := HCL.out (q2 : Int)
      have hl5 := HCL.out (q : Int)
      have HT3 := Lib.hid (HT2.out w8 HB8.out)
      generalize toA x (q2 : Int) a = TA3 at *
      generalize chainA x (q2 : Int) a = CA8 at *
      generalize chainA x (q : Int) a = CA5 at *
      obtain ⟨⟨i3, u3, c3, t3⟩, ok3⟩ := TA3
      obtain ⟨m8, go8⟩ := CA8
      obtain ⟨m5, go5⟩ := CA5
      dsimp only at HT3 HJ8 HJ58 HST hl8 hl5 ⊢
      obtain ⟨n5, hn5⟩ : ∃ n, m5.length = n := ⟨_, rfl⟩
      rw [hn5] at HJ58 hl5 ⊢
      have HN5 := Lib.hid hn5
      clear hn5
      rcases HST.out with ⟨h1, h2, h3⟩ | ⟨h1, h2, h4, h3⟩ | ⟨h1, h3⟩
      · subst h1 h2 h3
        clear HST
        go_upto_region 20 with (go_at_call 43; refine HT3.out.mono ?_; rintro e w9 ⟨rfl, hb9⟩; have HB9 := Lib.hid hb9; clear hb9)
        have HB10 := Lib.hid (HB9.out.alloc HB9.out.size (.cells #[.int .i64 i3, .int .i64 u3, .int .i64 c3, .bool t3] 74))
        generalize w9.alloc (.cells #[.int .i64 i3, .int .i64 u3, .int .i64 c3, .bool t3] 74) = W10 at *
        clear y2 z0 n1
        obtain ⟨bp3, op3, y2, z0, n1⟩ := HCS.out W10 (HB78.out.trans (HB10.out.mono HB78.out.size))
        have HJa := Lib.hid ((HJ58.out.next HB10.out).next ((Below.refl W10.heap.size W10).alloc (Nat.le_refl _) (.cells #[.int .i64 (q : Int), .int .i64 (q2 : Int)] 3)))
        have HJb : Hid (JR (W10.alloc (.cells #[.int .i64 (q : Int), .int .i64 (q2 : Int)] 3)) (some ⟨W10.heap.size, 0, none⟩) 2 [(q : Int), (q2 : Int)]) := Lib.hid ⟨rfl, fun _ => ⟨_, 0, rfl, by simp, fun k hk => by
          have : k = 0 ∨ k = 1 := by omega
          rcases this with rfl | rfl <;> simp⟩⟩
        have HSM := Lib.hid (jsame_any A5 (some ⟨W10.heap.size, 0, none⟩) n5 2 c5 2 [(q : Int), (q2 : Int)] [(q : Int), (q2 : Int)] _ HJa.out HJb.out (by omega) (by omega))
        rw [decide_eq_true rfl] at HSM
        go_wp2_with (go_at_call 22; refine HSM.out.mono ?_; rintro e w11 ⟨rfl, hb11⟩; have HB11 := Lib.hid (below_next (HB10.out.alloc HB10.out.size (.cells #[.int .i64 (q : Int), .int .i64 (q2 : Int)] 3)) hb11); clear hb11)
        go_ret
        exact ⟨rfl, HB4.out.trans ((HB8.out.trans (HB11.out.mono HB8.out.size)).mono HB4.out.size)⟩
      · subst h1 h2 h4 h3
        clear HST
        go_upto_region 20 with (go_at_call 43; refine HT3.out.mono ?_; rintro e w9 ⟨rfl, hb9⟩; have HB9 := Lib.hid hb9; clear hb9)
        have HB10 := Lib.hid (HB9.out.alloc HB9.out.size (.cells #[.int .i64 i3, .int .i64 u3, .int .i64 c3, .bool t3] 74))
        generalize w9.alloc (.cells #[.int .i64 i3, .int .i64 u3, .int .i64 c3, .bool t3] 74) = W10 at *
        clear y2 z0 n1
        go_upto_region 22 with fail
        have HBW := Lib.hid ((Below.refl W10.heap.size W10).alloc (Nat.le_refl _) (.cells #[.int .i64 (q : Int)] 3))
        have HOW : Hid ((W10.alloc (.cells #[.int .i64 (q : Int)] 3)).ownsRow W10.heap.size 3 1 (.slice (some ⟨W10.heap.size, 0, none⟩) 1 1) 1 (I64 [(q : Int)])) := Lib.hid ⟨rfl, .inr ⟨W10.heap.size, 1, #[.int .i64 (q : Int)], rfl, Nat.le_refl _, Blk.new _ _ _, Nat.le_refl _, by decide, rfl, rfl⟩⟩
        have HJm := Lib.hid ((HJ8.out.next HB10.out).next HBW.out)
        have HJl := Lib.hid (HJ58.out.next HB10.out)
        go_wp2_with (first
          | (at_builtin; refine wpList_app_jr (by rfl) _ _ rfl W10.heap.size _ 1 [(q : Int)] rfl HOW.out A8 m8.length c8 m8 rfl HJm.out (by omega) (by omega) (by simp) ?_; intro v' w11 hown11 hb11; have HB11 := Lib.hid (HBW.out.trans hb11); rw [show 1 + m8.length = ([(q : Int)] ++ m8).length by simp [Nat.add_comm]] at hown11; obtain ⟨A11, c11, hv11, hj11⟩ := own_jr hown11; have hl11 : ([(q : Int)] ++ m8).length ≤ 1000 := (by simp; omega); generalize ([(q : Int)] ++ m8).length = n11 at hv11 hj11 hl11; subst hv11; have HJ11 := Lib.hid hj11; clear hj11 hb11 hown11)
          | (go_at_call 22; have HSM := Lib.hid (jsame_any A5 A11 n5 n11 c5 c11 ((q : Int) :: m8) ((q : Int) :: m8) w11 (HJl.out.next HB11.out) HJ11.out (by omega) (by omega)); rw [decide_eq_true rfl] at HSM; refine HSM.out.mono ?_; rintro e w12 ⟨rfl, hb12⟩; have HB12 := Lib.hid (below_next HB11.out hb12); clear hb12))
        go_ret
        exact ⟨rfl, HB4.out.trans ((HB8.out.trans ((HB10.out.trans (HB12.out.mono HB10.out.size)).mono HB8.out.size)).mono HB4.out.size)⟩
      · subst h1
        go_upto_region 18 with (go_at_call 43; refine HT3.out.mono ?_; rintro e w9 ⟨rfl, hb9⟩; have HB9 := Lib.hid hb9; clear hb9)
        have HB10 := Lib.hid (HB9.out.alloc HB9.out.size (.cells #[.int .i64 i3, .int .i64 u3, .int .i64 c3, .bool t3] 74))
        generalize w9.alloc (.cells #[.int .i64 i3, .int .i64 u3, .int .i64 c3, .bool t3] 74) = W10 at *
        clear y2 z0 n1
        have HEX := Lib.hid (HB4.out.trans ((HB8.out.trans (HB10.out.mono HB8.out.size)).mono HB4.out.size))
        cases go8 with
        | false =>
          go_wp2
          go_ret
          exact ⟨rfl, HEX.out⟩
        | true =>
          cases ok3 with
          | false =>
            go_wp2
            go_ret
            exact ⟨rfl, HEX.out⟩
          | true =>
            have hcn : m8.contains (q : Int) = true := by
              rcases h3 with h | h
              · cases h
              · exact List.contains_iff_mem.2 h
            have HAM := Lib.hid (among_any A8 _ c8 m8 (q : Int) W10 (HJ8.out.next HB10.out) (by omega))
            rw [hcn] at HAM
            go_wp2_with (go_at_call 52; refine HAM.out.mono ?_; rintro e w11 ⟨rfl, hb11⟩; have HB11 := Lib.hid (below_next HEX.out hb11); clear hb11)
            go_ret
            exact ⟨rfl, HB11.out⟩
end Go.Proofs.YtojahaphkjdenaaGreatDoor

