/- Contracts of conf's check of sources. Contract of conf's check of members. -/
import Derived.Test.YtdljpokhcfhhfaaGreatDoorVa
import Derived.Test.YtdljpokhcfhhfaaGreatDoorTall
namespace Go.Proofs.YtdljpokhcfhhfaaGreatDoor
open Go.RowKit Go.Lib Lx
set_option maxHeartbeats 1000000 in
theorem taken_any (l s q : Int) (Ap : Option Addr) (np cp : Nat) (ps : List (Int × Int × Int)) (A : Option Addr) (n c : Nat) (ah : List (Int × Int × Int)) (w : World) (hp : IPort w Ap np ps) (ha : ISource w A n ah) (hn : n ≤ 1000) (hnp : np ≤ 1000000) :
    Calls Tryz.prog 178 #[.agg #[.int .i64 l, .int .u32 s, .int .u32 q], .slice Ap np cp, .slice A n c] w fun e w' => e = .returned (.bool (ps.any (fun y => y.2.2 == s) || ah.any (fun y => (y.2.1 == s && y.2.2 == q) || (y.2.1 == s && !(y.1 == l))))) ∧ Below w.heap.size w w' := by
  have HB0 := Lib.hid (show Below w.heap.size w (w.alloc (.cells #[.int .i64 l, .int .u32 s, .int .u32 q] 147)) from (Below.refl _ _).alloc (Nat.le_refl _) _)
  have HK0 := Lib.hid (show Blk (w.alloc (.cells #[.int .i64 l, .int .u32 s, .int .u32 q] 147)) w.heap.size 147 #[.int .i64 l, .int .u32 s, .int .u32 q] from Blk.new _ _ _)
  have H1 := Lib.hid (fun W (hB : Below w.heap.size w W) (hK : Blk W w.heap.size 147 #[.int .i64 l, .int .u32 s, .int .u32 q]) => hasPort 220 #[.pointer (some ⟨w.heap.size, 0, none⟩)] (enters_of Tryz.func220 (by kernel_rfl) rfl) (fun y => y.2.2 == s) Ap np cp ps W (hp.next hB) hnp
    (fun W2 i x _ hb => taken1 l s q x.1 x.2.1 x.2.2 w.heap.size W2 (Blk.cell (hK.next hb) 0) (Blk.cell (hK.next hb) 1) (Blk.cell (hK.next hb) 2)))
  have H2 := Lib.hid (fun W (hB : Below w.heap.size w W) (hK : Blk W w.heap.size 147 #[.int .i64 l, .int .u32 s, .int .u32 q]) => hasSource 222 #[.pointer (some ⟨w.heap.size, 0, none⟩)] (enters_of Tryz.func222 (by kernel_rfl) rfl) (fun y => (y.2.1 == s && y.2.2 == q) || (y.2.1 == s && !(y.1 == l))) A n c ah W (ha.next hB) (by omega)
    (fun W2 i x _ hb => taken2 l s q x.1 x.2.1 x.2.2 w.heap.size W2 (Blk.cell (hK.next hb) 0) (Blk.cell (hK.next hb) 1) (Blk.cell (hK.next hb) 2)))
  clear hp ha
  generalize ps.any (fun y => y.2.2 == s) = p at *
  generalize ah.any (fun y => (y.2.1 == s && y.2.2 == q) || (y.2.1 == s && !(y.1 == l))) = r at *
  cases p with
  | true =>
    rw [Bool.true_or]
    go_enter Tryz.func178, Tryz.ntmps178
    go_wp2_with (go_at_call 166; refine (H1.out _ HB0.out HK0.out).mono ?_; rintro e w1 ⟨rfl, hb⟩)
    go_ret
    exact ⟨rfl, below_next HB0.out hb⟩
  | false =>
    rw [Bool.false_or]
    go_enter Tryz.func178, Tryz.ntmps178
    go_wp2_with (first
      | (go_at_call 166; refine (H1.out _ HB0.out HK0.out).mono ?_; rintro e w1 ⟨rfl, hb⟩; have HB1 := Lib.hid (below_next HB0.out hb); have HK1 := Lib.hid (HK0.out.next hb); clear hb)
      | (go_at_call 221; refine (H2.out _ HB1.out HK1.out).mono ?_; rintro e w2 ⟨rfl, hb⟩; have HB2 := Lib.hid (below_next HB1.out hb)))
    go_ret
    exact ⟨rfl, HB2.out⟩
set_option maxHeartbeats 2000000 in
theorem sources1_any (ads : List Addr) (l s q : Int) (A : Option Addr) (n c : Nat) (ah : List (Int × Int × Int)) (cb : Nat) (Al : Option Addr) (nl cl : Nat) (ls : List (List UInt8 × Int × Int)) (Ap : Option Addr) (np cp : Nat) (ps : List (Int × Int × Int)) (w : World) (hS : EnvC ads w) (ha : ISource w A n ah) (hn : n ≤ 1000)
    (hL : ILink w Al nl ls) (hU : ∀ y ∈ ls, 0 ≤ y.2.1 ∧ y.2.1 ≤ 4294967295) (hp : IPort w Ap np ps) (hnp : np ≤ 1000000) (hY1 : w.cell? ⟨cb, 1, none⟩ = some (.slice Al nl cl)) (hY2 : w.cell? ⟨cb, 2, none⟩ = some (.slice Ap np cp)) (h0 : 0 ≤ s) (h1 : s ≤ 4294967295) (q0 : 0 ≤ q) (q1 : q ≤ 4294967295) :
    Calls Tryz.prog 176 #[.agg #[.int .i64 l, .int .u32 s, .int .u32 q], .slice A n c, .pointer (some ⟨cb, 0, none⟩)] w fun e w' => e = .returned (erS ads (scode ls ps (l, s, q) ah)) ∧ Below w.heap.size w w' := by
  have HS := Lib.hid hS
  have HB0 := Lib.hid (show Below w.heap.size w (w.alloc (.cells #[.int .i64 l, .int .u32 s, .int .u32 q] 147)) from (Below.refl _ _).alloc (Nat.le_refl _) _)
  have HK0 := Lib.hid (show Blk (w.alloc (.cells #[.int .i64 l, .int .u32 s, .int .u32 q] 147)) w.heap.size 147 #[.int .i64 l, .int .u32 s, .int .u32 q] from Blk.new _ _ _)
  have G110 : Hid (∀ W, Below w.heap.size w W → W.cell? ⟨0, 0, none⟩ = some (erS ads 110)) := fun W hb => erS_cell (hS.below hb) (j := 9) (by decide) rfl
  have G111 : Hid (∀ W, Below w.heap.size w W → W.cell? ⟨3, 0, none⟩ = some (erS ads 111)) := fun W hb => erS_cell (hS.below hb) (j := 10) (by decide) rfl
  have G112 : Hid (∀ W, Below w.heap.size w W → W.cell? ⟨4, 0, none⟩ = some (erS ads 112)) := fun W hb => erS_cell (hS.below hb) (j := 11) (by decide) rfl
  have G113 : Hid (∀ W, Below w.heap.size w W → W.cell? ⟨2, 0, none⟩ = some (erS ads 113)) := fun W hb => erS_cell (hS.below hb) (j := 12) (by decide) rfl
  have Y1 : Hid (∀ W, Below w.heap.size w W → W.cell? ⟨cb, 1, none⟩ = some (.slice Al nl cl)) := fun W hb => (hb.cell (World.block_lt_of_cell? _ _ hY1)).trans hY1
  have Y2 : Hid (∀ W, Below w.heap.size w W → W.cell? ⟨cb, 2, none⟩ = some (.slice Ap np cp)) := fun W hb => (hb.cell (World.block_lt_of_cell? _ _ hY2)).trans hY2
  clear hS hY1 hY2
  have hln : ls.length = nl := hL.len
  have HP2 := Lib.hid (fun W => placedL_any l Al nl cl W)
  have HG := Lib.hid (fun W => group_any q W q0 q1)
  have HT := Lib.hid (fun W (hB : Below w.heap.size w W) => taken_any l s q Ap np cp ps A n c ah W (hp.next hB) (ha.next hB) hn hnp)
  clear ha hp q0 q1
  cases hp2 : plOk l nl with
  | false =>
    clear hL hU
    have e : scode ls ps (l, s, q) ah = 111 := by
      unfold scode
      simp only [hp2, hln]
      try rfl
    rw [e]
    rw [hp2] at HP2
    clear e hp2
    generalize erS ads 110 = E110 at *
    generalize erS ads 111 = E111 at *
    generalize erS ads 112 = E112 at *
    generalize erS ads 113 = E113 at *
    have g1100 : (w.alloc (.cells #[.int .i64 l, .int .u32 s, .int .u32 q] 147)).cell? ⟨0, 0, none⟩ = some E110 := G110.out (w.alloc (.cells #[.int .i64 l, .int .u32 s, .int .u32 q] 147)) HB0.out
    have g1110 : (w.alloc (.cells #[.int .i64 l, .int .u32 s, .int .u32 q] 147)).cell? ⟨3, 0, none⟩ = some E111 := G111.out (w.alloc (.cells #[.int .i64 l, .int .u32 s, .int .u32 q] 147)) HB0.out
    have g1120 : (w.alloc (.cells #[.int .i64 l, .int .u32 s, .int .u32 q] 147)).cell? ⟨4, 0, none⟩ = some E112 := G112.out (w.alloc (.cells #[.int .i64 l, .int .u32 s, .int .u32 q] 147)) HB0.out
    have g1130 : (w.alloc (.cells #[.int .i64 l, .int .u32 s, .int .u32 q] 147)).cell? ⟨2, 0, none⟩ = some E113 := G113.out (w.alloc (.cells #[.int .i64 l, .int .u32 s, .int .u32 q] 147)) HB0.out
    have y10 : (w.alloc (.cells #[.int .i64 l, .int .u32 s, .int .u32 q] 147)).cell? ⟨cb, 1, none⟩ = some (.slice Al nl cl) := Y1.out (w.alloc (.cells #[.int .i64 l, .int .u32 s, .int .u32 q] 147)) HB0.out
    have y20 : (w.alloc (.cells #[.int .i64 l, .int .u32 s, .int .u32 q] 147)).cell? ⟨cb, 2, none⟩ = some (.slice Ap np cp) := Y2.out (w.alloc (.cells #[.int .i64 l, .int .u32 s, .int .u32 q] 147)) HB0.out
    go_enter Tryz.func176, Tryz.ntmps176
    go_wp2_with (first
      | (go_at_call 164; refine (HP2.out _).mono ?_; rintro e w2 ⟨rfl, rfl⟩))
    go_ret
    exact ⟨rfl, HB0.out⟩
  | true =>
    obtain ⟨m, rfl, hm⟩ : ∃ m : Nat, l = (m : Int) ∧ m < nl := by
      unfold plOk at hp2; simp only [decide_eq_true_eq] at hp2; exact ⟨l.toNat, by omega, by omega⟩
    have hlm : (m : Int) < (nl : Int) := by omega
    obtain ⟨bq, oq, ⟨s1, a1, b1⟩, rfl, hbq, hy, hz0, hz1, hz2⟩ := ILink.cells hL hm
    have hu := hU (s1, a1, b1) (List.mem_of_getElem? hy)
    have hg : ls.getD m ([], 0, 0) = (s1, a1, b1) := by rw [List.getD_eq_getElem?_getD, hy]; rfl
    have Z0 : Hid (∀ W, Below w.heap.size w W → W.cell? ⟨bq, oq + m * 3, none⟩ = some (.string (str s1))) := fun W hb => (hb.cell (World.block_lt_of_cell? _ _ hz0)).trans hz0
    have Z1 : Hid (∀ W, Below w.heap.size w W → W.cell? ⟨bq, oq + m * 3 + 1, none⟩ = some (.int .u32 a1)) := fun W hb => (hb.cell (World.block_lt_of_cell? _ _ hz1)).trans hz1
    have Z2 : Hid (∀ W, Below w.heap.size w W → W.cell? ⟨bq, oq + m * 3 + 2, none⟩ = some (.int .i64 b1)) := fun W hb => (hb.cell (World.block_lt_of_cell? _ _ hz2)).trans hz2
    have HO := Lib.hid (fun W => on_any (str s1) a1 b1 s W hu.1 hu.2 h0 h1)
    have hon : onL (s1, a1, b1) s = (decide (s ≠ 0) && Ad.isIn a1 b1 s) := rfl
    rw [← hon] at HO
    clear hon hz0 hz1 hz2 hy hu hL hU hm h0 h1
    cases ho : onL (s1, a1, b1) s with
    | false =>
      have e : scode ls ps ((m : Int), s, q) ah = 112 := by
        unfold scode
        simp only [hp2, ho, hln, hg, Int.toNat_natCast]
        try rfl
      rw [e]
      rw [hp2] at HP2
      rw [ho] at HO
      clear e hp2 ho
      generalize erS ads 110 = E110 at *
      generalize erS ads 111 = E111 at *
      generalize erS ads 112 = E112 at *
      generalize erS ads 113 = E113 at *
      have g1100 : (w.alloc (.cells #[.int .i64 (m : Int), .int .u32 s, .int .u32 q] 147)).cell? ⟨0, 0, none⟩ = some E110 := G110.out (w.alloc (.cells #[.int .i64 (m : Int), .int .u32 s, .int .u32 q] 147)) HB0.out
      have g1110 : (w.alloc (.cells #[.int .i64 (m : Int), .int .u32 s, .int .u32 q] 147)).cell? ⟨3, 0, none⟩ = some E111 := G111.out (w.alloc (.cells #[.int .i64 (m : Int), .int .u32 s, .int .u32 q] 147)) HB0.out
      have g1120 : (w.alloc (.cells #[.int .i64 (m : Int), .int .u32 s, .int .u32 q] 147)).cell? ⟨4, 0, none⟩ = some E112 := G112.out (w.alloc (.cells #[.int .i64 (m : Int), .int .u32 s, .int .u32 q] 147)) HB0.out
      have g1130 : (w.alloc (.cells #[.int .i64 (m : Int), .int .u32 s, .int .u32 q] 147)).cell? ⟨2, 0, none⟩ = some E113 := G113.out (w.alloc (.cells #[.int .i64 (m : Int), .int .u32 s, .int .u32 q] 147)) HB0.out
      have y10 : (w.alloc (.cells #[.int .i64 (m : Int), .int .u32 s, .int .u32 q] 147)).cell? ⟨cb, 1, none⟩ = some (.slice (some ⟨bq, oq, none⟩) nl cl) := Y1.out (w.alloc (.cells #[.int .i64 (m : Int), .int .u32 s, .int .u32 q] 147)) HB0.out
      have y20 : (w.alloc (.cells #[.int .i64 (m : Int), .int .u32 s, .int .u32 q] 147)).cell? ⟨cb, 2, none⟩ = some (.slice Ap np cp) := Y2.out (w.alloc (.cells #[.int .i64 (m : Int), .int .u32 s, .int .u32 q] 147)) HB0.out
      go_enter Tryz.func176, Tryz.ntmps176
      go_wp2_with (first
        | (go_at_call 164; refine (HP2.out _).mono ?_; rintro e w2 ⟨rfl, rfl⟩))
      have hBW := HB0.out
      generalize (w.alloc (.cells #[.int .i64 (m : Int), .int .u32 s, .int .u32 q] 147)) = W0 at *
      have k0 : ∀ W, Below W0.heap.size W0 W → W.cell? ⟨w.heap.size, 0, none⟩ = some (.int .i64 (m : Int)) := fun W hb => Blk.cell (HK0.out.next hb) 0
      have k1 : ∀ W, Below W0.heap.size W0 W → W.cell? ⟨w.heap.size, 1, none⟩ = some (.int .u32 s) := fun W hb => Blk.cell (HK0.out.next hb) 1
      have k2 : ∀ W, Below W0.heap.size W0 W → W.cell? ⟨w.heap.size, 2, none⟩ = some (.int .u32 q) := fun W hb => Blk.cell (HK0.out.next hb) 2
      have ky1 : ∀ W, Below W0.heap.size W0 W → W.cell? ⟨cb, 1, none⟩ = some (.slice (some ⟨bq, oq, none⟩) nl cl) := fun W hb => Y1.out W (below_next hBW hb)
      have kz0 : ∀ W, Below W0.heap.size W0 W → W.cell? ⟨bq, oq + m * 3, none⟩ = some (.string (str s1)) := fun W hb => Z0.out W (below_next hBW hb)
      have kz1 : ∀ W, Below W0.heap.size W0 W → W.cell? ⟨bq, oq + m * 3 + 1, none⟩ = some (.int .u32 a1) := fun W hb => Z1.out W (below_next hBW hb)
      have kz2 : ∀ W, Below W0.heap.size W0 W → W.cell? ⟨bq, oq + m * 3 + 2, none⟩ = some (.int .i64 b1) := fun W hb => Z2.out W (below_next hBW hb)
      have hS0 : Below W0.heap.size W0 W0.drew := (Below.refl _ _).drew
      go_region_held3 (fun w' => Below W0.heap.size W0 w')
        (first | with_reducible assumption | exact (Below.refl _ _).drew)
        (first | (go_at_call 165; refine (HO.out _).mono ?_; rintro e wa ⟨rfl, hb⟩; have hb2 := below_next (w := W0) (by with_reducible assumption) hb))
      have HB3 := Lib.hid (below_next hBW hb2)
      have HK3 := Lib.hid (HK0.out.next hb2)
      clear hb hb2 hBW kz0 kz1 kz2 hS0 k0 k1 k2 ky1
      have g1103 : wa.cell? ⟨0, 0, none⟩ = some E110 := G110.out wa HB3.out
      have g1113 : wa.cell? ⟨3, 0, none⟩ = some E111 := G111.out wa HB3.out
      have g1123 : wa.cell? ⟨4, 0, none⟩ = some E112 := G112.out wa HB3.out
      have g1133 : wa.cell? ⟨2, 0, none⟩ = some E113 := G113.out wa HB3.out
      have x03 : wa.cell? ⟨w.heap.size, 0, none⟩ = some (.int .i64 (m : Int)) := Blk.cell HK3.out 0
      have x13 : wa.cell? ⟨w.heap.size, 1, none⟩ = some (.int .u32 s) := Blk.cell HK3.out 1
      have x23 : wa.cell? ⟨w.heap.size, 2, none⟩ = some (.int .u32 q) := Blk.cell HK3.out 2
      have y13 : wa.cell? ⟨cb, 1, none⟩ = some (.slice (some ⟨bq, oq, none⟩) nl cl) := Y1.out wa HB3.out
      have y23 : wa.cell? ⟨cb, 2, none⟩ = some (.slice Ap np cp) := Y2.out wa HB3.out
      go_wp2
      go_ret
      exact ⟨rfl, HB3.out⟩
    | true =>
      cases hgr : Ad.group q with
      | false =>
        have e : scode ls ps ((m : Int), s, q) ah = 113 := by
          unfold scode
          simp only [hp2, ho, hgr, hln, hg, Int.toNat_natCast]
          try rfl
        rw [e]
        rw [hp2] at HP2
        rw [ho] at HO
        rw [hgr] at HG
        clear e hp2 ho hgr
        generalize erS ads 110 = E110 at *
        generalize erS ads 111 = E111 at *
        generalize erS ads 112 = E112 at *
        generalize erS ads 113 = E113 at *
        have g1100 : (w.alloc (.cells #[.int .i64 (m : Int), .int .u32 s, .int .u32 q] 147)).cell? ⟨0, 0, none⟩ = some E110 := G110.out (w.alloc (.cells #[.int .i64 (m : Int), .int .u32 s, .int .u32 q] 147)) HB0.out
        have g1110 : (w.alloc (.cells #[.int .i64 (m : Int), .int .u32 s, .int .u32 q] 147)).cell? ⟨3, 0, none⟩ = some E111 := G111.out (w.alloc (.cells #[.int .i64 (m : Int), .int .u32 s, .int .u32 q] 147)) HB0.out
        have g1120 : (w.alloc (.cells #[.int .i64 (m : Int), .int .u32 s, .int .u32 q] 147)).cell? ⟨4, 0, none⟩ = some E112 := G112.out (w.alloc (.cells #[.int .i64 (m : Int), .int .u32 s, .int .u32 q] 147)) HB0.out
        have g1130 : (w.alloc (.cells #[.int .i64 (m : Int), .int .u32 s, .int .u32 q] 147)).cell? ⟨2, 0, none⟩ = some E113 := G113.out (w.alloc (.cells #[.int .i64 (m : Int), .int .u32 s, .int .u32 q] 147)) HB0.out
        have y10 : (w.alloc (.cells #[.int .i64 (m : Int), .int .u32 s, .int .u32 q] 147)).cell? ⟨cb, 1, none⟩ = some (.slice (some ⟨bq, oq, none⟩) nl cl) := Y1.out (w.alloc (.cells #[.int .i64 (m : Int), .int .u32 s, .int .u32 q] 147)) HB0.out
        have y20 : (w.alloc (.cells #[.int .i64 (m : Int), .int .u32 s, .int .u32 q] 147)).cell? ⟨cb, 2, none⟩ = some (.slice Ap np cp) := Y2.out (w.alloc (.cells #[.int .i64 (m : Int), .int .u32 s, .int .u32 q] 147)) HB0.out
        go_enter Tryz.func176, Tryz.ntmps176
        go_wp2_with (first
          | (go_at_call 164; refine (HP2.out _).mono ?_; rintro e w2 ⟨rfl, rfl⟩))
        have hBW := HB0.out
        generalize (w.alloc (.cells #[.int .i64 (m : Int), .int .u32 s, .int .u32 q] 147)) = W0 at *
        have k0 : ∀ W, Below W0.heap.size W0 W → W.cell? ⟨w.heap.size, 0, none⟩ = some (.int .i64 (m : Int)) := fun W hb => Blk.cell (HK0.out.next hb) 0
        have k1 : ∀ W, Below W0.heap.size W0 W → W.cell? ⟨w.heap.size, 1, none⟩ = some (.int .u32 s) := fun W hb => Blk.cell (HK0.out.next hb) 1
        have k2 : ∀ W, Below W0.heap.size W0 W → W.cell? ⟨w.heap.size, 2, none⟩ = some (.int .u32 q) := fun W hb => Blk.cell (HK0.out.next hb) 2
        have ky1 : ∀ W, Below W0.heap.size W0 W → W.cell? ⟨cb, 1, none⟩ = some (.slice (some ⟨bq, oq, none⟩) nl cl) := fun W hb => Y1.out W (below_next hBW hb)
        have kz0 : ∀ W, Below W0.heap.size W0 W → W.cell? ⟨bq, oq + m * 3, none⟩ = some (.string (str s1)) := fun W hb => Z0.out W (below_next hBW hb)
        have kz1 : ∀ W, Below W0.heap.size W0 W → W.cell? ⟨bq, oq + m * 3 + 1, none⟩ = some (.int .u32 a1) := fun W hb => Z1.out W (below_next hBW hb)
        have kz2 : ∀ W, Below W0.heap.size W0 W → W.cell? ⟨bq, oq + m * 3 + 2, none⟩ = some (.int .i64 b1) := fun W hb => Z2.out W (below_next hBW hb)
        have hS0 : Below W0.heap.size W0 W0.drew := (Below.refl _ _).drew
        go_region_held3 (fun w' => Below W0.heap.size W0 w')
          (first | with_reducible assumption | exact (Below.refl _ _).drew)
          (first | (go_at_call 165; refine (HO.out _).mono ?_; rintro e wa ⟨rfl, hb⟩; have hb2 := below_next (w := W0) (by with_reducible assumption) hb))
        have HB3 := Lib.hid (below_next hBW hb2)
        have HK3 := Lib.hid (HK0.out.next hb2)
        clear hb hb2 hBW kz0 kz1 kz2 hS0 k0 k1 k2 ky1
        have g1103 : wa.cell? ⟨0, 0, none⟩ = some E110 := G110.out wa HB3.out
        have g1113 : wa.cell? ⟨3, 0, none⟩ = some E111 := G111.out wa HB3.out
        have g1123 : wa.cell? ⟨4, 0, none⟩ = some E112 := G112.out wa HB3.out
        have g1133 : wa.cell? ⟨2, 0, none⟩ = some E113 := G113.out wa HB3.out
        have x03 : wa.cell? ⟨w.heap.size, 0, none⟩ = some (.int .i64 (m : Int)) := Blk.cell HK3.out 0
        have x13 : wa.cell? ⟨w.heap.size, 1, none⟩ = some (.int .u32 s) := Blk.cell HK3.out 1
        have x23 : wa.cell? ⟨w.heap.size, 2, none⟩ = some (.int .u32 q) := Blk.cell HK3.out 2
        have y13 : wa.cell? ⟨cb, 1, none⟩ = some (.slice (some ⟨bq, oq, none⟩) nl cl) := Y1.out wa HB3.out
        have y23 : wa.cell? ⟨cb, 2, none⟩ = some (.slice Ap np cp) := Y2.out wa HB3.out
        go_wp2_with (first
          | (go_at_call 177; refine (HG.out _).mono ?_; rintro e w4 ⟨rfl, rfl⟩))
        go_ret
        exact ⟨rfl, HB3.out⟩
      | true =>
        cases ht1 : ps.any (fun y => y.2.2 == s) with
        | true =>
          rw [ht1, Bool.true_or] at HT
          have e : scode ls ps ((m : Int), s, q) ah = 110 := by
            unfold scode
            simp only [hp2, ho, hgr, ht1, hln, hg, Int.toNat_natCast]
            try rfl
          rw [e]
          rw [hp2] at HP2
          rw [ho] at HO
          rw [hgr] at HG
          clear e hp2 ho hgr ht1
          generalize erS ads 110 = E110 at *
          generalize erS ads 111 = E111 at *
          generalize erS ads 112 = E112 at *
          generalize erS ads 113 = E113 at *
          have g1100 : (w.alloc (.cells #[.int .i64 (m : Int), .int .u32 s, .int .u32 q] 147)).cell? ⟨0, 0, none⟩ = some E110 := G110.out (w.alloc (.cells #[.int .i64 (m : Int), .int .u32 s, .int .u32 q] 147)) HB0.out
          have g1110 : (w.alloc (.cells #[.int .i64 (m : Int), .int .u32 s, .int .u32 q] 147)).cell? ⟨3, 0, none⟩ = some E111 := G111.out (w.alloc (.cells #[.int .i64 (m : Int), .int .u32 s, .int .u32 q] 147)) HB0.out
          have g1120 : (w.alloc (.cells #[.int .i64 (m : Int), .int .u32 s, .int .u32 q] 147)).cell? ⟨4, 0, none⟩ = some E112 := G112.out (w.alloc (.cells #[.int .i64 (m : Int), .int .u32 s, .int .u32 q] 147)) HB0.out
          have g1130 : (w.alloc (.cells #[.int .i64 (m : Int), .int .u32 s, .int .u32 q] 147)).cell? ⟨2, 0, none⟩ = some E113 := G113.out (w.alloc (.cells #[.int .i64 (m : Int), .int .u32 s, .int .u32 q] 147)) HB0.out
          have y10 : (w.alloc (.cells #[.int .i64 (m : Int), .int .u32 s, .int .u32 q] 147)).cell? ⟨cb, 1, none⟩ = some (.slice (some ⟨bq, oq, none⟩) nl cl) := Y1.out (w.alloc (.cells #[.int .i64 (m : Int), .int .u32 s, .int .u32 q] 147)) HB0.out
          have y20 : (w.alloc (.cells #[.int .i64 (m : Int), .int .u32 s, .int .u32 q] 147)).cell? ⟨cb, 2, none⟩ = some (.slice Ap np cp) := Y2.out (w.alloc (.cells #[.int .i64 (m : Int), .int .u32 s, .int .u32 q] 147)) HB0.out
          go_enter Tryz.func176, Tryz.ntmps176
          go_wp2_with (first
            | (go_at_call 164; refine (HP2.out _).mono ?_; rintro e w2 ⟨rfl, rfl⟩))
          have hBW := HB0.out
          generalize (w.alloc (.cells #[.int .i64 (m : Int), .int .u32 s, .int .u32 q] 147)) = W0 at *
          have k0 : ∀ W, Below W0.heap.size W0 W → W.cell? ⟨w.heap.size, 0, none⟩ = some (.int .i64 (m : Int)) := fun W hb => Blk.cell (HK0.out.next hb) 0
          have k1 : ∀ W, Below W0.heap.size W0 W → W.cell? ⟨w.heap.size, 1, none⟩ = some (.int .u32 s) := fun W hb => Blk.cell (HK0.out.next hb) 1
          have k2 : ∀ W, Below W0.heap.size W0 W → W.cell? ⟨w.heap.size, 2, none⟩ = some (.int .u32 q) := fun W hb => Blk.cell (HK0.out.next hb) 2
          have ky1 : ∀ W, Below W0.heap.size W0 W → W.cell? ⟨cb, 1, none⟩ = some (.slice (some ⟨bq, oq, none⟩) nl cl) := fun W hb => Y1.out W (below_next hBW hb)
          have kz0 : ∀ W, Below W0.heap.size W0 W → W.cell? ⟨bq, oq + m * 3, none⟩ = some (.string (str s1)) := fun W hb => Z0.out W (below_next hBW hb)
          have kz1 : ∀ W, Below W0.heap.size W0 W → W.cell? ⟨bq, oq + m * 3 + 1, none⟩ = some (.int .u32 a1) := fun W hb => Z1.out W (below_next hBW hb)
          have kz2 : ∀ W, Below W0.heap.size W0 W → W.cell? ⟨bq, oq + m * 3 + 2, none⟩ = some (.int .i64 b1) := fun W hb => Z2.out W (below_next hBW hb)
          have hS0 : Below W0.heap.size W0 W0.drew := (Below.refl _ _).drew
          go_region_held3 (fun w' => Below W0.heap.size W0 w')
            (first | with_reducible assumption | exact (Below.refl _ _).drew)
            (first | (go_at_call 165; refine (HO.out _).mono ?_; rintro e wa ⟨rfl, hb⟩; have hb2 := below_next (w := W0) (by with_reducible assumption) hb))
          have HB3 := Lib.hid (below_next hBW hb2)
          have HK3 := Lib.hid (HK0.out.next hb2)
          clear hb hb2 hBW kz0 kz1 kz2 hS0 k0 k1 k2 ky1
          have g1103 : wa.cell? ⟨0, 0, none⟩ = some E110 := G110.out wa HB3.out
          have g1113 : wa.cell? ⟨3, 0, none⟩ = some E111 := G111.out wa HB3.out
          have g1123 : wa.cell? ⟨4, 0, none⟩ = some E112 := G112.out wa HB3.out
          have g1133 : wa.cell? ⟨2, 0, none⟩ = some E113 := G113.out wa HB3.out
          have x03 : wa.cell? ⟨w.heap.size, 0, none⟩ = some (.int .i64 (m : Int)) := Blk.cell HK3.out 0
          have x13 : wa.cell? ⟨w.heap.size, 1, none⟩ = some (.int .u32 s) := Blk.cell HK3.out 1
          have x23 : wa.cell? ⟨w.heap.size, 2, none⟩ = some (.int .u32 q) := Blk.cell HK3.out 2
          have y13 : wa.cell? ⟨cb, 1, none⟩ = some (.slice (some ⟨bq, oq, none⟩) nl cl) := Y1.out wa HB3.out
          have y23 : wa.cell? ⟨cb, 2, none⟩ = some (.slice Ap np cp) := Y2.out wa HB3.out
          go_wp2_with (first
            | (go_at_call 177; refine (HG.out _).mono ?_; rintro e w4 ⟨rfl, rfl⟩)
            | (go_at_call 178; refine (HT.out _ HB3.out).mono ?_; rintro e w5 ⟨rfl, hb⟩
               have HB5 := Lib.hid (below_next HB3.out hb)
               have HK5 := Lib.hid (HK3.out.next hb)
               have g1105 : w5.cell? ⟨0, 0, none⟩ = some E110 := G110.out w5 HB5.out
               have g1115 : w5.cell? ⟨3, 0, none⟩ = some E111 := G111.out w5 HB5.out
               have g1125 : w5.cell? ⟨4, 0, none⟩ = some E112 := G112.out w5 HB5.out
               have g1135 : w5.cell? ⟨2, 0, none⟩ = some E113 := G113.out w5 HB5.out
               have x05 : w5.cell? ⟨w.heap.size, 0, none⟩ = some (.int .i64 (m : Int)) := Blk.cell HK5.out 0
               have x15 : w5.cell? ⟨w.heap.size, 1, none⟩ = some (.int .u32 s) := Blk.cell HK5.out 1
               have x25 : w5.cell? ⟨w.heap.size, 2, none⟩ = some (.int .u32 q) := Blk.cell HK5.out 2
               have y15 : w5.cell? ⟨cb, 1, none⟩ = some (.slice (some ⟨bq, oq, none⟩) nl cl) := Y1.out w5 HB5.out
               have y25 : w5.cell? ⟨cb, 2, none⟩ = some (.slice Ap np cp) := Y2.out w5 HB5.out
               clear hb))
          go_ret
          exact ⟨rfl, HB5.out⟩
        | false =>
          cases ht2 : ah.any (fun y => (y.2.1 == s && y.2.2 == q) || (y.2.1 == s && !(y.1 == (m : Int)))) with
          | true =>
            rw [ht1, ht2, Bool.false_or] at HT
            have e : scode ls ps ((m : Int), s, q) ah = 110 := by
              unfold scode
              simp only [hp2, ho, hgr, ht1, ht2, hln, hg, Int.toNat_natCast]
              try rfl
            rw [e]
            rw [hp2] at HP2
            rw [ho] at HO
            rw [hgr] at HG
            clear e hp2 ho hgr ht1 ht2
            generalize erS ads 110 = E110 at *
            generalize erS ads 111 = E111 at *
            generalize erS ads 112 = E112 at *
            generalize erS ads 113 = E113 at *
            have g1100 : (w.alloc (.cells #[.int .i64 (m : Int), .int .u32 s, .int .u32 q] 147)).cell? ⟨0, 0, none⟩ = some E110 := G110.out (w.alloc (.cells #[.int .i64 (m : Int), .int .u32 s, .int .u32 q] 147)) HB0.out
            have g1110 : (w.alloc (.cells #[.int .i64 (m : Int), .int .u32 s, .int .u32 q] 147)).cell? ⟨3, 0, none⟩ = some E111 := G111.out (w.alloc (.cells #[.int .i64 (m : Int), .int .u32 s, .int .u32 q] 147)) HB0.out
            have g1120 : (w.alloc (.cells #[.int .i64 (m : Int), .int .u32 s, .int .u32 q] 147)).cell? ⟨4, 0, none⟩ = some E112 := G112.out (w.alloc (.cells #[.int .i64 (m : Int), .int .u32 s, .int .u32 q] 147)) HB0.out
            have g1130 : (w.alloc (.cells #[.int .i64 (m : Int), .int .u32 s, .int .u32 q] 147)).cell? ⟨2, 0, none⟩ = some E113 := G113.out (w.alloc (.cells #[.int .i64 (m : Int), .int .u32 s, .int .u32 q] 147)) HB0.out
            have y10 : (w.alloc (.cells #[.int .i64 (m : Int), .int .u32 s, .int .u32 q] 147)).cell? ⟨cb, 1, none⟩ = some (.slice (some ⟨bq, oq, none⟩) nl cl) := Y1.out (w.alloc (.cells #[.int .i64 (m : Int), .int .u32 s, .int .u32 q] 147)) HB0.out
            have y20 : (w.alloc (.cells #[.int .i64 (m : Int), .int .u32 s, .int .u32 q] 147)).cell? ⟨cb, 2, none⟩ = some (.slice Ap np cp) := Y2.out (w.alloc (.cells #[.int .i64 (m : Int), .int .u32 s, .int .u32 q] 147)) HB0.out
            go_enter Tryz.func176, Tryz.ntmps176
            go_wp2_with (first
              | (go_at_call 164; refine (HP2.out _).mono ?_; rintro e w2 ⟨rfl, rfl⟩))
            have hBW := HB0.out
            generalize (w.alloc (.cells #[.int .i64 (m : Int), .int .u32 s, .int .u32 q] 147)) = W0 at *
            have k0 : ∀ W, Below W0.heap.size W0 W → W.cell? ⟨w.heap.size, 0, none⟩ = some (.int .i64 (m : Int)) := fun W hb => Blk.cell (HK0.out.next hb) 0
            have k1 : ∀ W, Below W0.heap.size W0 W → W.cell? ⟨w.heap.size, 1, none⟩ = some (.int .u32 s) := fun W hb => Blk.cell (HK0.out.next hb) 1
            have k2 : ∀ W, Below W0.heap.size W0 W → W.cell? ⟨w.heap.size, 2, none⟩ = some (.int .u32 q) := fun W hb => Blk.cell (HK0.out.next hb) 2
            have ky1 : ∀ W, Below W0.heap.size W0 W → W.cell? ⟨cb, 1, none⟩ = some (.slice (some ⟨bq, oq, none⟩) nl cl) := fun W hb => Y1.out W (below_next hBW hb)
            have kz0 : ∀ W, Below W0.heap.size W0 W → W.cell? ⟨bq, oq + m * 3, none⟩ = some (.string (str s1)) := fun W hb => Z0.out W (below_next hBW hb)
            have kz1 : ∀ W, Below W0.heap.size W0 W → W.cell? ⟨bq, oq + m * 3 + 1, none⟩ = some (.int .u32 a1) := fun W hb => Z1.out W (below_next hBW hb)
            have kz2 : ∀ W, Below W0.heap.size W0 W → W.cell? ⟨bq, oq + m * 3 + 2, none⟩ = some (.int .i64 b1) := fun W hb => Z2.out W (below_next hBW hb)
            have hS0 : Below W0.heap.size W0 W0.drew := (Below.refl _ _).drew
            go_region_held3 (fun w' => Below W0.heap.size W0 w')
              (first | with_reducible assumption | exact (Below.refl _ _).drew)
              (first | (go_at_call 165; refine (HO.out _).mono ?_; rintro e wa ⟨rfl, hb⟩; have hb2 := below_next (w := W0) (by with_reducible assumption) hb))
            have HB3 := Lib.hid (below_next hBW hb2)
            have HK3 := Lib.hid (HK0.out.next hb2)
            clear hb hb2 hBW kz0 kz1 kz2 hS0 k0 k1 k2 ky1
            have g1103 : wa.cell? ⟨0, 0, none⟩ = some E110 := G110.out wa HB3.out
            have g1113 : wa.cell? ⟨3, 0, none⟩ = some E111 := G111.out wa HB3.out
            have g1123 : wa.cell? ⟨4, 0, none⟩ = some E112 := G112.out wa HB3.out
            have g1133 : wa.cell? ⟨2, 0, none⟩ = some E113 := G113.out wa HB3.out
            have x03 : wa.cell? ⟨w.heap.size, 0, none⟩ = some (.int .i64 (m : Int)) := Blk.cell HK3.out 0
            have x13 : wa.cell? ⟨w.heap.size, 1, none⟩ = some (.int .u32 s) := Blk.cell HK3.out 1
            have x23 : wa.cell? ⟨w.heap.size, 2, none⟩ = some (.int .u32 q) := Blk.cell HK3.out 2
            have y13 : wa.cell? ⟨cb, 1, none⟩ = some (.slice (some ⟨bq, oq, none⟩) nl cl) := Y1.out wa HB3.out
            have y23 : wa.cell? ⟨cb, 2, none⟩ = some (.slice Ap np cp) := Y2.out wa HB3.out
            go_wp2_with (first
              | (go_at_call 177; refine (HG.out _).mono ?_; rintro e w4 ⟨rfl, rfl⟩)
              | (go_at_call 178; refine (HT.out _ HB3.out).mono ?_; rintro e w5 ⟨rfl, hb⟩
                 have HB5 := Lib.hid (below_next HB3.out hb)
                 have HK5 := Lib.hid (HK3.out.next hb)
                 have g1105 : w5.cell? ⟨0, 0, none⟩ = some E110 := G110.out w5 HB5.out
                 have g1115 : w5.cell? ⟨3, 0, none⟩ = some E111 := G111.out w5 HB5.out
                 have g1125 : w5.cell? ⟨4, 0, none⟩ = some E112 := G112.out w5 HB5.out
                 have g1135 : w5.cell? ⟨2, 0, none⟩ = some E113 := G113.out w5 HB5.out
                 have x05 : w5.cell? ⟨w.heap.size, 0, none⟩ = some (.int .i64 (m : Int)) := Blk.cell HK5.out 0
                 have x15 : w5.cell? ⟨w.heap.size, 1, none⟩ = some (.int .u32 s) := Blk.cell HK5.out 1
                 have x25 : w5.cell? ⟨w.heap.size, 2, none⟩ = some (.int .u32 q) := Blk.cell HK5.out 2
                 have y15 : w5.cell? ⟨cb, 1, none⟩ = some (.slice (some ⟨bq, oq, none⟩) nl cl) := Y1.out w5 HB5.out
                 have y25 : w5.cell? ⟨cb, 2, none⟩ = some (.slice Ap np cp) := Y2.out w5 HB5.out
                 clear hb))
            go_ret
            exact ⟨rfl, HB5.out⟩
          | false =>
            rw [ht1, ht2, Bool.false_or] at HT
            have e : scode ls ps ((m : Int), s, q) ah = 0 := by
              unfold scode
              simp only [hp2, ho, hgr, ht1, ht2, hln, hg, Int.toNat_natCast]
              try rfl
            rw [e]
            rw [hp2] at HP2
            rw [ho] at HO
            rw [hgr] at HG
            clear e hp2 ho hgr ht1 ht2
            have e0 : erS ads 0 = .nilIface := rfl
            rw [e0]
            clear e0
            generalize erS ads 110 = E110 at *
            generalize erS ads 111 = E111 at *
            generalize erS ads 112 = E112 at *
            generalize erS ads 113 = E113 at *
            have g1100 : (w.alloc (.cells #[.int .i64 (m : Int), .int .u32 s, .int .u32 q] 147)).cell? ⟨0, 0, none⟩ = some E110 := G110.out (w.alloc (.cells #[.int .i64 (m : Int), .int .u32 s, .int .u32 q] 147)) HB0.out
            have g1110 : (w.alloc (.cells #[.int .i64 (m : Int), .int .u32 s, .int .u32 q] 147)).cell? ⟨3, 0, none⟩ = some E111 := G111.out (w.alloc (.cells #[.int .i64 (m : Int), .int .u32 s, .int .u32 q] 147)) HB0.out
            have g1120 : (w.alloc (.cells #[.int .i64 (m : Int), .int .u32 s, .int .u32 q] 147)).cell? ⟨4, 0, none⟩ = some E112 := G112.out (w.alloc (.cells #[.int .i64 (m : Int), .int .u32 s, .int .u32 q] 147)) HB0.out
            have g1130 : (w.alloc (.cells #[.int .i64 (m : Int), .int .u32 s, .int .u32 q] 147)).cell? ⟨2, 0, none⟩ = some E113 := G113.out (w.alloc (.cells #[.int .i64 (m : Int), .int .u32 s, .int .u32 q] 147)) HB0.out
            have y10 : (w.alloc (.cells #[.int .i64 (m : Int), .int .u32 s, .int .u32 q] 147)).cell? ⟨cb, 1, none⟩ = some (.slice (some ⟨bq, oq, none⟩) nl cl) := Y1.out (w.alloc (.cells #[.int .i64 (m : Int), .int .u32 s, .int .u32 q] 147)) HB0.out
            have y20 : (w.alloc (.cells #[.int .i64 (m : Int), .int .u32 s, .int .u32 q] 147)).cell? ⟨cb, 2, none⟩ = some (.slice Ap np cp) := Y2.out (w.alloc (.cells #[.int .i64 (m : Int), .int .u32 s, .int .u32 q] 147)) HB0.out
            go_enter Tryz.func176, Tryz.ntmps176
            go_wp2_with (first
              | (go_at_call 164; refine (HP2.out _).mono ?_; rintro e w2 ⟨rfl, rfl⟩))
            have hBW := HB0.out
            generalize (w.alloc (.cells #[.int .i64 (m : Int), .int .u32 s, .int .u32 q] 147)) = W0 at *
            have k0 : ∀ W, Below W0.heap.size W0 W → W.cell? ⟨w.heap.size, 0, none⟩ = some (.int .i64 (m : Int)) := fun W hb => Blk.cell (HK0.out.next hb) 0
            have k1 : ∀ W, Below W0.heap.size W0 W → W.cell? ⟨w.heap.size, 1, none⟩ = some (.int .u32 s) := fun W hb => Blk.cell (HK0.out.next hb) 1
            have k2 : ∀ W, Below W0.heap.size W0 W → W.cell? ⟨w.heap.size, 2, none⟩ = some (.int .u32 q) := fun W hb => Blk.cell (HK0.out.next hb) 2
            have ky1 : ∀ W, Below W0.heap.size W0 W → W.cell? ⟨cb, 1, none⟩ = some (.slice (some ⟨bq, oq, none⟩) nl cl) := fun W hb => Y1.out W (below_next hBW hb)
            have kz0 : ∀ W, Below W0.heap.size W0 W → W.cell? ⟨bq, oq + m * 3, none⟩ = some (.string (str s1)) := fun W hb => Z0.out W (below_next hBW hb)
            have kz1 : ∀ W, Below W0.heap.size W0 W → W.cell? ⟨bq, oq + m * 3 + 1, none⟩ = some (.int .u32 a1) := fun W hb => Z1.out W (below_next hBW hb)
            have kz2 : ∀ W, Below W0.heap.size W0 W → W.cell? ⟨bq, oq + m * 3 + 2, none⟩ = some (.int .i64 b1) := fun W hb => Z2.out W (below_next hBW hb)
            have hS0 : Below W0.heap.size W0 W0.drew := (Below.refl _ _).drew
            go_region_held3 (fun w' => Below W0.heap.size W0 w')
              (first | with_reducible assumption | exact (Below.refl _ _).drew)
              (first | (go_at_call 165; refine (HO.out _).mono ?_; rintro e wa ⟨rfl, hb⟩; have hb2 := below_next (w := W0) (by with_reducible assumption) hb))
            have HB3 := Lib.hid (below_next hBW hb2)
            have HK3 := Lib.hid (HK0.out.next hb2)
            clear hb hb2 hBW kz0 kz1 kz2 hS0 k0 k1 k2 ky1
            have g1103 : wa.cell? ⟨0, 0, none⟩ = some E110 := G110.out wa HB3.out
            have g1113 : wa.cell? ⟨3, 0, none⟩ = some E111 := G111.out wa HB3.out
            have g1123 : wa.cell? ⟨4, 0, none⟩ = some E112 := G112.out wa HB3.out
            have g1133 : wa.cell? ⟨2, 0, none⟩ = some E113 := G113.out wa HB3.out
            have x03 : wa.cell? ⟨w.heap.size, 0, none⟩ = some (.int .i64 (m : Int)) := Blk.cell HK3.out 0
            have x13 : wa.cell? ⟨w.heap.size, 1, none⟩ = some (.int .u32 s) := Blk.cell HK3.out 1
            have x23 : wa.cell? ⟨w.heap.size, 2, none⟩ = some (.int .u32 q) := Blk.cell HK3.out 2
            have y13 : wa.cell? ⟨cb, 1, none⟩ = some (.slice (some ⟨bq, oq, none⟩) nl cl) := Y1.out wa HB3.out
            have y23 : wa.cell? ⟨cb, 2, none⟩ = some (.slice Ap np cp) := Y2.out wa HB3.out
            go_wp2_with (first
              | (go_at_call 177; refine (HG.out _).mono ?_; rintro e w4 ⟨rfl, rfl⟩)
              | (go_at_call 178; refine (HT.out _ HB3.out).mono ?_; rintro e w5 ⟨rfl, hb⟩
                 have HB5 := Lib.hid (below_next HB3.out hb)
                 have HK5 := Lib.hid (HK3.out.next hb)
                 have g1105 : w5.cell? ⟨0, 0, none⟩ = some E110 := G110.out w5 HB5.out
                 have g1115 : w5.cell? ⟨3, 0, none⟩ = some E111 := G111.out w5 HB5.out
                 have g1125 : w5.cell? ⟨4, 0, none⟩ = some E112 := G112.out w5 HB5.out
                 have g1135 : w5.cell? ⟨2, 0, none⟩ = some E113 := G113.out w5 HB5.out
                 have x05 : w5.cell? ⟨w.heap.size, 0, none⟩ = some (.int .i64 (m : Int)) := Blk.cell HK5.out 0
                 have x15 : w5.cell? ⟨w.heap.size, 1, none⟩ = some (.int .u32 s) := Blk.cell HK5.out 1
                 have x25 : w5.cell? ⟨w.heap.size, 2, none⟩ = some (.int .u32 q) := Blk.cell HK5.out 2
                 have y15 : w5.cell? ⟨cb, 1, none⟩ = some (.slice (some ⟨bq, oq, none⟩) nl cl) := Y1.out w5 HB5.out
                 have y25 : w5.cell? ⟨cb, 2, none⟩ = some (.slice Ap np cp) := Y2.out w5 HB5.out
                 clear hb))
            go_ret
            exact ⟨rfl, HB5.out⟩
end Go.Proofs.YtdljpokhcfhhfaaGreatDoor
namespace Go.Proofs.YtdljpokhcfhhfaaGreatDoor
open Go.RowKit Go.Lib Lx
set_option maxHeartbeats 2000000 in
theorem members1_any (ads : List Addr) (l q : Int) (o : Bool) (A1 : Option Addr) (n1 c1 : Nat) (xs : List Int) (A : Option Addr) (n c : Nat) (cb : Nat) (Al : Option Addr) (nl cl : Nat) (w : World) (hS : EnvC ads w) (hx : AR w A1 n1 xs) (hn1 : n1 ≤ 1000000) (hnc : n1 ≤ c1)
    (hY1 : w.cell? ⟨cb, 1, none⟩ = some (.slice Al nl cl)) (q0 : 0 ≤ q) (q1 : q ≤ 4294967295) :
    Calls Tryz.prog 180 #[.agg #[.int .i64 l, .int .u32 q, .bool o, .slice A1 n1 c1], .slice A n c, .pointer (some ⟨cb, 0, none⟩)] w fun e w' => e = .returned (erS ads (mcode nl ⟨l, q, o, A1, n1, c1, xs⟩)) ∧ Below w.heap.size w w' := by
  have HS := Lib.hid hS
  have HB0 := Lib.hid (show Below w.heap.size w (w.alloc (.cells #[.int .i64 l, .int .u32 q, .bool o, .slice A1 n1 c1] 115)) from (Below.refl _ _).alloc (Nat.le_refl _) _)
  have HK0 := Lib.hid (show Blk (w.alloc (.cells #[.int .i64 l, .int .u32 q, .bool o, .slice A1 n1 c1] 115)) w.heap.size 115 #[.int .i64 l, .int .u32 q, .bool o, .slice A1 n1 c1] from Blk.new _ _ _)
  have G104 : Hid (∀ W, Below w.heap.size w W → W.cell? ⟨5, 0, none⟩ = some (erS ads 104)) := fun W hb => erS_cell (hS.below hb) (j := 3) (by decide) rfl
  have G110 : Hid (∀ W, Below w.heap.size w W → W.cell? ⟨0, 0, none⟩ = some (erS ads 110)) := fun W hb => erS_cell (hS.below hb) (j := 9) (by decide) rfl
  have G111 : Hid (∀ W, Below w.heap.size w W → W.cell? ⟨3, 0, none⟩ = some (erS ads 111)) := fun W hb => erS_cell (hS.below hb) (j := 10) (by decide) rfl
  have G113 : Hid (∀ W, Below w.heap.size w W → W.cell? ⟨2, 0, none⟩ = some (erS ads 113)) := fun W hb => erS_cell (hS.below hb) (j := 12) (by decide) rfl
  have Y1 : Hid (∀ W, Below w.heap.size w W → W.cell? ⟨cb, 1, none⟩ = some (.slice Al nl cl)) := fun W hb => (hb.cell (World.block_lt_of_cell? _ _ hY1)).trans hY1
  clear hS hY1
  have hln : xs.length = n1 := hx.len
  have HP2 := Lib.hid (fun W => placedL_any l Al nl cl W)
  have HG := Lib.hid (fun W => group_any q W q0 q1)
  have HI := Lib.hid hx.isAs
  have HH := Lib.hid (fun W (hB : Below w.heap.size w W) => hasAddr 181 #[] (enters_of Tryz.func181 (by kernel_rfl) rfl) (fun a => !oneA a) A1 n1 c1 xs W ((AR.items hx).next hB) hn1
    (fun W2 i x hxi _ => members11 x W2 (HI.out x (List.mem_of_getElem? hxi)).1 (HI.out x (List.mem_of_getElem? hxi)).2))
  have HR := Lib.hid (fun W (hB : Below w.heap.size w W) => repeats_any A1 n1 c1 xs W ((AR.items hx).next hB) hn1 hnc)
  clear hx q0 q1
  cases hp2 : plOk l nl with
  | false =>
    have e : mcode nl ⟨l, q, o, A1, n1, c1, xs⟩ = 111 := by
      unfold mcode
      simp only [hp2]
      try rfl
    rw [e]
    rw [hp2] at HP2
    clear e hp2
    generalize erS ads 104 = E104 at *
    generalize erS ads 110 = E110 at *
    generalize erS ads 111 = E111 at *
    generalize erS ads 113 = E113 at *
    have g1040 : (w.alloc (.cells #[.int .i64 l, .int .u32 q, .bool o, .slice A1 n1 c1] 115)).cell? ⟨5, 0, none⟩ = some E104 := G104.out (w.alloc (.cells #[.int .i64 l, .int .u32 q, .bool o, .slice A1 n1 c1] 115)) HB0.out
    have g1100 : (w.alloc (.cells #[.int .i64 l, .int .u32 q, .bool o, .slice A1 n1 c1] 115)).cell? ⟨0, 0, none⟩ = some E110 := G110.out (w.alloc (.cells #[.int .i64 l, .int .u32 q, .bool o, .slice A1 n1 c1] 115)) HB0.out
    have g1110 : (w.alloc (.cells #[.int .i64 l, .int .u32 q, .bool o, .slice A1 n1 c1] 115)).cell? ⟨3, 0, none⟩ = some E111 := G111.out (w.alloc (.cells #[.int .i64 l, .int .u32 q, .bool o, .slice A1 n1 c1] 115)) HB0.out
    have g1130 : (w.alloc (.cells #[.int .i64 l, .int .u32 q, .bool o, .slice A1 n1 c1] 115)).cell? ⟨2, 0, none⟩ = some E113 := G113.out (w.alloc (.cells #[.int .i64 l, .int .u32 q, .bool o, .slice A1 n1 c1] 115)) HB0.out
    have y10 : (w.alloc (.cells #[.int .i64 l, .int .u32 q, .bool o, .slice A1 n1 c1] 115)).cell? ⟨cb, 1, none⟩ = some (.slice Al nl cl) := Y1.out (w.alloc (.cells #[.int .i64 l, .int .u32 q, .bool o, .slice A1 n1 c1] 115)) HB0.out
    go_enter Tryz.func180, Tryz.ntmps180
    go_wp2_with (first
      | (go_at_call 164; refine (HP2.out _).mono ?_; rintro e w2 ⟨rfl, rfl⟩))
    go_ret
    exact ⟨rfl, HB0.out⟩
  | true =>
    cases hgr : Ad.group q with
    | false =>
      have e : mcode nl ⟨l, q, o, A1, n1, c1, xs⟩ = 113 := by
        unfold mcode
        simp only [hp2, hgr]
        try rfl
      rw [e]
      rw [hp2] at HP2
      rw [hgr] at HG
      clear e hp2 hgr
      generalize erS ads 104 = E104 at *
      generalize erS ads 110 = E110 at *
      generalize erS ads 111 = E111 at *
      generalize erS ads 113 = E113 at *
      have g1040 : (w.alloc (.cells #[.int .i64 l, .int .u32 q, .bool o, .slice A1 n1 c1] 115)).cell? ⟨5, 0, none⟩ = some E104 := G104.out (w.alloc (.cells #[.int .i64 l, .int .u32 q, .bool o, .slice A1 n1 c1] 115)) HB0.out
      have g1100 : (w.alloc (.cells #[.int .i64 l, .int .u32 q, .bool o, .slice A1 n1 c1] 115)).cell? ⟨0, 0, none⟩ = some E110 := G110.out (w.alloc (.cells #[.int .i64 l, .int .u32 q, .bool o, .slice A1 n1 c1] 115)) HB0.out
      have g1110 : (w.alloc (.cells #[.int .i64 l, .int .u32 q, .bool o, .slice A1 n1 c1] 115)).cell? ⟨3, 0, none⟩ = some E111 := G111.out (w.alloc (.cells #[.int .i64 l, .int .u32 q, .bool o, .slice A1 n1 c1] 115)) HB0.out
      have g1130 : (w.alloc (.cells #[.int .i64 l, .int .u32 q, .bool o, .slice A1 n1 c1] 115)).cell? ⟨2, 0, none⟩ = some E113 := G113.out (w.alloc (.cells #[.int .i64 l, .int .u32 q, .bool o, .slice A1 n1 c1] 115)) HB0.out
      have y10 : (w.alloc (.cells #[.int .i64 l, .int .u32 q, .bool o, .slice A1 n1 c1] 115)).cell? ⟨cb, 1, none⟩ = some (.slice Al nl cl) := Y1.out (w.alloc (.cells #[.int .i64 l, .int .u32 q, .bool o, .slice A1 n1 c1] 115)) HB0.out
      go_enter Tryz.func180, Tryz.ntmps180
      go_wp2_with (first
        | (go_at_call 164; refine (HP2.out _).mono ?_; rintro e w2 ⟨rfl, rfl⟩)
        | (go_at_call 177; refine (HG.out _).mono ?_; rintro e w3 ⟨rfl, rfl⟩))
      go_ret
      exact ⟨rfl, HB0.out⟩
    | true =>
      cases hh : xs.any (fun a => !oneA a) with
      | true =>
        have e : mcode nl ⟨l, q, o, A1, n1, c1, xs⟩ = 113 := by
          unfold mcode
          simp only [hp2, hgr, hh]
          try rfl
        rw [e]
        rw [hp2] at HP2
        rw [hgr] at HG
        rw [hh] at HH
        clear e hp2 hgr hh
        generalize erS ads 104 = E104 at *
        generalize erS ads 110 = E110 at *
        generalize erS ads 111 = E111 at *
        generalize erS ads 113 = E113 at *
        have g1040 : (w.alloc (.cells #[.int .i64 l, .int .u32 q, .bool o, .slice A1 n1 c1] 115)).cell? ⟨5, 0, none⟩ = some E104 := G104.out (w.alloc (.cells #[.int .i64 l, .int .u32 q, .bool o, .slice A1 n1 c1] 115)) HB0.out
        have g1100 : (w.alloc (.cells #[.int .i64 l, .int .u32 q, .bool o, .slice A1 n1 c1] 115)).cell? ⟨0, 0, none⟩ = some E110 := G110.out (w.alloc (.cells #[.int .i64 l, .int .u32 q, .bool o, .slice A1 n1 c1] 115)) HB0.out
        have g1110 : (w.alloc (.cells #[.int .i64 l, .int .u32 q, .bool o, .slice A1 n1 c1] 115)).cell? ⟨3, 0, none⟩ = some E111 := G111.out (w.alloc (.cells #[.int .i64 l, .int .u32 q, .bool o, .slice A1 n1 c1] 115)) HB0.out
        have g1130 : (w.alloc (.cells #[.int .i64 l, .int .u32 q, .bool o, .slice A1 n1 c1] 115)).cell? ⟨2, 0, none⟩ = some E113 := G113.out (w.alloc (.cells #[.int .i64 l, .int .u32 q, .bool o, .slice A1 n1 c1] 115)) HB0.out
        have y10 : (w.alloc (.cells #[.int .i64 l, .int .u32 q, .bool o, .slice A1 n1 c1] 115)).cell? ⟨cb, 1, none⟩ = some (.slice Al nl cl) := Y1.out (w.alloc (.cells #[.int .i64 l, .int .u32 q, .bool o, .slice A1 n1 c1] 115)) HB0.out
        go_enter Tryz.func180, Tryz.ntmps180
        go_wp2_with (first
          | (go_at_call 164; refine (HP2.out _).mono ?_; rintro e w2 ⟨rfl, rfl⟩)
          | (go_at_call 177; refine (HG.out _).mono ?_; rintro e w3 ⟨rfl, rfl⟩)
          | (go_at_call 67; refine (HH.out _ HB0.out).mono ?_; rintro e w4 ⟨rfl, hb⟩
             have HB4 := Lib.hid (below_next HB0.out hb)
             have HK4 := Lib.hid (HK0.out.next hb)
             have g1044 : w4.cell? ⟨5, 0, none⟩ = some E104 := G104.out w4 HB4.out
             have g1104 : w4.cell? ⟨0, 0, none⟩ = some E110 := G110.out w4 HB4.out
             have g1114 : w4.cell? ⟨3, 0, none⟩ = some E111 := G111.out w4 HB4.out
             have g1134 : w4.cell? ⟨2, 0, none⟩ = some E113 := G113.out w4 HB4.out
             have x04 : w4.cell? ⟨w.heap.size, 0, none⟩ = some (.int .i64 l) := Blk.cell HK4.out 0
             have x14 : w4.cell? ⟨w.heap.size, 1, none⟩ = some (.int .u32 q) := Blk.cell HK4.out 1
             have x24 : w4.cell? ⟨w.heap.size, 2, none⟩ = some (.bool o) := Blk.cell HK4.out 2
             have x34 : w4.cell? ⟨w.heap.size, 3, none⟩ = some (.slice A1 n1 c1) := Blk.cell HK4.out 3
             have y14 : w4.cell? ⟨cb, 1, none⟩ = some (.slice Al nl cl) := Y1.out w4 HB4.out
             clear hb))
        go_ret
        exact ⟨rfl, HB4.out⟩
      | false =>
        by_cases hl : 4 < n1
        · have hl2 : (4 : Int) < (n1 : Int) := by omega
          have e : mcode nl ⟨l, q, o, A1, n1, c1, xs⟩ = 104 := by
            unfold mcode
            simp only [hp2, hgr, hh, hl, hln]
            try rfl
          rw [e]
          rw [hp2] at HP2
          rw [hgr] at HG
          rw [hh] at HH
          clear e hp2 hgr hh hl
          generalize erS ads 104 = E104 at *
          generalize erS ads 110 = E110 at *
          generalize erS ads 111 = E111 at *
          generalize erS ads 113 = E113 at *
          have g1040 : (w.alloc (.cells #[.int .i64 l, .int .u32 q, .bool o, .slice A1 n1 c1] 115)).cell? ⟨5, 0, none⟩ = some E104 := G104.out (w.alloc (.cells #[.int .i64 l, .int .u32 q, .bool o, .slice A1 n1 c1] 115)) HB0.out
          have g1100 : (w.alloc (.cells #[.int .i64 l, .int .u32 q, .bool o, .slice A1 n1 c1] 115)).cell? ⟨0, 0, none⟩ = some E110 := G110.out (w.alloc (.cells #[.int .i64 l, .int .u32 q, .bool o, .slice A1 n1 c1] 115)) HB0.out
          have g1110 : (w.alloc (.cells #[.int .i64 l, .int .u32 q, .bool o, .slice A1 n1 c1] 115)).cell? ⟨3, 0, none⟩ = some E111 := G111.out (w.alloc (.cells #[.int .i64 l, .int .u32 q, .bool o, .slice A1 n1 c1] 115)) HB0.out
          have g1130 : (w.alloc (.cells #[.int .i64 l, .int .u32 q, .bool o, .slice A1 n1 c1] 115)).cell? ⟨2, 0, none⟩ = some E113 := G113.out (w.alloc (.cells #[.int .i64 l, .int .u32 q, .bool o, .slice A1 n1 c1] 115)) HB0.out
          have y10 : (w.alloc (.cells #[.int .i64 l, .int .u32 q, .bool o, .slice A1 n1 c1] 115)).cell? ⟨cb, 1, none⟩ = some (.slice Al nl cl) := Y1.out (w.alloc (.cells #[.int .i64 l, .int .u32 q, .bool o, .slice A1 n1 c1] 115)) HB0.out
          go_enter Tryz.func180, Tryz.ntmps180
          go_wp2_with (first
            | (go_at_call 164; refine (HP2.out _).mono ?_; rintro e w2 ⟨rfl, rfl⟩)
            | (go_at_call 177; refine (HG.out _).mono ?_; rintro e w3 ⟨rfl, rfl⟩)
            | (go_at_call 67; refine (HH.out _ HB0.out).mono ?_; rintro e w4 ⟨rfl, hb⟩
               have HB4 := Lib.hid (below_next HB0.out hb)
               have HK4 := Lib.hid (HK0.out.next hb)
               have g1044 : w4.cell? ⟨5, 0, none⟩ = some E104 := G104.out w4 HB4.out
               have g1104 : w4.cell? ⟨0, 0, none⟩ = some E110 := G110.out w4 HB4.out
               have g1114 : w4.cell? ⟨3, 0, none⟩ = some E111 := G111.out w4 HB4.out
               have g1134 : w4.cell? ⟨2, 0, none⟩ = some E113 := G113.out w4 HB4.out
               have x04 : w4.cell? ⟨w.heap.size, 0, none⟩ = some (.int .i64 l) := Blk.cell HK4.out 0
               have x14 : w4.cell? ⟨w.heap.size, 1, none⟩ = some (.int .u32 q) := Blk.cell HK4.out 1
               have x24 : w4.cell? ⟨w.heap.size, 2, none⟩ = some (.bool o) := Blk.cell HK4.out 2
               have x34 : w4.cell? ⟨w.heap.size, 3, none⟩ = some (.slice A1 n1 c1) := Blk.cell HK4.out 3
               have y14 : w4.cell? ⟨cb, 1, none⟩ = some (.slice Al nl cl) := Y1.out w4 HB4.out
               clear hb))
          go_ret
          exact ⟨rfl, HB4.out⟩
        · have hl2 : ¬ (4 : Int) < (n1 : Int) := by omega
          cases ht : twice [] xs with
          | true =>
            have e : mcode nl ⟨l, q, o, A1, n1, c1, xs⟩ = 110 := by
              unfold mcode
              simp only [hp2, hgr, hh, hl, ht, hln]
              try rfl
            rw [e]
            rw [hp2] at HP2
            rw [hgr] at HG
            rw [hh] at HH
            rw [ht] at HR
            clear e hp2 hgr hh hl ht
            generalize erS ads 104 = E104 at *
            generalize erS ads 110 = E110 at *
            generalize erS ads 111 = E111 at *
            generalize erS ads 113 = E113 at *
            have g1040 : (w.alloc (.cells #[.int .i64 l, .int .u32 q, .bool o, .slice A1 n1 c1] 115)).cell? ⟨5, 0, none⟩ = some E104 := G104.out (w.alloc (.cells #[.int .i64 l, .int .u32 q, .bool o, .slice A1 n1 c1] 115)) HB0.out
            have g1100 : (w.alloc (.cells #[.int .i64 l, .int .u32 q, .bool o, .slice A1 n1 c1] 115)).cell? ⟨0, 0, none⟩ = some E110 := G110.out (w.alloc (.cells #[.int .i64 l, .int .u32 q, .bool o, .slice A1 n1 c1] 115)) HB0.out
            have g1110 : (w.alloc (.cells #[.int .i64 l, .int .u32 q, .bool o, .slice A1 n1 c1] 115)).cell? ⟨3, 0, none⟩ = some E111 := G111.out (w.alloc (.cells #[.int .i64 l, .int .u32 q, .bool o, .slice A1 n1 c1] 115)) HB0.out
            have g1130 : (w.alloc (.cells #[.int .i64 l, .int .u32 q, .bool o, .slice A1 n1 c1] 115)).cell? ⟨2, 0, none⟩ = some E113 := G113.out (w.alloc (.cells #[.int .i64 l, .int .u32 q, .bool o, .slice A1 n1 c1] 115)) HB0.out
            have y10 : (w.alloc (.cells #[.int .i64 l, .int .u32 q, .bool o, .slice A1 n1 c1] 115)).cell? ⟨cb, 1, none⟩ = some (.slice Al nl cl) := Y1.out (w.alloc (.cells #[.int .i64 l, .int .u32 q, .bool o, .slice A1 n1 c1] 115)) HB0.out
            go_enter Tryz.func180, Tryz.ntmps180
            go_wp2_with (first
              | (go_at_call 164; refine (HP2.out _).mono ?_; rintro e w2 ⟨rfl, rfl⟩)
              | (go_at_call 177; refine (HG.out _).mono ?_; rintro e w3 ⟨rfl, rfl⟩)
              | (go_at_call 67; refine (HH.out _ HB0.out).mono ?_; rintro e w4 ⟨rfl, hb⟩
                 have HB4 := Lib.hid (below_next HB0.out hb)
                 have HK4 := Lib.hid (HK0.out.next hb)
                 have g1044 : w4.cell? ⟨5, 0, none⟩ = some E104 := G104.out w4 HB4.out
                 have g1104 : w4.cell? ⟨0, 0, none⟩ = some E110 := G110.out w4 HB4.out
                 have g1114 : w4.cell? ⟨3, 0, none⟩ = some E111 := G111.out w4 HB4.out
                 have g1134 : w4.cell? ⟨2, 0, none⟩ = some E113 := G113.out w4 HB4.out
                 have x04 : w4.cell? ⟨w.heap.size, 0, none⟩ = some (.int .i64 l) := Blk.cell HK4.out 0
                 have x14 : w4.cell? ⟨w.heap.size, 1, none⟩ = some (.int .u32 q) := Blk.cell HK4.out 1
                 have x24 : w4.cell? ⟨w.heap.size, 2, none⟩ = some (.bool o) := Blk.cell HK4.out 2
                 have x34 : w4.cell? ⟨w.heap.size, 3, none⟩ = some (.slice A1 n1 c1) := Blk.cell HK4.out 3
                 have y14 : w4.cell? ⟨cb, 1, none⟩ = some (.slice Al nl cl) := Y1.out w4 HB4.out
                 clear hb)
              | (go_at_call 182; refine (HR.out _ HB4.out).mono ?_; rintro e w5 ⟨rfl, rfl⟩))
            go_ret
            exact ⟨rfl, HB4.out⟩
          | false =>
            have e : mcode nl ⟨l, q, o, A1, n1, c1, xs⟩ = 0 := by
              unfold mcode
              simp only [hp2, hgr, hh, hl, ht, hln]
              try rfl
            rw [e]
            rw [hp2] at HP2
            rw [hgr] at HG
            rw [hh] at HH
            rw [ht] at HR
            clear e hp2 hgr hh hl ht
            have e0 : erS ads 0 = .nilIface := rfl
            rw [e0]
            clear e0
            generalize erS ads 104 = E104 at *
            generalize erS ads 110 = E110 at *
            generalize erS ads 111 = E111 at *
            generalize erS ads 113 = E113 at *
            have g1040 : (w.alloc (.cells #[.int .i64 l, .int .u32 q, .bool o, .slice A1 n1 c1] 115)).cell? ⟨5, 0, none⟩ = some E104 := G104.out (w.alloc (.cells #[.int .i64 l, .int .u32 q, .bool o, .slice A1 n1 c1] 115)) HB0.out
            have g1100 : (w.alloc (.cells #[.int .i64 l, .int .u32 q, .bool o, .slice A1 n1 c1] 115)).cell? ⟨0, 0, none⟩ = some E110 := G110.out (w.alloc (.cells #[.int .i64 l, .int .u32 q, .bool o, .slice A1 n1 c1] 115)) HB0.out
            have g1110 : (w.alloc (.cells #[.int .i64 l, .int .u32 q, .bool o, .slice A1 n1 c1] 115)).cell? ⟨3, 0, none⟩ = some E111 := G111.out (w.alloc (.cells #[.int .i64 l, .int .u32 q, .bool o, .slice A1 n1 c1] 115)) HB0.out
            have g1130 : (w.alloc (.cells #[.int .i64 l, .int .u32 q, .bool o, .slice A1 n1 c1] 115)).cell? ⟨2, 0, none⟩ = some E113 := G113.out (w.alloc (.cells #[.int .i64 l, .int .u32 q, .bool o, .slice A1 n1 c1] 115)) HB0.out
            have y10 : (w.alloc (.cells #[.int .i64 l, .int .u32 q, .bool o, .slice A1 n1 c1] 115)).cell? ⟨cb, 1, none⟩ = some (.slice Al nl cl) := Y1.out (w.alloc (.cells #[.int .i64 l, .int .u32 q, .bool o, .slice A1 n1 c1] 115)) HB0.out
            go_enter Tryz.func180, Tryz.ntmps180
            go_wp2_with (first
              | (go_at_call 164; refine (HP2.out _).mono ?_; rintro e w2 ⟨rfl, rfl⟩)
              | (go_at_call 177; refine (HG.out _).mono ?_; rintro e w3 ⟨rfl, rfl⟩)
              | (go_at_call 67; refine (HH.out _ HB0.out).mono ?_; rintro e w4 ⟨rfl, hb⟩
                 have HB4 := Lib.hid (below_next HB0.out hb)
                 have HK4 := Lib.hid (HK0.out.next hb)
                 have g1044 : w4.cell? ⟨5, 0, none⟩ = some E104 := G104.out w4 HB4.out
                 have g1104 : w4.cell? ⟨0, 0, none⟩ = some E110 := G110.out w4 HB4.out
                 have g1114 : w4.cell? ⟨3, 0, none⟩ = some E111 := G111.out w4 HB4.out
                 have g1134 : w4.cell? ⟨2, 0, none⟩ = some E113 := G113.out w4 HB4.out
                 have x04 : w4.cell? ⟨w.heap.size, 0, none⟩ = some (.int .i64 l) := Blk.cell HK4.out 0
                 have x14 : w4.cell? ⟨w.heap.size, 1, none⟩ = some (.int .u32 q) := Blk.cell HK4.out 1
                 have x24 : w4.cell? ⟨w.heap.size, 2, none⟩ = some (.bool o) := Blk.cell HK4.out 2
                 have x34 : w4.cell? ⟨w.heap.size, 3, none⟩ = some (.slice A1 n1 c1) := Blk.cell HK4.out 3
                 have y14 : w4.cell? ⟨cb, 1, none⟩ = some (.slice Al nl cl) := Y1.out w4 HB4.out
                 clear hb)
              | (go_at_call 182; refine (HR.out _ HB4.out).mono ?_; rintro e w5 ⟨rfl, rfl⟩))
            go_ret
            exact ⟨rfl, HB4.out⟩
end Go.Proofs.YtdljpokhcfhhfaaGreatDoor

