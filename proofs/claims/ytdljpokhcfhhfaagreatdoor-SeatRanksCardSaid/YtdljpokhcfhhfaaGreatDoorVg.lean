/- Contract of conf's check of ports. Contract of conf's check of ranges. -/
import Derived.Test.YtdljpokhcfhhfaaGreatDoorVa
import Derived.Test.YtdljpokhcfhhfaaGreatDoorTall
namespace Go.Proofs.YtdljpokhcfhhfaaGreatDoor
open Go.RowKit Go.Lib Lx
set_option maxHeartbeats 2000000 in
theorem ports1_any (ads : List Addr) (r l a : Int) (A : Option Addr) (n c : Nat) (ah : List (Int × Int × Int)) (cb : Nat) (Ar : Option Addr) (nr cr : Nat) (Al : Option Addr) (nl cl : Nat) (ls : List (List UInt8 × Int × Int)) (w : World) (hS : EnvC ads w) (ha : IPort w A n ah) (hn : n ≤ 1000)
    (hL : ILink w Al nl ls) (hU : ∀ y ∈ ls, 0 ≤ y.2.1 ∧ y.2.1 ≤ 4294967295) (hY0 : w.cell? ⟨cb, 0, none⟩ = some (.slice Ar nr cr)) (hY1 : w.cell? ⟨cb, 1, none⟩ = some (.slice Al nl cl)) (h0 : 0 ≤ a) (h1 : a ≤ 4294967295) :
    Calls Tryz.prog 162 #[.agg #[.int .i64 r, .int .i64 l, .int .u32 a], .slice A n c, .pointer (some ⟨cb, 0, none⟩)] w fun e w' => e = .returned (erS ads (pcode nr ls (r, l, a) ah)) ∧ Below w.heap.size w w' := by
  have HS := Lib.hid hS
  have HB0 := Lib.hid (show Below w.heap.size w (w.alloc (.cells #[.int .i64 r, .int .i64 l, .int .u32 a] 80)) from (Below.refl _ _).alloc (Nat.le_refl _) _)
  have HK0 := Lib.hid (show Blk (w.alloc (.cells #[.int .i64 r, .int .i64 l, .int .u32 a] 80)) w.heap.size 80 #[.int .i64 r, .int .i64 l, .int .u32 a] from Blk.new _ _ _)
  have G110 : Hid (∀ W, Below w.heap.size w W → W.cell? ⟨0, 0, none⟩ = some (erS ads 110)) := fun W hb => erS_cell (hS.below hb) (j := 9) (by decide) rfl
  have G111 : Hid (∀ W, Below w.heap.size w W → W.cell? ⟨3, 0, none⟩ = some (erS ads 111)) := fun W hb => erS_cell (hS.below hb) (j := 10) (by decide) rfl
  have G112 : Hid (∀ W, Below w.heap.size w W → W.cell? ⟨4, 0, none⟩ = some (erS ads 112)) := fun W hb => erS_cell (hS.below hb) (j := 11) (by decide) rfl
  have Y0 : Hid (∀ W, Below w.heap.size w W → W.cell? ⟨cb, 0, none⟩ = some (.slice Ar nr cr)) := fun W hb => (hb.cell (World.block_lt_of_cell? _ _ hY0)).trans hY0
  have Y1 : Hid (∀ W, Below w.heap.size w W → W.cell? ⟨cb, 1, none⟩ = some (.slice Al nl cl)) := fun W hb => (hb.cell (World.block_lt_of_cell? _ _ hY1)).trans hY1
  clear hS hY0 hY1
  have hln : ls.length = nl := hL.len
  have HP1 := Lib.hid (fun W => placedR_any r Ar nr cr W)
  have HP2 := Lib.hid (fun W => placedL_any l Al nl cl W)
  have HH := Lib.hid (fun W (hB : Below w.heap.size w W) (hK : Blk W w.heap.size 80 #[.int .i64 r, .int .i64 l, .int .u32 a]) => hasPort 167 #[.pointer (some ⟨w.heap.size, 0, none⟩)] (enters_of Tryz.func167 (by kernel_rfl) rfl) (fun y => y.2.2 == a || y.1 == r && y.2.1 == l) A n c ah W (ha.next hB) (by omega)
    (fun W2 i x _ hb => ports11 r l a x.1 x.2.1 x.2.2 w.heap.size W2 (Blk.cell (hK.next hb) 0) (Blk.cell (hK.next hb) 1) (Blk.cell (hK.next hb) 2)))
  clear ha
  cases hp1 : plOk r nr with
  | false =>
    clear hL hU
    have e : pcode nr ls (r, l, a) ah = 111 := by
      unfold pcode
      simp only [hp1]
      try rfl
    rw [e]
    rw [hp1] at HP1
    clear e hp1
    generalize erS ads 110 = E110 at *
    generalize erS ads 111 = E111 at *
    generalize erS ads 112 = E112 at *
    have g1100 : (w.alloc (.cells #[.int .i64 r, .int .i64 l, .int .u32 a] 80)).cell? ⟨0, 0, none⟩ = some E110 := G110.out (w.alloc (.cells #[.int .i64 r, .int .i64 l, .int .u32 a] 80)) HB0.out
    have g1110 : (w.alloc (.cells #[.int .i64 r, .int .i64 l, .int .u32 a] 80)).cell? ⟨3, 0, none⟩ = some E111 := G111.out (w.alloc (.cells #[.int .i64 r, .int .i64 l, .int .u32 a] 80)) HB0.out
    have g1120 : (w.alloc (.cells #[.int .i64 r, .int .i64 l, .int .u32 a] 80)).cell? ⟨4, 0, none⟩ = some E112 := G112.out (w.alloc (.cells #[.int .i64 r, .int .i64 l, .int .u32 a] 80)) HB0.out
    have y00 : (w.alloc (.cells #[.int .i64 r, .int .i64 l, .int .u32 a] 80)).cell? ⟨cb, 0, none⟩ = some (.slice Ar nr cr) := Y0.out (w.alloc (.cells #[.int .i64 r, .int .i64 l, .int .u32 a] 80)) HB0.out
    have y10 : (w.alloc (.cells #[.int .i64 r, .int .i64 l, .int .u32 a] 80)).cell? ⟨cb, 1, none⟩ = some (.slice Al nl cl) := Y1.out (w.alloc (.cells #[.int .i64 r, .int .i64 l, .int .u32 a] 80)) HB0.out
    go_enter Tryz.func162, Tryz.ntmps162
    go_wp2_with (first
      | (go_at_call 163; refine (HP1.out _).mono ?_; rintro e w1 ⟨rfl, rfl⟩))
    go_ret
    exact ⟨rfl, HB0.out⟩
  | true =>
    cases hp2 : plOk l nl with
    | false =>
      clear hL hU
      have e : pcode nr ls (r, l, a) ah = 111 := by
        unfold pcode
        simp only [hp1, hp2, hln]
        try rfl
      rw [e]
      rw [hp1] at HP1
      rw [hp2] at HP2
      clear e hp1 hp2
      generalize erS ads 110 = E110 at *
      generalize erS ads 111 = E111 at *
      generalize erS ads 112 = E112 at *
      have g1100 : (w.alloc (.cells #[.int .i64 r, .int .i64 l, .int .u32 a] 80)).cell? ⟨0, 0, none⟩ = some E110 := G110.out (w.alloc (.cells #[.int .i64 r, .int .i64 l, .int .u32 a] 80)) HB0.out
      have g1110 : (w.alloc (.cells #[.int .i64 r, .int .i64 l, .int .u32 a] 80)).cell? ⟨3, 0, none⟩ = some E111 := G111.out (w.alloc (.cells #[.int .i64 r, .int .i64 l, .int .u32 a] 80)) HB0.out
      have g1120 : (w.alloc (.cells #[.int .i64 r, .int .i64 l, .int .u32 a] 80)).cell? ⟨4, 0, none⟩ = some E112 := G112.out (w.alloc (.cells #[.int .i64 r, .int .i64 l, .int .u32 a] 80)) HB0.out
      have y00 : (w.alloc (.cells #[.int .i64 r, .int .i64 l, .int .u32 a] 80)).cell? ⟨cb, 0, none⟩ = some (.slice Ar nr cr) := Y0.out (w.alloc (.cells #[.int .i64 r, .int .i64 l, .int .u32 a] 80)) HB0.out
      have y10 : (w.alloc (.cells #[.int .i64 r, .int .i64 l, .int .u32 a] 80)).cell? ⟨cb, 1, none⟩ = some (.slice Al nl cl) := Y1.out (w.alloc (.cells #[.int .i64 r, .int .i64 l, .int .u32 a] 80)) HB0.out
      go_enter Tryz.func162, Tryz.ntmps162
      go_wp2_with (first
        | (go_at_call 163; refine (HP1.out _).mono ?_; rintro e w1 ⟨rfl, rfl⟩)
        | (go_at_call 164; refine (HP2.out _).mono ?_; rintro e w2 ⟨rfl, rfl⟩))
      go_ret
      exact ⟨rfl, HB0.out⟩
    | true =>
      obtain ⟨m, rfl, hm⟩ : ∃ m : Nat, l = (m : Int) ∧ m < nl := by
        unfold plOk at hp2; simp only [decide_eq_true_eq] at hp2; exact ⟨l.toNat, by omega, by omega⟩
      have hlm : (m : Int) < (nl : Int) := by omega
      obtain ⟨bq, oq, ⟨s1, a1, b1⟩, rfl, hbq, hy, hz0, hz1, hz2⟩ := ILink.cells hL hm
      have hu := hU (s1, a1, b1) (List.mem_of_getElem? hy)
      have hg : ls.getD m ([], 0, 0) = (s1, a1, b1) := by rw [List.getD_eq_getElem?_getD, hy]; rfl
      have Z0 : Hid (∀ W, Below w.heap.size w W → W.cell? ⟨bq, oq + m * 3, none⟩ = some (.string (str s1))) := fun W hb => (hb.cell (World.block_lt_of_cell? _ _ hz0)).trans hz0
      have Z1 : Hid (∀ W, Below w.heap.size w W → W.cell? ⟨bq, oq + m * 3 + 1, none⟩ = some (.int .u32 a1)) := fun W hb => (hb.cell (World.block_lt_of_cell? _ _ hz1)).trans hz1
      have Z2 : Hid (∀ W, Below w.heap.size w W → W.cell? ⟨bq, oq + m * 3 + 2, none⟩ = some (.int .i64 b1)) := fun W hb => (hb.cell (World.block_lt_of_cell? _ _ hz2)).trans hz2
      have HO := Lib.hid (fun W => on_any (str s1) a1 b1 a W hu.1 hu.2 h0 h1)
      have hon : onL (s1, a1, b1) a = (decide (a ≠ 0) && Ad.isIn a1 b1 a) := rfl
      rw [← hon] at HO
      clear hon hz0 hz1 hz2 hy hu hL hU hm h0 h1
      cases ho : onL (s1, a1, b1) a with
      | false =>
        have e : pcode nr ls (r, (m : Int), a) ah = 112 := by
          unfold pcode
          simp only [hp1, hp2, ho, hln, hg, Int.toNat_natCast]
          try rfl
        rw [e]
        rw [hp1] at HP1
        rw [hp2] at HP2
        rw [ho] at HO
        clear e hp1 hp2 ho
        generalize erS ads 110 = E110 at *
        generalize erS ads 111 = E111 at *
        generalize erS ads 112 = E112 at *
        have g1100 : (w.alloc (.cells #[.int .i64 r, .int .i64 (m : Int), .int .u32 a] 80)).cell? ⟨0, 0, none⟩ = some E110 := G110.out (w.alloc (.cells #[.int .i64 r, .int .i64 (m : Int), .int .u32 a] 80)) HB0.out
        have g1110 : (w.alloc (.cells #[.int .i64 r, .int .i64 (m : Int), .int .u32 a] 80)).cell? ⟨3, 0, none⟩ = some E111 := G111.out (w.alloc (.cells #[.int .i64 r, .int .i64 (m : Int), .int .u32 a] 80)) HB0.out
        have g1120 : (w.alloc (.cells #[.int .i64 r, .int .i64 (m : Int), .int .u32 a] 80)).cell? ⟨4, 0, none⟩ = some E112 := G112.out (w.alloc (.cells #[.int .i64 r, .int .i64 (m : Int), .int .u32 a] 80)) HB0.out
        have y00 : (w.alloc (.cells #[.int .i64 r, .int .i64 (m : Int), .int .u32 a] 80)).cell? ⟨cb, 0, none⟩ = some (.slice Ar nr cr) := Y0.out (w.alloc (.cells #[.int .i64 r, .int .i64 (m : Int), .int .u32 a] 80)) HB0.out
        have y10 : (w.alloc (.cells #[.int .i64 r, .int .i64 (m : Int), .int .u32 a] 80)).cell? ⟨cb, 1, none⟩ = some (.slice (some ⟨bq, oq, none⟩) nl cl) := Y1.out (w.alloc (.cells #[.int .i64 r, .int .i64 (m : Int), .int .u32 a] 80)) HB0.out
        go_enter Tryz.func162, Tryz.ntmps162
        go_wp2_with (first
          | (go_at_call 163; refine (HP1.out _).mono ?_; rintro e w1 ⟨rfl, rfl⟩)
          | (go_at_call 164; refine (HP2.out _).mono ?_; rintro e w2 ⟨rfl, rfl⟩))
        have hBW := HB0.out
        generalize (w.alloc (.cells #[.int .i64 r, .int .i64 (m : Int), .int .u32 a] 80)) = W0 at *
        have k0 : ∀ W, Below W0.heap.size W0 W → W.cell? ⟨w.heap.size, 0, none⟩ = some (.int .i64 r) := fun W hb => Blk.cell (HK0.out.next hb) 0
        have k1 : ∀ W, Below W0.heap.size W0 W → W.cell? ⟨w.heap.size, 1, none⟩ = some (.int .i64 (m : Int)) := fun W hb => Blk.cell (HK0.out.next hb) 1
        have k2 : ∀ W, Below W0.heap.size W0 W → W.cell? ⟨w.heap.size, 2, none⟩ = some (.int .u32 a) := fun W hb => Blk.cell (HK0.out.next hb) 2
        have ky0 : ∀ W, Below W0.heap.size W0 W → W.cell? ⟨cb, 0, none⟩ = some (.slice Ar nr cr) := fun W hb => Y0.out W (below_next hBW hb)
        have ky1 : ∀ W, Below W0.heap.size W0 W → W.cell? ⟨cb, 1, none⟩ = some (.slice (some ⟨bq, oq, none⟩) nl cl) := fun W hb => Y1.out W (below_next hBW hb)
        have kz0 : ∀ W, Below W0.heap.size W0 W → W.cell? ⟨bq, oq + m * 3, none⟩ = some (.string (str s1)) := fun W hb => Z0.out W (below_next hBW hb)
        have kz1 : ∀ W, Below W0.heap.size W0 W → W.cell? ⟨bq, oq + m * 3 + 1, none⟩ = some (.int .u32 a1) := fun W hb => Z1.out W (below_next hBW hb)
        have kz2 : ∀ W, Below W0.heap.size W0 W → W.cell? ⟨bq, oq + m * 3 + 2, none⟩ = some (.int .i64 b1) := fun W hb => Z2.out W (below_next hBW hb)
        have hS0 : Below W0.heap.size W0 W0.drew := (Below.refl _ _).drew
        go_region_held3 (fun w' => Below W0.heap.size W0 w')
          (first | with_reducible assumption | exact (Below.refl _ _).drew)
          (first | (go_at_call 165; refine (HO.out _).mono ?_; rintro e wa ⟨rfl, hb⟩; have hb2 := below_next (w := W0) (by with_reducible assumption) hb))
        have HB3 := Lib.hid (below_next hBW hb2)
        have HK3 := Lib.hid (HK0.out.next hb2)
        clear hb hb2 hBW kz0 kz1 kz2 hS0 k0 k1 k2 ky0 ky1
        have g1103 : wa.cell? ⟨0, 0, none⟩ = some E110 := G110.out wa HB3.out
        have g1113 : wa.cell? ⟨3, 0, none⟩ = some E111 := G111.out wa HB3.out
        have g1123 : wa.cell? ⟨4, 0, none⟩ = some E112 := G112.out wa HB3.out
        have x03 : wa.cell? ⟨w.heap.size, 0, none⟩ = some (.int .i64 r) := Blk.cell HK3.out 0
        have x13 : wa.cell? ⟨w.heap.size, 1, none⟩ = some (.int .i64 (m : Int)) := Blk.cell HK3.out 1
        have x23 : wa.cell? ⟨w.heap.size, 2, none⟩ = some (.int .u32 a) := Blk.cell HK3.out 2
        have y03 : wa.cell? ⟨cb, 0, none⟩ = some (.slice Ar nr cr) := Y0.out wa HB3.out
        have y13 : wa.cell? ⟨cb, 1, none⟩ = some (.slice (some ⟨bq, oq, none⟩) nl cl) := Y1.out wa HB3.out
        go_wp2
        go_ret
        exact ⟨rfl, HB3.out⟩
      | true =>
        cases hh : ah.any (fun y => y.2.2 == a || y.1 == r && y.2.1 == (m : Int)) with
        | true =>
          have e : pcode nr ls (r, (m : Int), a) ah = 110 := by
            unfold pcode
            simp only [hp1, hp2, ho, hh, hln, hg, Int.toNat_natCast]
            try rfl
          rw [e]
          rw [hp1] at HP1
          rw [hp2] at HP2
          rw [ho] at HO
          rw [hh] at HH
          clear e hp1 hp2 ho hh
          generalize erS ads 110 = E110 at *
          generalize erS ads 111 = E111 at *
          generalize erS ads 112 = E112 at *
          have g1100 : (w.alloc (.cells #[.int .i64 r, .int .i64 (m : Int), .int .u32 a] 80)).cell? ⟨0, 0, none⟩ = some E110 := G110.out (w.alloc (.cells #[.int .i64 r, .int .i64 (m : Int), .int .u32 a] 80)) HB0.out
          have g1110 : (w.alloc (.cells #[.int .i64 r, .int .i64 (m : Int), .int .u32 a] 80)).cell? ⟨3, 0, none⟩ = some E111 := G111.out (w.alloc (.cells #[.int .i64 r, .int .i64 (m : Int), .int .u32 a] 80)) HB0.out
          have g1120 : (w.alloc (.cells #[.int .i64 r, .int .i64 (m : Int), .int .u32 a] 80)).cell? ⟨4, 0, none⟩ = some E112 := G112.out (w.alloc (.cells #[.int .i64 r, .int .i64 (m : Int), .int .u32 a] 80)) HB0.out
          have y00 : (w.alloc (.cells #[.int .i64 r, .int .i64 (m : Int), .int .u32 a] 80)).cell? ⟨cb, 0, none⟩ = some (.slice Ar nr cr) := Y0.out (w.alloc (.cells #[.int .i64 r, .int .i64 (m : Int), .int .u32 a] 80)) HB0.out
          have y10 : (w.alloc (.cells #[.int .i64 r, .int .i64 (m : Int), .int .u32 a] 80)).cell? ⟨cb, 1, none⟩ = some (.slice (some ⟨bq, oq, none⟩) nl cl) := Y1.out (w.alloc (.cells #[.int .i64 r, .int .i64 (m : Int), .int .u32 a] 80)) HB0.out
          go_enter Tryz.func162, Tryz.ntmps162
          go_wp2_with (first
            | (go_at_call 163; refine (HP1.out _).mono ?_; rintro e w1 ⟨rfl, rfl⟩)
            | (go_at_call 164; refine (HP2.out _).mono ?_; rintro e w2 ⟨rfl, rfl⟩))
          have hBW := HB0.out
          generalize (w.alloc (.cells #[.int .i64 r, .int .i64 (m : Int), .int .u32 a] 80)) = W0 at *
          have k0 : ∀ W, Below W0.heap.size W0 W → W.cell? ⟨w.heap.size, 0, none⟩ = some (.int .i64 r) := fun W hb => Blk.cell (HK0.out.next hb) 0
          have k1 : ∀ W, Below W0.heap.size W0 W → W.cell? ⟨w.heap.size, 1, none⟩ = some (.int .i64 (m : Int)) := fun W hb => Blk.cell (HK0.out.next hb) 1
          have k2 : ∀ W, Below W0.heap.size W0 W → W.cell? ⟨w.heap.size, 2, none⟩ = some (.int .u32 a) := fun W hb => Blk.cell (HK0.out.next hb) 2
          have ky0 : ∀ W, Below W0.heap.size W0 W → W.cell? ⟨cb, 0, none⟩ = some (.slice Ar nr cr) := fun W hb => Y0.out W (below_next hBW hb)
          have ky1 : ∀ W, Below W0.heap.size W0 W → W.cell? ⟨cb, 1, none⟩ = some (.slice (some ⟨bq, oq, none⟩) nl cl) := fun W hb => Y1.out W (below_next hBW hb)
          have kz0 : ∀ W, Below W0.heap.size W0 W → W.cell? ⟨bq, oq + m * 3, none⟩ = some (.string (str s1)) := fun W hb => Z0.out W (below_next hBW hb)
          have kz1 : ∀ W, Below W0.heap.size W0 W → W.cell? ⟨bq, oq + m * 3 + 1, none⟩ = some (.int .u32 a1) := fun W hb => Z1.out W (below_next hBW hb)
          have kz2 : ∀ W, Below W0.heap.size W0 W → W.cell? ⟨bq, oq + m * 3 + 2, none⟩ = some (.int .i64 b1) := fun W hb => Z2.out W (below_next hBW hb)
          have hS0 : Below W0.heap.size W0 W0.drew := (Below.refl _ _).drew
          go_region_held3 (fun w' => Below W0.heap.size W0 w')
            (first | with_reducible assumption | exact (Below.refl _ _).drew)
            (first | (go_at_call 165; refine (HO.out _).mono ?_; rintro e wa ⟨rfl, hb⟩; have hb2 := below_next (w := W0) (by with_reducible assumption) hb))
          have HB3 := Lib.hid (below_next hBW hb2)
          have HK3 := Lib.hid (HK0.out.next hb2)
          clear hb hb2 hBW kz0 kz1 kz2 hS0 k0 k1 k2 ky0 ky1
          have g1103 : wa.cell? ⟨0, 0, none⟩ = some E110 := G110.out wa HB3.out
          have g1113 : wa.cell? ⟨3, 0, none⟩ = some E111 := G111.out wa HB3.out
          have g1123 : wa.cell? ⟨4, 0, none⟩ = some E112 := G112.out wa HB3.out
          have x03 : wa.cell? ⟨w.heap.size, 0, none⟩ = some (.int .i64 r) := Blk.cell HK3.out 0
          have x13 : wa.cell? ⟨w.heap.size, 1, none⟩ = some (.int .i64 (m : Int)) := Blk.cell HK3.out 1
          have x23 : wa.cell? ⟨w.heap.size, 2, none⟩ = some (.int .u32 a) := Blk.cell HK3.out 2
          have y03 : wa.cell? ⟨cb, 0, none⟩ = some (.slice Ar nr cr) := Y0.out wa HB3.out
          have y13 : wa.cell? ⟨cb, 1, none⟩ = some (.slice (some ⟨bq, oq, none⟩) nl cl) := Y1.out wa HB3.out
          go_wp2_with (first
            | (go_at_call 166; refine (HH.out _ HB3.out HK3.out).mono ?_; rintro e w4 ⟨rfl, hb⟩
               have HB4 := Lib.hid (below_next HB3.out hb)
               have HK4 := Lib.hid (HK3.out.next hb)
               have g1104 : w4.cell? ⟨0, 0, none⟩ = some E110 := G110.out w4 HB4.out
               have g1114 : w4.cell? ⟨3, 0, none⟩ = some E111 := G111.out w4 HB4.out
               have g1124 : w4.cell? ⟨4, 0, none⟩ = some E112 := G112.out w4 HB4.out
               have x04 : w4.cell? ⟨w.heap.size, 0, none⟩ = some (.int .i64 r) := Blk.cell HK4.out 0
               have x14 : w4.cell? ⟨w.heap.size, 1, none⟩ = some (.int .i64 (m : Int)) := Blk.cell HK4.out 1
               have x24 : w4.cell? ⟨w.heap.size, 2, none⟩ = some (.int .u32 a) := Blk.cell HK4.out 2
               have y04 : w4.cell? ⟨cb, 0, none⟩ = some (.slice Ar nr cr) := Y0.out w4 HB4.out
               have y14 : w4.cell? ⟨cb, 1, none⟩ = some (.slice (some ⟨bq, oq, none⟩) nl cl) := Y1.out w4 HB4.out
               clear hb))
          go_ret
          exact ⟨rfl, HB4.out⟩
        | false =>
          have e : pcode nr ls (r, (m : Int), a) ah = 0 := by
            unfold pcode
            simp only [hp1, hp2, ho, hh, hln, hg, Int.toNat_natCast]
            try rfl
          rw [e]
          rw [hp1] at HP1
          rw [hp2] at HP2
          rw [ho] at HO
          rw [hh] at HH
          clear e hp1 hp2 ho hh
          have e0 : erS ads 0 = .nilIface := rfl
          rw [e0]
          clear e0
          generalize erS ads 110 = E110 at *
          generalize erS ads 111 = E111 at *
          generalize erS ads 112 = E112 at *
          have g1100 : (w.alloc (.cells #[.int .i64 r, .int .i64 (m : Int), .int .u32 a] 80)).cell? ⟨0, 0, none⟩ = some E110 := G110.out (w.alloc (.cells #[.int .i64 r, .int .i64 (m : Int), .int .u32 a] 80)) HB0.out
          have g1110 : (w.alloc (.cells #[.int .i64 r, .int .i64 (m : Int), .int .u32 a] 80)).cell? ⟨3, 0, none⟩ = some E111 := G111.out (w.alloc (.cells #[.int .i64 r, .int .i64 (m : Int), .int .u32 a] 80)) HB0.out
          have g1120 : (w.alloc (.cells #[.int .i64 r, .int .i64 (m : Int), .int .u32 a] 80)).cell? ⟨4, 0, none⟩ = some E112 := G112.out (w.alloc (.cells #[.int .i64 r, .int .i64 (m : Int), .int .u32 a] 80)) HB0.out
          have y00 : (w.alloc (.cells #[.int .i64 r, .int .i64 (m : Int), .int .u32 a] 80)).cell? ⟨cb, 0, none⟩ = some (.slice Ar nr cr) := Y0.out (w.alloc (.cells #[.int .i64 r, .int .i64 (m : Int), .int .u32 a] 80)) HB0.out
          have y10 : (w.alloc (.cells #[.int .i64 r, .int .i64 (m : Int), .int .u32 a] 80)).cell? ⟨cb, 1, none⟩ = some (.slice (some ⟨bq, oq, none⟩) nl cl) := Y1.out (w.alloc (.cells #[.int .i64 r, .int .i64 (m : Int), .int .u32 a] 80)) HB0.out
          go_enter Tryz.func162, Tryz.ntmps162
          go_wp2_with (first
            | (go_at_call 163; refine (HP1.out _).mono ?_; rintro e w1 ⟨rfl, rfl⟩)
            | (go_at_call 164; refine (HP2.out _).mono ?_; rintro e w2 ⟨rfl, rfl⟩))
          have hBW := HB0.out
          generalize (w.alloc (.cells #[.int .i64 r, .int .i64 (m : Int), .int .u32 a] 80)) = W0 at *
          have k0 : ∀ W, Below W0.heap.size W0 W → W.cell? ⟨w.heap.size, 0, none⟩ = some (.int .i64 r) := fun W hb => Blk.cell (HK0.out.next hb) 0
          have k1 : ∀ W, Below W0.heap.size W0 W → W.cell? ⟨w.heap.size, 1, none⟩ = some (.int .i64 (m : Int)) := fun W hb => Blk.cell (HK0.out.next hb) 1
          have k2 : ∀ W, Below W0.heap.size W0 W → W.cell? ⟨w.heap.size, 2, none⟩ = some (.int .u32 a) := fun W hb => Blk.cell (HK0.out.next hb) 2
          have ky0 : ∀ W, Below W0.heap.size W0 W → W.cell? ⟨cb, 0, none⟩ = some (.slice Ar nr cr) := fun W hb => Y0.out W (below_next hBW hb)
          have ky1 : ∀ W, Below W0.heap.size W0 W → W.cell? ⟨cb, 1, none⟩ = some (.slice (some ⟨bq, oq, none⟩) nl cl) := fun W hb => Y1.out W (below_next hBW hb)
          have kz0 : ∀ W, Below W0.heap.size W0 W → W.cell? ⟨bq, oq + m * 3, none⟩ = some (.string (str s1)) := fun W hb => Z0.out W (below_next hBW hb)
          have kz1 : ∀ W, Below W0.heap.size W0 W → W.cell? ⟨bq, oq + m * 3 + 1, none⟩ = some (.int .u32 a1) := fun W hb => Z1.out W (below_next hBW hb)
          have kz2 : ∀ W, Below W0.heap.size W0 W → W.cell? ⟨bq, oq + m * 3 + 2, none⟩ = some (.int .i64 b1) := fun W hb => Z2.out W (below_next hBW hb)
          have hS0 : Below W0.heap.size W0 W0.drew := (Below.refl _ _).drew
          go_region_held3 (fun w' => Below W0.heap.size W0 w')
            (first | with_reducible assumption | exact (Below.refl _ _).drew)
            (first | (go_at_call 165; refine (HO.out _).mono ?_; rintro e wa ⟨rfl, hb⟩; have hb2 := below_next (w := W0) (by with_reducible assumption) hb))
          have HB3 := Lib.hid (below_next hBW hb2)
          have HK3 := Lib.hid (HK0.out.next hb2)
          clear hb hb2 hBW kz0 kz1 kz2 hS0 k0 k1 k2 ky0 ky1
          have g1103 : wa.cell? ⟨0, 0, none⟩ = some E110 := G110.out wa HB3.out
          have g1113 : wa.cell? ⟨3, 0, none⟩ = some E111 := G111.out wa HB3.out
          have g1123 : wa.cell? ⟨4, 0, none⟩ = some E112 := G112.out wa HB3.out
          have x03 : wa.cell? ⟨w.heap.size, 0, none⟩ = some (.int .i64 r) := Blk.cell HK3.out 0
          have x13 : wa.cell? ⟨w.heap.size, 1, none⟩ = some (.int .i64 (m : Int)) := Blk.cell HK3.out 1
          have x23 : wa.cell? ⟨w.heap.size, 2, none⟩ = some (.int .u32 a) := Blk.cell HK3.out 2
          have y03 : wa.cell? ⟨cb, 0, none⟩ = some (.slice Ar nr cr) := Y0.out wa HB3.out
          have y13 : wa.cell? ⟨cb, 1, none⟩ = some (.slice (some ⟨bq, oq, none⟩) nl cl) := Y1.out wa HB3.out
          go_wp2_with (first
            | (go_at_call 166; refine (HH.out _ HB3.out HK3.out).mono ?_; rintro e w4 ⟨rfl, hb⟩
               have HB4 := Lib.hid (below_next HB3.out hb)
               have HK4 := Lib.hid (HK3.out.next hb)
               have g1104 : w4.cell? ⟨0, 0, none⟩ = some E110 := G110.out w4 HB4.out
               have g1114 : w4.cell? ⟨3, 0, none⟩ = some E111 := G111.out w4 HB4.out
               have g1124 : w4.cell? ⟨4, 0, none⟩ = some E112 := G112.out w4 HB4.out
               have x04 : w4.cell? ⟨w.heap.size, 0, none⟩ = some (.int .i64 r) := Blk.cell HK4.out 0
               have x14 : w4.cell? ⟨w.heap.size, 1, none⟩ = some (.int .i64 (m : Int)) := Blk.cell HK4.out 1
               have x24 : w4.cell? ⟨w.heap.size, 2, none⟩ = some (.int .u32 a) := Blk.cell HK4.out 2
               have y04 : w4.cell? ⟨cb, 0, none⟩ = some (.slice Ar nr cr) := Y0.out w4 HB4.out
               have y14 : w4.cell? ⟨cb, 1, none⟩ = some (.slice (some ⟨bq, oq, none⟩) nl cl) := Y1.out w4 HB4.out
               clear hb))
          go_ret
          exact ⟨rfl, HB4.out⟩
end Go.Proofs.YtdljpokhcfhhfaaGreatDoor
namespace Go.Proofs.YtdljpokhcfhhfaaGreatDoor
open Go.RowKit Go.Lib Lx
set_option maxHeartbeats 2000000 in
theorem ranges1_any (ads : List Addr) (a b r : Int) (A : Option Addr) (n c : Nat) (ah : List (Int × Int × Int)) (w : World) (hS : EnvC ads w) (ha : IRange w A n ah) (hn : n ≤ 1000) (h0 : 0 ≤ a) (h1 : a ≤ 4294967295) (r0 : 0 ≤ r) (r1 : r ≤ 4294967295) :
    Calls Tryz.prog 172 #[.agg #[.int .u32 a, .int .i64 b, .int .u32 r], .slice A n c] w fun e w' => e = .returned (erS ads (gcode (a, b, r) ah)) ∧ Below w.heap.size w w' := by
  have HS := Lib.hid hS
  have HB0 := Lib.hid (show Below w.heap.size w (w.alloc (.cells #[.int .u32 a, .int .i64 b, .int .u32 r] 149)) from (Below.refl _ _).alloc (Nat.le_refl _) _)
  have HK0 := Lib.hid (show Blk (w.alloc (.cells #[.int .u32 a, .int .i64 b, .int .u32 r] 149)) w.heap.size 149 #[.int .u32 a, .int .i64 b, .int .u32 r] from Blk.new _ _ _)
  have G103 : Hid (∀ W, Below w.heap.size w W → W.cell? ⟨1, 0, none⟩ = some (erS ads 103)) := fun W hb => erS_cell (hS.below hb) (j := 2) (by decide) rfl
  have G110 : Hid (∀ W, Below w.heap.size w W → W.cell? ⟨0, 0, none⟩ = some (erS ads 110)) := fun W hb => erS_cell (hS.below hb) (j := 9) (by decide) rfl
  have G113 : Hid (∀ W, Below w.heap.size w W → W.cell? ⟨2, 0, none⟩ = some (erS ads 113)) := fun W hb => erS_cell (hS.below hb) (j := 12) (by decide) rfl
  clear hS
  have HV := Lib.hid (fun W => valid_any a b W h0 h1)
  have HW1 := Lib.hid (fun W => within_any a b 3758096384 4 W h0 h1 (by decide) (by decide))
  have HO := Lib.hid (fun W => single_any r W r0 r1)
  have hc0 : (w.alloc (.cells #[.int .u32 a, .int .i64 b, .int .u32 r] 149)).cell? ⟨w.heap.size, 0, none⟩ = some (.int .u32 a) := Blk.cell HK0.out 0
  have hc1 : (w.alloc (.cells #[.int .u32 a, .int .i64 b, .int .u32 r] 149)).cell? ⟨w.heap.size, 1, none⟩ = some (.int .i64 b) := Blk.cell HK0.out 1
  have HH := Lib.hid (fun W (hB : Below w.heap.size w W) (hK : Blk W w.heap.size 149 #[.int .u32 a, .int .i64 b, .int .u32 r]) => hasRange 174 #[.pointer (some ⟨w.heap.size, 0, none⟩)] (enters_of Tryz.func174 (by kernel_rfl) rfl) (fun y => y.1 == a && y.2.1 == b) A n c ah W (ha.next hB) (by omega)
    (fun W2 i x _ hb => ranges11 a b x.1 x.2.1 x.2.2 w.heap.size W2 (Blk.cell (hK.next hb) 0) (Blk.cell (hK.next hb) 1)))
  clear ha h0 h1 r0 r1 hc0 hc1
  cases hv : Ad.valid a b with
  | false =>
    have e : gcode (a, b, r) ah = 103 := by unfold gcode; simp [hv]
    rw [e]
    rw [hv] at HV
    clear e hv
    generalize erS ads 103 = E103 at *
    generalize erS ads 110 = E110 at *
    generalize erS ads 113 = E113 at *
    have g1030 : (w.alloc (.cells #[.int .u32 a, .int .i64 b, .int .u32 r] 149)).cell? ⟨1, 0, none⟩ = some E103 := G103.out (w.alloc (.cells #[.int .u32 a, .int .i64 b, .int .u32 r] 149)) HB0.out
    have g1100 : (w.alloc (.cells #[.int .u32 a, .int .i64 b, .int .u32 r] 149)).cell? ⟨0, 0, none⟩ = some E110 := G110.out (w.alloc (.cells #[.int .u32 a, .int .i64 b, .int .u32 r] 149)) HB0.out
    have g1130 : (w.alloc (.cells #[.int .u32 a, .int .i64 b, .int .u32 r] 149)).cell? ⟨2, 0, none⟩ = some E113 := G113.out (w.alloc (.cells #[.int .u32 a, .int .i64 b, .int .u32 r] 149)) HB0.out
    go_enter Tryz.func172, Tryz.ntmps172
    go_wp2_with (first
      | (go_at_call 158; refine (HV.out _).mono ?_; rintro e w1 ⟨rfl, hb⟩
         have HB1 := Lib.hid (below_next HB0.out hb)
         have HK1 := Lib.hid (HK0.out.next hb)
         have g1031 : w1.cell? ⟨1, 0, none⟩ = some E103 := G103.out w1 HB1.out
         have g1101 : w1.cell? ⟨0, 0, none⟩ = some E110 := G110.out w1 HB1.out
         have g1131 : w1.cell? ⟨2, 0, none⟩ = some E113 := G113.out w1 HB1.out
         have x01 : w1.cell? ⟨w.heap.size, 0, none⟩ = some (.int .u32 a) := Blk.cell HK1.out 0
         have x11 : w1.cell? ⟨w.heap.size, 1, none⟩ = some (.int .i64 b) := Blk.cell HK1.out 1
         have x21 : w1.cell? ⟨w.heap.size, 2, none⟩ = some (.int .u32 r) := Blk.cell HK1.out 2
         clear hb))
    go_ret
    exact ⟨rfl, HB1.out⟩
  | true =>
    cases hw : Ad.within a b 3758096384 4 with
    | false =>
      have e : gcode (a, b, r) ah = 113 := by unfold gcode; simp [hv, hw]
      rw [e]
      rw [hv] at HV
      rw [hw] at HW1
      clear e hv hw
      generalize erS ads 103 = E103 at *
      generalize erS ads 110 = E110 at *
      generalize erS ads 113 = E113 at *
      have g1030 : (w.alloc (.cells #[.int .u32 a, .int .i64 b, .int .u32 r] 149)).cell? ⟨1, 0, none⟩ = some E103 := G103.out (w.alloc (.cells #[.int .u32 a, .int .i64 b, .int .u32 r] 149)) HB0.out
      have g1100 : (w.alloc (.cells #[.int .u32 a, .int .i64 b, .int .u32 r] 149)).cell? ⟨0, 0, none⟩ = some E110 := G110.out (w.alloc (.cells #[.int .u32 a, .int .i64 b, .int .u32 r] 149)) HB0.out
      have g1130 : (w.alloc (.cells #[.int .u32 a, .int .i64 b, .int .u32 r] 149)).cell? ⟨2, 0, none⟩ = some E113 := G113.out (w.alloc (.cells #[.int .u32 a, .int .i64 b, .int .u32 r] 149)) HB0.out
      go_enter Tryz.func172, Tryz.ntmps172
      go_wp2_with (first
        | (go_at_call 158; refine (HV.out _).mono ?_; rintro e w1 ⟨rfl, hb⟩
           have HB1 := Lib.hid (below_next HB0.out hb)
           have HK1 := Lib.hid (HK0.out.next hb)
           have g1031 : w1.cell? ⟨1, 0, none⟩ = some E103 := G103.out w1 HB1.out
           have g1101 : w1.cell? ⟨0, 0, none⟩ = some E110 := G110.out w1 HB1.out
           have g1131 : w1.cell? ⟨2, 0, none⟩ = some E113 := G113.out w1 HB1.out
           have x01 : w1.cell? ⟨w.heap.size, 0, none⟩ = some (.int .u32 a) := Blk.cell HK1.out 0
           have x11 : w1.cell? ⟨w.heap.size, 1, none⟩ = some (.int .i64 b) := Blk.cell HK1.out 1
           have x21 : w1.cell? ⟨w.heap.size, 2, none⟩ = some (.int .u32 r) := Blk.cell HK1.out 2
           clear hb))
      have k0 : ∀ W, Below w1.heap.size w1 W → W.cell? ⟨w.heap.size, 0, none⟩ = some (.int .u32 a) := fun W hb => (hb.cell (World.block_lt_of_cell? _ _ x01)).trans x01
      have k1 : ∀ W, Below w1.heap.size w1 W → W.cell? ⟨w.heap.size, 1, none⟩ = some (.int .i64 b) := fun W hb => (hb.cell (World.block_lt_of_cell? _ _ x11)).trans x11
      have k2 : ∀ W, Below w1.heap.size w1 W → W.cell? ⟨w.heap.size, 2, none⟩ = some (.int .u32 r) := fun W hb => (hb.cell (World.block_lt_of_cell? _ _ x21)).trans x21
      have hS0 : Below w1.heap.size w1 w1.drew := (Below.refl _ _).drew
      refine wp_region_held_drew (S := fun w' => Below w1.heap.size w1 w') (by kernel_rfl) hS0 (fun hHeld => ?_)
      have hH : Below w1.heap.size w1 w1.drew := hHeld
      clear hHeld hS0
      refine wpAnyH_take (i := 0) (v := .pointer (some ⟨w.heap.size, 0, none⟩)) rfl (by kernel_rfl) (by kernel_rfl) (by kernel_rfl) (fun _ _ _ h => h) (Or.inl ⟨by rfl, fun w' hSw => by (try dsimp only at hSw); go_simp⟩) hH ?_
      try go_simp
      refine wpAnyH_take (i := 1) (v := .agg #[.int .u32 a, .int .i64 b]) rfl (by kernel_rfl) (by kernel_rfl) (by kernel_rfl) (fun _ _ _ h => h) (Or.inl ⟨by rfl, fun w' hSw => by (try dsimp only at hSw); go_simp⟩) hH ?_
      try go_simp
      refine wpAnyH_ready (rs := [2]) (by kernel_rfl) (by simp) ?_
      refine AllReadyH.cons rfl (fun K hK => ?_) AllReadyH.nil
      go_simp
      refine (groups_any _).mono ?_
      rintro e wa ⟨rfl, hb⟩
      have hb' := below_next (w := w1) hH hb
      refine hK.out _ _ hb' (fun hHeld => ?_)
      clear hK K hH hb hHeld
      have hH := hb'
      clear hb'
      try go_simp
      refine wpAnyH_ready (rs := [3]) (by kernel_rfl) (by simp) ?_
      refine AllReadyH.cons rfl (fun K hK => ?_) AllReadyH.nil
      go_simp
      refine (HW1.out _).mono ?_
      rintro e wa ⟨rfl, hb⟩
      have hb' := below_next (w := w1) hH hb
      refine hK.out _ _ hb' (fun hHeld => ?_)
      clear hK K hH hb hHeld
      have hH := hb'
      clear hb'
      try go_simp
      refine wpAnyH_take (i := 4) (v := .bool true) rfl (by kernel_rfl) (by kernel_rfl) (by kernel_rfl) (fun _ _ _ h => h) (Or.inl ⟨by rfl, fun w' hSw => by (try dsimp only at hSw); go_simp⟩) hH ?_
      try go_simp
      refine wpAnyH_take (i := 5) (v := .bool true) rfl (by kernel_rfl) (by kernel_rfl) (by kernel_rfl) (fun _ _ _ h => h) (Or.inl ⟨by rfl, fun w' hSw => by (try dsimp only at hSw); go_simp⟩) hH ?_
      try go_simp
      refine wpAnyH_take (i := 6) (v := undef) rfl (by kernel_rfl) (by kernel_rfl) (by kernel_rfl) (fun _ _ _ h => h) (Or.inr ⟨by rfl, rfl⟩) hH ?_
      try go_simp
      refine wpAnyH_take (i := 7) (v := undef) rfl (by kernel_rfl) (by kernel_rfl) (by kernel_rfl) (fun _ _ _ h => h) (Or.inr ⟨by rfl, rfl⟩) hH ?_
      try go_simp
      refine wpAnyH_take (i := 8) (v := undef) rfl (by kernel_rfl) (by kernel_rfl) (by kernel_rfl) (fun _ _ _ h => h) (Or.inr ⟨by rfl, rfl⟩) hH ?_
      try go_simp
      refine wpAnyH_take (i := 9) (v := undef) rfl (by kernel_rfl) (by kernel_rfl) (by kernel_rfl) (fun _ _ _ h => h) (Or.inr ⟨by rfl, rfl⟩) hH ?_
      try go_simp
      refine wpAnyH_take (i := 10) (v := .bool true) rfl (by kernel_rfl) (by kernel_rfl) (by kernel_rfl) (fun _ _ _ h => h) (Or.inl ⟨by rfl, fun w' hSw => by (try dsimp only at hSw); go_simp⟩) hH ?_
      try go_simp
      refine wpAnyH_take (i := 11) (v := .bool true) rfl (by kernel_rfl) (by kernel_rfl) (by kernel_rfl) (fun _ _ _ h => h) (Or.inl ⟨by rfl, fun w' hSw => by (try dsimp only at hSw); go_simp⟩) hH ?_
      try go_simp
      refine wpAnyH_done (by kernel_rfl) ?_ _
      have HB2 := Lib.hid (below_next HB1.out hH)
      have HK2 := Lib.hid (HK1.out.next hH)
      clear k0 k1 k2
      clear hH
      have g1032 : wa.cell? ⟨1, 0, none⟩ = some E103 := G103.out wa HB2.out
      have g1102 : wa.cell? ⟨0, 0, none⟩ = some E110 := G110.out wa HB2.out
      have g1132 : wa.cell? ⟨2, 0, none⟩ = some E113 := G113.out wa HB2.out
      have x02 : wa.cell? ⟨w.heap.size, 0, none⟩ = some (.int .u32 a) := Blk.cell HK2.out 0
      have x12 : wa.cell? ⟨w.heap.size, 1, none⟩ = some (.int .i64 b) := Blk.cell HK2.out 1
      have x22 : wa.cell? ⟨w.heap.size, 2, none⟩ = some (.int .u32 r) := Blk.cell HK2.out 2
      go_wp2
      go_ret
      exact ⟨rfl, HB2.out⟩
    | true =>
      cases ho : oneA r with
      | false =>
        have e : gcode (a, b, r) ah = 113 := by unfold gcode; simp [hv, hw, ho]
        rw [e]
        rw [hv] at HV
        rw [hw] at HW1
        rw [ho] at HO
        clear e hv hw ho
        generalize erS ads 103 = E103 at *
        generalize erS ads 110 = E110 at *
        generalize erS ads 113 = E113 at *
        have g1030 : (w.alloc (.cells #[.int .u32 a, .int .i64 b, .int .u32 r] 149)).cell? ⟨1, 0, none⟩ = some E103 := G103.out (w.alloc (.cells #[.int .u32 a, .int .i64 b, .int .u32 r] 149)) HB0.out
        have g1100 : (w.alloc (.cells #[.int .u32 a, .int .i64 b, .int .u32 r] 149)).cell? ⟨0, 0, none⟩ = some E110 := G110.out (w.alloc (.cells #[.int .u32 a, .int .i64 b, .int .u32 r] 149)) HB0.out
        have g1130 : (w.alloc (.cells #[.int .u32 a, .int .i64 b, .int .u32 r] 149)).cell? ⟨2, 0, none⟩ = some E113 := G113.out (w.alloc (.cells #[.int .u32 a, .int .i64 b, .int .u32 r] 149)) HB0.out
        go_enter Tryz.func172, Tryz.ntmps172
        go_wp2_with (first
          | (go_at_call 158; refine (HV.out _).mono ?_; rintro e w1 ⟨rfl, hb⟩
             have HB1 := Lib.hid (below_next HB0.out hb)
             have HK1 := Lib.hid (HK0.out.next hb)
             have g1031 : w1.cell? ⟨1, 0, none⟩ = some E103 := G103.out w1 HB1.out
             have g1101 : w1.cell? ⟨0, 0, none⟩ = some E110 := G110.out w1 HB1.out
             have g1131 : w1.cell? ⟨2, 0, none⟩ = some E113 := G113.out w1 HB1.out
             have x01 : w1.cell? ⟨w.heap.size, 0, none⟩ = some (.int .u32 a) := Blk.cell HK1.out 0
             have x11 : w1.cell? ⟨w.heap.size, 1, none⟩ = some (.int .i64 b) := Blk.cell HK1.out 1
             have x21 : w1.cell? ⟨w.heap.size, 2, none⟩ = some (.int .u32 r) := Blk.cell HK1.out 2
             clear hb))
        have k0 : ∀ W, Below w1.heap.size w1 W → W.cell? ⟨w.heap.size, 0, none⟩ = some (.int .u32 a) := fun W hb => (hb.cell (World.block_lt_of_cell? _ _ x01)).trans x01
        have k1 : ∀ W, Below w1.heap.size w1 W → W.cell? ⟨w.heap.size, 1, none⟩ = some (.int .i64 b) := fun W hb => (hb.cell (World.block_lt_of_cell? _ _ x11)).trans x11
        have k2 : ∀ W, Below w1.heap.size w1 W → W.cell? ⟨w.heap.size, 2, none⟩ = some (.int .u32 r) := fun W hb => (hb.cell (World.block_lt_of_cell? _ _ x21)).trans x21
        have hS0 : Below w1.heap.size w1 w1.drew := (Below.refl _ _).drew
        refine wp_region_held_drew (S := fun w' => Below w1.heap.size w1 w') (by kernel_rfl) hS0 (fun hHeld => ?_)
        have hH : Below w1.heap.size w1 w1.drew := hHeld
        clear hHeld hS0
        refine wpAnyH_take (i := 0) (v := .pointer (some ⟨w.heap.size, 0, none⟩)) rfl (by kernel_rfl) (by kernel_rfl) (by kernel_rfl) (fun _ _ _ h => h) (Or.inl ⟨by rfl, fun w' hSw => by (try dsimp only at hSw); go_simp⟩) hH ?_
        try go_simp
        refine wpAnyH_take (i := 1) (v := .agg #[.int .u32 a, .int .i64 b]) rfl (by kernel_rfl) (by kernel_rfl) (by kernel_rfl) (fun _ _ _ h => h) (Or.inl ⟨by rfl, fun w' hSw => by (try dsimp only at hSw); go_simp⟩) hH ?_
        try go_simp
        refine wpAnyH_ready (rs := [2]) (by kernel_rfl) (by simp) ?_
        refine AllReadyH.cons rfl (fun K hK => ?_) AllReadyH.nil
        go_simp
        refine (groups_any _).mono ?_
        rintro e wa ⟨rfl, hb⟩
        have hb' := below_next (w := w1) hH hb
        refine hK.out _ _ hb' (fun hHeld => ?_)
        clear hK K hH hb hHeld
        have hH := hb'
        clear hb'
        try go_simp
        refine wpAnyH_ready (rs := [3]) (by kernel_rfl) (by simp) ?_
        refine AllReadyH.cons rfl (fun K hK => ?_) AllReadyH.nil
        go_simp
        refine (HW1.out _).mono ?_
        rintro e wa ⟨rfl, hb⟩
        have hb' := below_next (w := w1) hH hb
        refine hK.out _ _ hb' (fun hHeld => ?_)
        clear hK K hH hb hHeld
        have hH := hb'
        clear hb'
        try go_simp
        refine wpAnyH_take (i := 4) (v := .bool false) rfl (by kernel_rfl) (by kernel_rfl) (by kernel_rfl) (fun _ _ _ h => h) (Or.inl ⟨by rfl, fun w' hSw => by (try dsimp only at hSw); go_simp⟩) hH ?_
        try go_simp
        refine wpAnyH_take (i := 5) (v := .bool false) rfl (by kernel_rfl) (by kernel_rfl) (by kernel_rfl) (fun _ _ _ h => h) (Or.inl ⟨by rfl, fun w' hSw => by (try dsimp only at hSw); go_simp⟩) hH ?_
        try go_simp
        refine wpAnyH_take (i := 6) (v := .pointer (some ⟨w.heap.size, 2, none⟩)) rfl (by kernel_rfl) (by kernel_rfl) (by kernel_rfl) (fun _ _ _ h => h) (Or.inl ⟨by rfl, fun w' hSw => by (try dsimp only at hSw); go_simp⟩) hH ?_
        try go_simp
        refine wpAnyH_take (i := 7) (v := .int .u32 r) rfl (by kernel_rfl) (by kernel_rfl) (by kernel_rfl) (fun _ _ _ h => h) (Or.inl ⟨by rfl, fun w' hSw => by (try dsimp only at hSw); go_simp⟩) hH ?_
        try go_simp
        refine wpAnyH_ready (rs := [8]) (by kernel_rfl) (by simp) ?_
        refine AllReadyH.cons rfl (fun K hK => ?_) AllReadyH.nil
        go_simp
        refine (HO.out _).mono ?_
        rintro e wa ⟨rfl, rfl⟩
        have hb' := hH
        refine hK.out _ _ hb' (fun hHeld => ?_)
        clear hK K hH hHeld
        have hH := hb'
        clear hb'
        try go_simp
        refine wpAnyH_take (i := 9) (v := .bool true) rfl (by kernel_rfl) (by kernel_rfl) (by kernel_rfl) (fun _ _ _ h => h) (Or.inl ⟨by rfl, fun w' hSw => by (try dsimp only at hSw); go_simp⟩) hH ?_
        try go_simp
        refine wpAnyH_take (i := 10) (v := .bool true) rfl (by kernel_rfl) (by kernel_rfl) (by kernel_rfl) (fun _ _ _ h => h) (Or.inl ⟨by rfl, fun w' hSw => by (try dsimp only at hSw); go_simp⟩) hH ?_
        try go_simp
        refine wpAnyH_take (i := 11) (v := .bool true) rfl (by kernel_rfl) (by kernel_rfl) (by kernel_rfl) (fun _ _ _ h => h) (Or.inl ⟨by rfl, fun w' hSw => by (try dsimp only at hSw); go_simp⟩) hH ?_
        try go_simp
        refine wpAnyH_done (by kernel_rfl) ?_ _
        have HB2 := Lib.hid (below_next HB1.out hH)
        have HK2 := Lib.hid (HK1.out.next hH)
        clear k0 k1 k2
        clear hH
        have g1032 : wa.cell? ⟨1, 0, none⟩ = some E103 := G103.out wa HB2.out
        have g1102 : wa.cell? ⟨0, 0, none⟩ = some E110 := G110.out wa HB2.out
        have g1132 : wa.cell? ⟨2, 0, none⟩ = some E113 := G113.out wa HB2.out
        have x02 : wa.cell? ⟨w.heap.size, 0, none⟩ = some (.int .u32 a) := Blk.cell HK2.out 0
        have x12 : wa.cell? ⟨w.heap.size, 1, none⟩ = some (.int .i64 b) := Blk.cell HK2.out 1
        have x22 : wa.cell? ⟨w.heap.size, 2, none⟩ = some (.int .u32 r) := Blk.cell HK2.out 2
        go_wp2
        go_ret
        exact ⟨rfl, HB2.out⟩
      | true =>
        cases hh : ah.any (fun y => y.1 == a && y.2.1 == b) with
        | true =>
          have e : gcode (a, b, r) ah = 110 := by unfold gcode; simp [hv, hw, ho, hh]
          rw [e]
          rw [hv] at HV
          rw [hw] at HW1
          rw [ho] at HO
          rw [hh] at HH
          clear e hv hw ho hh
          generalize erS ads 103 = E103 at *
          generalize erS ads 110 = E110 at *
          generalize erS ads 113 = E113 at *
          have g1030 : (w.alloc (.cells #[.int .u32 a, .int .i64 b, .int .u32 r] 149)).cell? ⟨1, 0, none⟩ = some E103 := G103.out (w.alloc (.cells #[.int .u32 a, .int .i64 b, .int .u32 r] 149)) HB0.out
          have g1100 : (w.alloc (.cells #[.int .u32 a, .int .i64 b, .int .u32 r] 149)).cell? ⟨0, 0, none⟩ = some E110 := G110.out (w.alloc (.cells #[.int .u32 a, .int .i64 b, .int .u32 r] 149)) HB0.out
          have g1130 : (w.alloc (.cells #[.int .u32 a, .int .i64 b, .int .u32 r] 149)).cell? ⟨2, 0, none⟩ = some E113 := G113.out (w.alloc (.cells #[.int .u32 a, .int .i64 b, .int .u32 r] 149)) HB0.out
          go_enter Tryz.func172, Tryz.ntmps172
          go_wp2_with (first
            | (go_at_call 158; refine (HV.out _).mono ?_; rintro e w1 ⟨rfl, hb⟩
               have HB1 := Lib.hid (below_next HB0.out hb)
               have HK1 := Lib.hid (HK0.out.next hb)
               have g1031 : w1.cell? ⟨1, 0, none⟩ = some E103 := G103.out w1 HB1.out
               have g1101 : w1.cell? ⟨0, 0, none⟩ = some E110 := G110.out w1 HB1.out
               have g1131 : w1.cell? ⟨2, 0, none⟩ = some E113 := G113.out w1 HB1.out
               have x01 : w1.cell? ⟨w.heap.size, 0, none⟩ = some (.int .u32 a) := Blk.cell HK1.out 0
               have x11 : w1.cell? ⟨w.heap.size, 1, none⟩ = some (.int .i64 b) := Blk.cell HK1.out 1
               have x21 : w1.cell? ⟨w.heap.size, 2, none⟩ = some (.int .u32 r) := Blk.cell HK1.out 2
               clear hb))
          have k0 : ∀ W, Below w1.heap.size w1 W → W.cell? ⟨w.heap.size, 0, none⟩ = some (.int .u32 a) := fun W hb => (hb.cell (World.block_lt_of_cell? _ _ x01)).trans x01
          have k1 : ∀ W, Below w1.heap.size w1 W → W.cell? ⟨w.heap.size, 1, none⟩ = some (.int .i64 b) := fun W hb => (hb.cell (World.block_lt_of_cell? _ _ x11)).trans x11
          have k2 : ∀ W, Below w1.heap.size w1 W → W.cell? ⟨w.heap.size, 2, none⟩ = some (.int .u32 r) := fun W hb => (hb.cell (World.block_lt_of_cell? _ _ x21)).trans x21
          have hS0 : Below w1.heap.size w1 w1.drew := (Below.refl _ _).drew
          refine wp_region_held_drew (S := fun w' => Below w1.heap.size w1 w') (by kernel_rfl) hS0 (fun hHeld => ?_)
          have hH : Below w1.heap.size w1 w1.drew := hHeld
          clear hHeld hS0
          refine wpAnyH_take (i := 0) (v := .pointer (some ⟨w.heap.size, 0, none⟩)) rfl (by kernel_rfl) (by kernel_rfl) (by kernel_rfl) (fun _ _ _ h => h) (Or.inl ⟨by rfl, fun w' hSw => by (try dsimp only at hSw); go_simp⟩) hH ?_
          try go_simp
          refine wpAnyH_take (i := 1) (v := .agg #[.int .u32 a, .int .i64 b]) rfl (by kernel_rfl) (by kernel_rfl) (by kernel_rfl) (fun _ _ _ h => h) (Or.inl ⟨by rfl, fun w' hSw => by (try dsimp only at hSw); go_simp⟩) hH ?_
          try go_simp
          refine wpAnyH_ready (rs := [2]) (by kernel_rfl) (by simp) ?_
          refine AllReadyH.cons rfl (fun K hK => ?_) AllReadyH.nil
          go_simp
          refine (groups_any _).mono ?_
          rintro e wa ⟨rfl, hb⟩
          have hb' := below_next (w := w1) hH hb
          refine hK.out _ _ hb' (fun hHeld => ?_)
          clear hK K hH hb hHeld
          have hH := hb'
          clear hb'
          try go_simp
          refine wpAnyH_ready (rs := [3]) (by kernel_rfl) (by simp) ?_
          refine AllReadyH.cons rfl (fun K hK => ?_) AllReadyH.nil
          go_simp
          refine (HW1.out _).mono ?_
          rintro e wa ⟨rfl, hb⟩
          have hb' := below_next (w := w1) hH hb
          refine hK.out _ _ hb' (fun hHeld => ?_)
          clear hK K hH hb hHeld
          have hH := hb'
          clear hb'
          try go_simp
          refine wpAnyH_take (i := 4) (v := .bool false) rfl (by kernel_rfl) (by kernel_rfl) (by kernel_rfl) (fun _ _ _ h => h) (Or.inl ⟨by rfl, fun w' hSw => by (try dsimp only at hSw); go_simp⟩) hH ?_
          try go_simp
          refine wpAnyH_take (i := 5) (v := .bool false) rfl (by kernel_rfl) (by kernel_rfl) (by kernel_rfl) (fun _ _ _ h => h) (Or.inl ⟨by rfl, fun w' hSw => by (try dsimp only at hSw); go_simp⟩) hH ?_
          try go_simp
          refine wpAnyH_take (i := 6) (v := .pointer (some ⟨w.heap.size, 2, none⟩)) rfl (by kernel_rfl) (by kernel_rfl) (by kernel_rfl) (fun _ _ _ h => h) (Or.inl ⟨by rfl, fun w' hSw => by (try dsimp only at hSw); go_simp⟩) hH ?_
          try go_simp
          refine wpAnyH_take (i := 7) (v := .int .u32 r) rfl (by kernel_rfl) (by kernel_rfl) (by kernel_rfl) (fun _ _ _ h => h) (Or.inl ⟨by rfl, fun w' hSw => by (try dsimp only at hSw); go_simp⟩) hH ?_
          try go_simp
          refine wpAnyH_ready (rs := [8]) (by kernel_rfl) (by simp) ?_
          refine AllReadyH.cons rfl (fun K hK => ?_) AllReadyH.nil
          go_simp
          refine (HO.out _).mono ?_
          rintro e wa ⟨rfl, rfl⟩
          have hb' := hH
          refine hK.out _ _ hb' (fun hHeld => ?_)
          clear hK K hH hHeld
          have hH := hb'
          clear hb'
          try go_simp
          refine wpAnyH_take (i := 9) (v := .bool false) rfl (by kernel_rfl) (by kernel_rfl) (by kernel_rfl) (fun _ _ _ h => h) (Or.inl ⟨by rfl, fun w' hSw => by (try dsimp only at hSw); go_simp⟩) hH ?_
          try go_simp
          refine wpAnyH_take (i := 10) (v := .bool false) rfl (by kernel_rfl) (by kernel_rfl) (by kernel_rfl) (fun _ _ _ h => h) (Or.inl ⟨by rfl, fun w' hSw => by (try dsimp only at hSw); go_simp⟩) hH ?_
          try go_simp
          refine wpAnyH_take (i := 11) (v := .bool false) rfl (by kernel_rfl) (by kernel_rfl) (by kernel_rfl) (fun _ _ _ h => h) (Or.inl ⟨by rfl, fun w' hSw => by (try dsimp only at hSw); go_simp⟩) hH ?_
          try go_simp
          refine wpAnyH_done (by kernel_rfl) ?_ _
          have HB2 := Lib.hid (below_next HB1.out hH)
          have HK2 := Lib.hid (HK1.out.next hH)
          clear k0 k1 k2
          clear hH
          have g1032 : wa.cell? ⟨1, 0, none⟩ = some E103 := G103.out wa HB2.out
          have g1102 : wa.cell? ⟨0, 0, none⟩ = some E110 := G110.out wa HB2.out
          have g1132 : wa.cell? ⟨2, 0, none⟩ = some E113 := G113.out wa HB2.out
          have x02 : wa.cell? ⟨w.heap.size, 0, none⟩ = some (.int .u32 a) := Blk.cell HK2.out 0
          have x12 : wa.cell? ⟨w.heap.size, 1, none⟩ = some (.int .i64 b) := Blk.cell HK2.out 1
          have x22 : wa.cell? ⟨w.heap.size, 2, none⟩ = some (.int .u32 r) := Blk.cell HK2.out 2
          go_wp2_with (first
            | (go_at_call 173; refine (HH.out _ HB2.out HK2.out).mono ?_; rintro e w3 ⟨rfl, hb⟩
               have HB3 := Lib.hid (below_next HB2.out hb)
               have HK3 := Lib.hid (HK2.out.next hb)
               have g1033 : w3.cell? ⟨1, 0, none⟩ = some E103 := G103.out w3 HB3.out
               have g1103 : w3.cell? ⟨0, 0, none⟩ = some E110 := G110.out w3 HB3.out
               have g1133 : w3.cell? ⟨2, 0, none⟩ = some E113 := G113.out w3 HB3.out
               have x03 : w3.cell? ⟨w.heap.size, 0, none⟩ = some (.int .u32 a) := Blk.cell HK3.out 0
               have x13 : w3.cell? ⟨w.heap.size, 1, none⟩ = some (.int .i64 b) := Blk.cell HK3.out 1
               have x23 : w3.cell? ⟨w.heap.size, 2, none⟩ = some (.int .u32 r) := Blk.cell HK3.out 2
               clear hb))
          go_ret
          exact ⟨rfl, HB3.out⟩
        | false =>
          have e : gcode (a, b, r) ah = 0 := by unfold gcode; simp [hv, hw, ho, hh]
          rw [e]
          rw [hv] at HV
          rw [hw] at HW1
          rw [ho] at HO
          rw [hh] at HH
          clear e hv hw ho hh
          have e0 : erS ads 0 = .nilIface := rfl
          rw [e0]
          clear e0
          generalize erS ads 103 = E103 at *
          generalize erS ads 110 = E110 at *
          generalize erS ads 113 = E113 at *
          have g1030 : (w.alloc (.cells #[.int .u32 a, .int .i64 b, .int .u32 r] 149)).cell? ⟨1, 0, none⟩ = some E103 := G103.out (w.alloc (.cells #[.int .u32 a, .int .i64 b, .int .u32 r] 149)) HB0.out
          have g1100 : (w.alloc (.cells #[.int .u32 a, .int .i64 b, .int .u32 r] 149)).cell? ⟨0, 0, none⟩ = some E110 := G110.out (w.alloc (.cells #[.int .u32 a, .int .i64 b, .int .u32 r] 149)) HB0.out
          have g1130 : (w.alloc (.cells #[.int .u32 a, .int .i64 b, .int .u32 r] 149)).cell? ⟨2, 0, none⟩ = some E113 := G113.out (w.alloc (.cells #[.int .u32 a, .int .i64 b, .int .u32 r] 149)) HB0.out
          go_enter Tryz.func172, Tryz.ntmps172
          go_wp2_with (first
            | (go_at_call 158; refine (HV.out _).mono ?_; rintro e w1 ⟨rfl, hb⟩
               have HB1 := Lib.hid (below_next HB0.out hb)
               have HK1 := Lib.hid (HK0.out.next hb)
               have g1031 : w1.cell? ⟨1, 0, none⟩ = some E103 := G103.out w1 HB1.out
               have g1101 : w1.cell? ⟨0, 0, none⟩ = some E110 := G110.out w1 HB1.out
               have g1131 : w1.cell? ⟨2, 0, none⟩ = some E113 := G113.out w1 HB1.out
               have x01 : w1.cell? ⟨w.heap.size, 0, none⟩ = some (.int .u32 a) := Blk.cell HK1.out 0
               have x11 : w1.cell? ⟨w.heap.size, 1, none⟩ = some (.int .i64 b) := Blk.cell HK1.out 1
               have x21 : w1.cell? ⟨w.heap.size, 2, none⟩ = some (.int .u32 r) := Blk.cell HK1.out 2
               clear hb))
          have k0 : ∀ W, Below w1.heap.size w1 W → W.cell? ⟨w.heap.size, 0, none⟩ = some (.int .u32 a) := fun W hb => (hb.cell (World.block_lt_of_cell? _ _ x01)).trans x01
          have k1 : ∀ W, Below w1.heap.size w1 W → W.cell? ⟨w.heap.size, 1, none⟩ = some (.int .i64 b) := fun W hb => (hb.cell (World.block_lt_of_cell? _ _ x11)).trans x11
          have k2 : ∀ W, Below w1.heap.size w1 W → W.cell? ⟨w.heap.size, 2, none⟩ = some (.int .u32 r) := fun W hb => (hb.cell (World.block_lt_of_cell? _ _ x21)).trans x21
          have hS0 : Below w1.heap.size w1 w1.drew := (Below.refl _ _).drew
          refine wp_region_held_drew (S := fun w' => Below w1.heap.size w1 w') (by kernel_rfl) hS0 (fun hHeld => ?_)
          have hH : Below w1.heap.size w1 w1.drew := hHeld
          clear hHeld hS0
          refine wpAnyH_take (i := 0) (v := .pointer (some ⟨w.heap.size, 0, none⟩)) rfl (by kernel_rfl) (by kernel_rfl) (by kernel_rfl) (fun _ _ _ h => h) (Or.inl ⟨by rfl, fun w' hSw => by (try dsimp only at hSw); go_simp⟩) hH ?_
          try go_simp
          refine wpAnyH_take (i := 1) (v := .agg #[.int .u32 a, .int .i64 b]) rfl (by kernel_rfl) (by kernel_rfl) (by kernel_rfl) (fun _ _ _ h => h) (Or.inl ⟨by rfl, fun w' hSw => by (try dsimp only at hSw); go_simp⟩) hH ?_
          try go_simp
          refine wpAnyH_ready (rs := [2]) (by kernel_rfl) (by simp) ?_
          refine AllReadyH.cons rfl (fun K hK => ?_) AllReadyH.nil
          go_simp
          refine (groups_any _).mono ?_
          rintro e wa ⟨rfl, hb⟩
          have hb' := below_next (w := w1) hH hb
          refine hK.out _ _ hb' (fun hHeld => ?_)
          clear hK K hH hb hHeld
          have hH := hb'
          clear hb'
          try go_simp
          refine wpAnyH_ready (rs := [3]) (by kernel_rfl) (by simp) ?_
          refine AllReadyH.cons rfl (fun K hK => ?_) AllReadyH.nil
          go_simp
          refine (HW1.out _).mono ?_
          rintro e wa ⟨rfl, hb⟩
          have hb' := below_next (w := w1) hH hb
          refine hK.out _ _ hb' (fun hHeld => ?_)
          clear hK K hH hb hHeld
          have hH := hb'
          clear hb'
          try go_simp
          refine wpAnyH_take (i := 4) (v := .bool false) rfl (by kernel_rfl) (by kernel_rfl) (by kernel_rfl) (fun _ _ _ h => h) (Or.inl ⟨by rfl, fun w' hSw => by (try dsimp only at hSw); go_simp⟩) hH ?_
          try go_simp
          refine wpAnyH_take (i := 5) (v := .bool false) rfl (by kernel_rfl) (by kernel_rfl) (by kernel_rfl) (fun _ _ _ h => h) (Or.inl ⟨by rfl, fun w' hSw => by (try dsimp only at hSw); go_simp⟩) hH ?_
          try go_simp
          refine wpAnyH_take (i := 6) (v := .pointer (some ⟨w.heap.size, 2, none⟩)) rfl (by kernel_rfl) (by kernel_rfl) (by kernel_rfl) (fun _ _ _ h => h) (Or.inl ⟨by rfl, fun w' hSw => by (try dsimp only at hSw); go_simp⟩) hH ?_
          try go_simp
          refine wpAnyH_take (i := 7) (v := .int .u32 r) rfl (by kernel_rfl) (by kernel_rfl) (by kernel_rfl) (fun _ _ _ h => h) (Or.inl ⟨by rfl, fun w' hSw => by (try dsimp only at hSw); go_simp⟩) hH ?_
          try go_simp
          refine wpAnyH_ready (rs := [8]) (by kernel_rfl) (by simp) ?_
          refine AllReadyH.cons rfl (fun K hK => ?_) AllReadyH.nil
          go_simp
          refine (HO.out _).mono ?_
          rintro e wa ⟨rfl, rfl⟩
          have hb' := hH
          refine hK.out _ _ hb' (fun hHeld => ?_)
          clear hK K hH hHeld
          have hH := hb'
          clear hb'
          try go_simp
          refine wpAnyH_take (i := 9) (v := .bool false) rfl (by kernel_rfl) (by kernel_rfl) (by kernel_rfl) (fun _ _ _ h => h) (Or.inl ⟨by rfl, fun w' hSw => by (try dsimp only at hSw); go_simp⟩) hH ?_
          try go_simp
          refine wpAnyH_take (i := 10) (v := .bool false) rfl (by kernel_rfl) (by kernel_rfl) (by kernel_rfl) (fun _ _ _ h => h) (Or.inl ⟨by rfl, fun w' hSw => by (try dsimp only at hSw); go_simp⟩) hH ?_
          try go_simp
          refine wpAnyH_take (i := 11) (v := .bool false) rfl (by kernel_rfl) (by kernel_rfl) (by kernel_rfl) (fun _ _ _ h => h) (Or.inl ⟨by rfl, fun w' hSw => by (try dsimp only at hSw); go_simp⟩) hH ?_
          try go_simp
          refine wpAnyH_done (by kernel_rfl) ?_ _
          have HB2 := Lib.hid (below_next HB1.out hH)
          have HK2 := Lib.hid (HK1.out.next hH)
          clear k0 k1 k2
          clear hH
          have g1032 : wa.cell? ⟨1, 0, none⟩ = some E103 := G103.out wa HB2.out
          have g1102 : wa.cell? ⟨0, 0, none⟩ = some E110 := G110.out wa HB2.out
          have g1132 : wa.cell? ⟨2, 0, none⟩ = some E113 := G113.out wa HB2.out
          have x02 : wa.cell? ⟨w.heap.size, 0, none⟩ = some (.int .u32 a) := Blk.cell HK2.out 0
          have x12 : wa.cell? ⟨w.heap.size, 1, none⟩ = some (.int .i64 b) := Blk.cell HK2.out 1
          have x22 : wa.cell? ⟨w.heap.size, 2, none⟩ = some (.int .u32 r) := Blk.cell HK2.out 2
          go_wp2_with (first
            | (go_at_call 173; refine (HH.out _ HB2.out HK2.out).mono ?_; rintro e w3 ⟨rfl, hb⟩
               have HB3 := Lib.hid (below_next HB2.out hb)
               have HK3 := Lib.hid (HK2.out.next hb)
               have g1033 : w3.cell? ⟨1, 0, none⟩ = some E103 := G103.out w3 HB3.out
               have g1103 : w3.cell? ⟨0, 0, none⟩ = some E110 := G110.out w3 HB3.out
               have g1133 : w3.cell? ⟨2, 0, none⟩ = some E113 := G113.out w3 HB3.out
               have x03 : w3.cell? ⟨w.heap.size, 0, none⟩ = some (.int .u32 a) := Blk.cell HK3.out 0
               have x13 : w3.cell? ⟨w.heap.size, 1, none⟩ = some (.int .i64 b) := Blk.cell HK3.out 1
               have x23 : w3.cell? ⟨w.heap.size, 2, none⟩ = some (.int .u32 r) := Blk.cell HK3.out 2
               clear hb))
          go_ret
          exact ⟨rfl, HB3.out⟩
end Go.Proofs.YtdljpokhcfhhfaaGreatDoor

