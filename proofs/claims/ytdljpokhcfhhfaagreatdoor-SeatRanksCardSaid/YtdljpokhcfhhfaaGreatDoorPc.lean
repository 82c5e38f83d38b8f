/- siftDownOrdered, heapSortOrdered, reverseRangeOrdered at addresses; over the seat's program. partitionOrdered at addresses; over the seat's program. -/
import Derived.Test.YtdljpokhcfhhfaaGreatDoorPa
import Derived.Sort.LotC
namespace Go.Proofs.YtdljpokhcfhhfaaGreatDoor
open Go.RowKit Sm

/-- the greater child -/
structure Ch (d : Array Int) (hi first r ch : Nat) : Prop where
  h : (ch = 2 * r + 2 ∧ 2 * r + 2 < hi ∧ d[first + (2 * r + 1)]! < d[first + (2 * r + 1) + 1]!) ∨ (ch = 2 * r + 1 ∧ 2 * r + 1 < hi ∧ ¬ (2 * r + 1 + 1 < hi ∧ d[first + (2 * r + 1)]! < d[first + (2 * r + 1) + 1]!))
theorem sift_end {d : Array Int} {hi first r : Nat} (h : hi ≤ 2 * r + 1) : Sort.siftDown Sort.ltInt hi first r d = d := by
  rw [Sort.siftDown, dif_pos h]
theorem sift_stop {d : Array Int} {hi first r ch : Nat} (h : Ch d hi first r ch) (hl : decide (d[first + r]! < d[first + ch]!) = false) : Sort.siftDown Sort.ltInt hi first r d = d := by
  have hl' : ¬ d[first + r]! < d[first + ch]! := by simpa using hl
  rw [Sort.siftDown]
  rcases h.h with ⟨rfl, h1, h2⟩ | ⟨rfl, h1, h2⟩
  · rw [dif_neg (by omega), if_pos (by simp [Sort.ltInt, h2]; omega), if_pos (by simpa [Sort.ltInt] using hl')]
  · rw [dif_neg (by omega), if_neg (by simpa [Sort.ltInt] using h2), if_pos (by simpa [Sort.ltInt] using hl')]
theorem sift_go {d : Array Int} {hi first r ch : Nat} (h : Ch d hi first r ch) (hl : decide (d[first + r]! < d[first + ch]!) = true) : Sort.siftDown Sort.ltInt hi first r d = Sort.siftDown Sort.ltInt hi first ch (Sort.swp d (first + r) (first + ch)) := by
  have hl' : d[first + r]! < d[first + ch]! := by simpa using hl
  conv => lhs; rw [Sort.siftDown]
  rcases h.h with ⟨rfl, h1, h2⟩ | ⟨rfl, h1, h2⟩
  · rw [dif_neg (by omega), if_pos (by simp [Sort.ltInt, h2]; omega), if_neg (by simpa [Sort.ltInt] using hl'), dif_pos (by omega)]
  · rw [dif_neg (by omega), if_neg (by simpa [Sort.ltInt] using h2), if_neg (by simpa [Sort.ltInt] using hl')]
set_option maxRecDepth 100000 in
set_option maxHeartbeats 4000000 in
theorem psift_any (base g n c lo hi first : Nat) (d : Array Int) (w : World) (h : Sd w base g n c d w) (hb : first + hi ≤ n) (hlo : lo ≤ hi) (hn2 : n ≤ 1000000000) :
    Calls Tryz.prog 255 #[.slice (some ⟨g, 0, none⟩) n c, .int .i64 (lo : Int), .int .i64 (hi : Int), .int .i64 (first : Int)] w fun e w' => e = .returned (.tuple #[]) ∧ Sd w base g n c (Sort.siftDown Sort.ltInt hi first lo d) w' := by
  have H0 := Lib.hid h
  clear h
  go_enter Tryz.func255, Tryz.ntmps255
  go_wp2
  go_loopw [8] (fun i wr => ∃ (r : Nat) (dk : Array Int), r ≤ hi ∧ i = .int .i64 (r : Int) ∧ Hid (Sort.siftDown Sort.ltInt hi first r dk = Sort.siftDown Sort.ltInt hi first lo d) ∧ Hid (Sd w base g n c dk wr)) (fun i _ => hi - (intOf i).toNat)
  case atStart => exact ⟨lo, d, hlo, rfl, Lib.hid rfl, H0⟩
  case round =>
    obtain ⟨r, dk, hr, rfl, HI, HS⟩ := hrel
    rcases Nat.lt_or_ge (2 * r + 1) hi with hk1 | hk1
    · have hlt : ¬ (hi : Int) ≤ 2 * (r : Int) + 1 := by omega
      go_upto_region 3 with fail
      obtain ⟨t, ht⟩ : ∃ t : Nat, t = 2 * r + 1 := ⟨_, rfl⟩
      have HT := Lib.hid ht
      have e1 : (2 : Int) * (r : Int) + 1 = (t : Int) := by omega
      have hth : t < hi := by omega
      rw [e1]
      clear e1 ht hlt hk1
      by_cases hc : t + 1 < hi
      · have q1 : (t : Int) + 1 < (hi : Int) := by omega
        obtain ⟨x, hx'⟩ : ∃ x, dk[first + t]! = x := ⟨_, rfl⟩
        have hx := Lib.hid hx'
        clear hx'
        obtain ⟨y, hy'⟩ : ∃ y, dk[first + t + 1]! = y := ⟨_, rfl⟩
        have hy := Lib.hid hy'
        clear hy'
        have k0 : ∀ p' : Snc wr, p'.W.cell? ⟨g, first + t, none⟩ = some (.int .u32 x) := fun p' => by rw [← hx.out]; exact (HS.out.since p'.b).cell (by omega)
        have k1 : ∀ p' : Snc wr, p'.W.cell? ⟨g, first + t + 1, none⟩ = some (.int .u32 y) := fun p' => by rw [← hy.out]; exact (HS.out.since p'.b).cell (by omega)
        have q2 : (first : Int) + (t : Int) < (n : Int) := by omega
        have q3 : (first : Int) + (t : Int) + 1 < (n : Int) := by omega
        have q4 : (0 : Int) ≤ (first : Int) + (t : Int) := by omega
        have q5 : (0 : Int) ≤ (first : Int) + (t : Int) + 1 := by omega
        cases hV : decide (x < y) with
        | true =>
          have R0 := lessV (w0 := wr) hV
          refine wp_region_since (by kernel_rfl) (by kernel_rfl) ?_
          repeat (go_big_quiet_step ((go_at_call 232; with_reducible exact R0 _)))
          refine wpQuiet_nil ?_
          rintro w5 ⟨P5, rfl⟩
          have HS5 := Lib.hid (HS.out.since P5.b)
          clear k0 k1 R0 q2 q3 q4 q5
          generalize P5.W = W5 at *
          clear HS
          have HC : Hid (Ch dk hi first r (t + 1)) := Lib.hid ⟨.inl ⟨by have := HT.out; omega, by have := HT.out; omega, by rw [← HT.out, hx.out, hy.out]; simpa using hV⟩⟩
          go_upto_region 5 with fail
          obtain ⟨ch, hch⟩ : ∃ ch : Nat, ch = t + 1 := ⟨_, rfl⟩
          have hchn : ch < hi := by omega
          have e2 : (t : Int) + 1 = (ch : Int) := by omega
          rw [e2]
          clear e2
          rw [← hch] at HC
          have hrc : r < ch := by have := HT.out; omega
          clear hch
          have q6 : (first : Int) + (ch : Int) < (n : Int) := by omega
          have q7 : (first : Int) + (r : Int) < (n : Int) := by omega
          have q8 : (0 : Int) ≤ (first : Int) + (ch : Int) := by omega
          have q9 : (0 : Int) ≤ (first : Int) + (r : Int) := by omega
          obtain ⟨u, hu'⟩ : ∃ u, dk[first + r]! = u := ⟨_, rfl⟩
          have hu := Lib.hid hu'
          clear hu'
          obtain ⟨v, hv'⟩ : ∃ v, dk[first + ch]! = v := ⟨_, rfl⟩
          have hv := Lib.hid hv'
          clear hv'
          have k0 : ∀ p' : Snc W5, p'.W.cell? ⟨g, first + r, none⟩ = some (.int .u32 u) := fun p' => by rw [← hu.out]; exact (HS5.out.since p'.b).cell (by omega)
          have k1 : ∀ p' : Snc W5, p'.W.cell? ⟨g, first + ch, none⟩ = some (.int .u32 v) := fun p' => by rw [← hv.out]; exact (HS5.out.since p'.b).cell (by omega)
          cases hU : decide (u < v) with
          | true =>
            have R0 := lessV (w0 := W5) hU
            have HG := Lib.hid ((sift_go HC.out (by rw [hu.out, hv.out]; exact hU)).symm.trans HI.out)
            refine wp_region_since (by kernel_rfl) (by kernel_rfl) ?_
            repeat (go_big_quiet_step ((go_at_call 232; with_reducible exact R0 _)))
            refine wpQuiet_nil ?_
            rintro w7 ⟨P7, rfl⟩
            have HS7 := Lib.hid (HS5.out.since P7.b)
            clear k0 k1 R0 hu hv
            generalize P7.W = W7 at *
            have bx : (first + r) < n := by omega
            have by_ : (first + ch) < n := by omega
            obtain ⟨vx, hvx'⟩ : ∃ vx, (dk)[(first + r)]! = vx := ⟨_, rfl⟩
            obtain ⟨vy, hvy'⟩ : ∃ vy, (dk)[(first + ch)]! = vy := ⟨_, rfl⟩
            have cx : W7.cell? ⟨g, (first + r), none⟩ = some (.int .u32 vx) := by rw [← hvx']; exact HS7.out.cell bx
            have cy : W7.cell? ⟨g, (first + ch), none⟩ = some (.int .u32 vy) := by rw [← hvy']; exact HS7.out.cell by_
            have fx : W7.frozen? ⟨g, (first + r), none⟩ = false := HS7.out.frozen _
            have fy : W7.frozen? ⟨g, (first + ch), none⟩ = false := HS7.out.frozen _
            obtain ⟨vz, cz⟩ := Go.RowKit.cell?_setCell_some (w := W7) (p := ⟨g, (first + r), none⟩) (x := .int .u32 vy) (q := ⟨g, (first + ch), none⟩) cy
            have HS6 : Hid (Sd w base g n c (Sort.swp (dk) (first + r) (first + ch)) ((W7.setCell ⟨g, (first + r), none⟩ (.int .u32 vy)).setCell ⟨g, (first + ch), none⟩ (.int .u32 vx)).drew) := Lib.hid (by
              rw [← hvx', ← hvy']
              exact (HS7.out.swap (first + r) (first + ch)).drew)
            clear hvx' hvy'
            go_upto_region 6 with fail
            go_region
            clear cx cy fx fy cz
            all_goals go_wp2
            all_goals go_roundw
            case rel => exact ⟨ch, _, by omega, rfl, HG, HS6⟩
            case measure => simp [intOf]; omega
          | false =>
            have R0 := lessV (w0 := W5) hU
            have HG := Lib.hid ((sift_stop HC.out (by rw [hu.out, hv.out]; exact hU)).symm.trans HI.out)
            refine wp_region_since (by kernel_rfl) (by kernel_rfl) ?_
            repeat (go_big_quiet_step ((go_at_call 232; with_reducible exact R0 _)))
            refine wpQuiet_nil ?_
            rintro w7 ⟨P7, rfl⟩
            have HS7 := Lib.hid (HS5.out.since P7.b)
            clear k0 k1 R0 hu hv
            go_wp2
            go_returns
            exact ⟨rfl, by rw [← HG.out]; exact HS7.out⟩
        | false =>
          have R0 := lessV (w0 := wr) hV
          refine wp_region_since (by kernel_rfl) (by kernel_rfl) ?_
          repeat (go_big_quiet_step ((go_at_call 232; with_reducible exact R0 _)))
          refine wpQuiet_nil ?_
          rintro w5 ⟨P5, rfl⟩
          have HS5 := Lib.hid (HS.out.since P5.b)
          clear k0 k1 R0 q2 q3 q4 q5
          generalize P5.W = W5 at *
          clear HS
          have HC : Hid (Ch dk hi first r t) := Lib.hid ⟨.inr ⟨HT.out, by have := HT.out; omega, fun hh => by have h2 := hh.2; rw [← HT.out, hx.out, hy.out] at h2; simp at hV; omega⟩⟩
          go_upto_region 5 with fail
          obtain ⟨ch, hch⟩ : ∃ ch : Nat, ch = t := ⟨_, rfl⟩
          have hchn : ch < hi := by omega
          rw [← hch]
          rw [← hch] at HC
          have hrc : r < ch := by have := HT.out; omega
          clear hch
          have q6 : (first : Int) + (ch : Int) < (n : Int) := by omega
          have q7 : (first : Int) + (r : Int) < (n : Int) := by omega
          have q8 : (0 : Int) ≤ (first : Int) + (ch : Int) := by omega
          have q9 : (0 : Int) ≤ (first : Int) + (r : Int) := by omega
          obtain ⟨u, hu'⟩ : ∃ u, dk[first + r]! = u := ⟨_, rfl⟩
          have hu := Lib.hid hu'
          clear hu'
          obtain ⟨v, hv'⟩ : ∃ v, dk[first + ch]! = v := ⟨_, rfl⟩
          have hv := Lib.hid hv'
          clear hv'
          have k0 : ∀ p' : Snc W5, p'.W.cell? ⟨g, first + r, none⟩ = some (.int .u32 u) := fun p' => by rw [← hu.out]; exact (HS5.out.since p'.b).cell (by omega)
          have k1 : ∀ p' : Snc W5, p'.W.cell? ⟨g, first + ch, none⟩ = some (.int .u32 v) := fun p' => by rw [← hv.out]; exact (HS5.out.since p'.b).cell (by omega)
          cases hU : decide (u < v) with
          | true =>
            have R0 := lessV (w0 := W5) hU
            have HG := Lib.hid ((sift_go HC.out (by rw [hu.out, hv.out]; exact hU)).symm.trans HI.out)
            refine wp_region_since (by kernel_rfl) (by kernel_rfl) ?_
            repeat (go_big_quiet_step ((go_at_call 232; with_reducible exact R0 _)))
            refine wpQuiet_nil ?_
            rintro w7 ⟨P7, rfl⟩
            have HS7 := Lib.hid (HS5.out.since P7.b)
            clear k0 k1 R0 hu hv
            generalize P7.W = W7 at *
            have bx : (first + r) < n := by omega
            have by_ : (first + ch) < n := by omega
            obtain ⟨vx, hvx'⟩ : ∃ vx, (dk)[(first + r)]! = vx := ⟨_, rfl⟩
            obtain ⟨vy, hvy'⟩ : ∃ vy, (dk)[(first + ch)]! = vy := ⟨_, rfl⟩
            have cx : W7.cell? ⟨g, (first + r), none⟩ = some (.int .u32 vx) := by rw [← hvx']; exact HS7.out.cell bx
            have cy : W7.cell? ⟨g, (first + ch), none⟩ = some (.int .u32 vy) := by rw [← hvy']; exact HS7.out.cell by_
            have fx : W7.frozen? ⟨g, (first + r), none⟩ = false := HS7.out.frozen _
            have fy : W7.frozen? ⟨g, (first + ch), none⟩ = false := HS7.out.frozen _
            obtain ⟨vz, cz⟩ := Go.RowKit.cell?_setCell_some (w := W7) (p := ⟨g, (first + r), none⟩) (x := .int .u32 vy) (q := ⟨g, (first + ch), none⟩) cy
            have HS6 : Hid (Sd w base g n c (Sort.swp (dk) (first + r) (first + ch)) ((W7.setCell ⟨g, (first + r), none⟩ (.int .u32 vy)).setCell ⟨g, (first + ch), none⟩ (.int .u32 vx)).drew) := Lib.hid (by
              rw [← hvx', ← hvy']
              exact (HS7.out.swap (first + r) (first + ch)).drew)
            clear hvx' hvy'
            go_upto_region 6 with fail
            go_region
            clear cx cy fx fy cz
            all_goals go_wp2
            all_goals go_roundw
            case rel => exact ⟨ch, _, by omega, rfl, HG, HS6⟩
            case measure => simp [intOf]; omega
          | false =>
            have R0 := lessV (w0 := W5) hU
            have HG := Lib.hid ((sift_stop HC.out (by rw [hu.out, hv.out]; exact hU)).symm.trans HI.out)
            refine wp_region_since (by kernel_rfl) (by kernel_rfl) ?_
            repeat (go_big_quiet_step ((go_at_call 232; with_reducible exact R0 _)))
            refine wpQuiet_nil ?_
            rintro w7 ⟨P7, rfl⟩
            have HS7 := Lib.hid (HS5.out.since P7.b)
            clear k0 k1 R0 hu hv
            go_wp2
            go_returns
            exact ⟨rfl, by rw [← HG.out]; exact HS7.out⟩

      · have q1 : ¬ (t : Int) + 1 < (hi : Int) := by omega
        refine wp_region_since (by kernel_rfl) (by kernel_rfl) ?_
        repeat (go_big_quiet_step (fail))
        refine wpQuiet_nil ?_
        rintro w5 ⟨P5, rfl⟩
        have HS5 := Lib.hid (HS.out.since P5.b)
        generalize P5.W = W5 at *
        clear HS
        have HC : Hid (Ch dk hi first r t) := Lib.hid ⟨.inr ⟨HT.out, by have := HT.out; omega, fun hh => by have := HT.out; omega⟩⟩
        go_upto_region 5 with fail
        obtain ⟨ch, hch⟩ : ∃ ch : Nat, ch = t := ⟨_, rfl⟩
        have hchn : ch < hi := by omega
        rw [← hch]
        rw [← hch] at HC
        have hrc : r < ch := by have := HT.out; omega
        clear hch
        have q6 : (first : Int) + (ch : Int) < (n : Int) := by omega
        have q7 : (first : Int) + (r : Int) < (n : Int) := by omega
        have q8 : (0 : Int) ≤ (first : Int) + (ch : Int) := by omega
        have q9 : (0 : Int) ≤ (first : Int) + (r : Int) := by omega
        obtain ⟨u, hu'⟩ : ∃ u, dk[first + r]! = u := ⟨_, rfl⟩
        have hu := Lib.hid hu'
        clear hu'
        obtain ⟨v, hv'⟩ : ∃ v, dk[first + ch]! = v := ⟨_, rfl⟩
        have hv := Lib.hid hv'
        clear hv'
        have k0 : ∀ p' : Snc W5, p'.W.cell? ⟨g, first + r, none⟩ = some (.int .u32 u) := fun p' => by rw [← hu.out]; exact (HS5.out.since p'.b).cell (by omega)
        have k1 : ∀ p' : Snc W5, p'.W.cell? ⟨g, first + ch, none⟩ = some (.int .u32 v) := fun p' => by rw [← hv.out]; exact (HS5.out.since p'.b).cell (by omega)
        cases hU : decide (u < v) with
        | true =>
          have R0 := lessV (w0 := W5) hU
          have HG := Lib.hid ((sift_go HC.out (by rw [hu.out, hv.out]; exact hU)).symm.trans HI.out)
          refine wp_region_since (by kernel_rfl) (by kernel_rfl) ?_
          repeat (go_big_quiet_step ((go_at_call 232; with_reducible exact R0 _)))
          refine wpQuiet_nil ?_
          rintro w7 ⟨P7, rfl⟩
          have HS7 := Lib.hid (HS5.out.since P7.b)
          clear k0 k1 R0 hu hv
          generalize P7.W = W7 at *
          have bx : (first + r) < n := by omega
          have by_ : (first + ch) < n := by omega
          obtain ⟨vx, hvx'⟩ : ∃ vx, (dk)[(first + r)]! = vx := ⟨_, rfl⟩
          obtain ⟨vy, hvy'⟩ : ∃ vy, (dk)[(first + ch)]! = vy := ⟨_, rfl⟩
          have cx : W7.cell? ⟨g, (first + r), none⟩ = some (.int .u32 vx) := by rw [← hvx']; exact HS7.out.cell bx
          have cy : W7.cell? ⟨g, (first + ch), none⟩ = some (.int .u32 vy) := by rw [← hvy']; exact HS7.out.cell by_
          have fx : W7.frozen? ⟨g, (first + r), none⟩ = false := HS7.out.frozen _
          have fy : W7.frozen? ⟨g, (first + ch), none⟩ = false := HS7.out.frozen _
          obtain ⟨vz, cz⟩ := Go.RowKit.cell?_setCell_some (w := W7) (p := ⟨g, (first + r), none⟩) (x := .int .u32 vy) (q := ⟨g, (first + ch), none⟩) cy
          have HS6 : Hid (Sd w base g n c (Sort.swp (dk) (first + r) (first + ch)) ((W7.setCell ⟨g, (first + r), none⟩ (.int .u32 vy)).setCell ⟨g, (first + ch), none⟩ (.int .u32 vx)).drew) := Lib.hid (by
            rw [← hvx', ← hvy']
            exact (HS7.out.swap (first + r) (first + ch)).drew)
          clear hvx' hvy'
          go_upto_region 6 with fail
          go_region
          clear cx cy fx fy cz
          all_goals go_wp2
          all_goals go_roundw
          case rel => exact ⟨ch, _, by omega, rfl, HG, HS6⟩
          case measure => simp [intOf]; omega
        | false =>
          have R0 := lessV (w0 := W5) hU
          have HG := Lib.hid ((sift_stop HC.out (by rw [hu.out, hv.out]; exact hU)).symm.trans HI.out)
          refine wp_region_since (by kernel_rfl) (by kernel_rfl) ?_
          repeat (go_big_quiet_step ((go_at_call 232; with_reducible exact R0 _)))
          refine wpQuiet_nil ?_
          rintro w7 ⟨P7, rfl⟩
          have HS7 := Lib.hid (HS5.out.since P7.b)
          clear k0 k1 R0 hu hv
          go_wp2
          go_returns
          exact ⟨rfl, by rw [← HG.out]; exact HS7.out⟩

    · have hE := Lib.hid ((sift_end hk1).symm.trans HI.out)
      have hlt : (hi : Int) ≤ 2 * (r : Int) + 1 := by omega
      go_wp2
      go_returns
      exact ⟨rfl, by rw [← hE.out]; exact HS.out⟩
set_option maxRecDepth 100000 in
set_option maxHeartbeats 4000000 in
theorem pheap_any (base g n c a b : Nat) (d : Array Int) (w : World) (h : Sd w base g n c d w) (hab : a < b) (hb : b ≤ n) (hn2 : n ≤ 1000000000) :
    Calls Tryz.prog 227 #[.slice (some ⟨g, 0, none⟩) n c, .int .i64 (a : Int), .int .i64 (b : Int)] w fun e w' => e = .returned (.tuple #[]) ∧ Sd w base g n c (Sort.heapSort Sort.ltInt d a b) w' := by
  have H0 := Lib.hid h
  clear h
  go_enter Tryz.func227, Tryz.ntmps227
  go_upto_region 3 with fail
  obtain ⟨m, hm⟩ : ∃ m : Nat, m = b - a := ⟨_, rfl⟩
  have HM : Hid (Sort.heapSort Sort.ltInt d a b = Sort.heapPop Sort.ltInt a m (Sort.heapBuild Sort.ltInt m a ((m - 1) / 2 + 1) d)) := Lib.hid (by rw [hm]; rfl)
  have e1 : (b : Int) - (a : Int) = (m : Int) := by omega
  have ham : a + m ≤ n := by omega
  have hm0 : 0 < m := by omega
  rw [e1]
  clear e1 hm
  go_wp2
  go_loopw [9] (fun i wr => ∃ (k : Nat) (dk : Array Int), k ≤ m ∧ i = .int .i64 ((k : Int) - 1) ∧ Hid (Sort.heapBuild Sort.ltInt m a k dk = Sort.heapBuild Sort.ltInt m a ((m - 1) / 2 + 1) d) ∧ Hid (Sd w base g n c dk wr)) (fun i _ => (intOf i + 1).toNat)
  case atStart => exact ⟨(m - 1) / 2 + 1, d, by omega, by
    have : ((m : Int) - 1).tdiv 2 = (((m - 1) / 2 + 1 : Nat) : Int) - 1 := by rw [Int.tdiv_eq_ediv_of_nonneg (by omega)]; omega
    first | rw [this] | (congr 1; omega), Lib.hid rfl, H0⟩
  case round =>
    obtain ⟨k, dk, hk, rfl, HI, HS⟩ := hrel
    rcases k with _ | k
    · have hE : Hid (dk = Sort.heapBuild Sort.ltInt m a ((m - 1) / 2 + 1) d) := HI
      rw [show ((0 : Nat) : Int) - 1 = -1 by rfl]
      go_wp2
      go_loopw [10] (fun i wr => ∃ (k : Nat) (dk : Array Int), k ≤ m ∧ i = .int .i64 ((k : Int) - 1) ∧ Hid (Sort.heapPop Sort.ltInt a k dk = Sort.heapSort Sort.ltInt d a b) ∧ Hid (Sd w base g n c dk wr)) (fun i _ => (intOf i + 1).toNat)
      case atStart => exact ⟨m, dk, Nat.le_refl _, by go_num, Lib.hid (by rw [HM.out, hE.out]), HS⟩
      case round =>
        clear HS HI hE dk
        obtain ⟨k, dk, hk, rfl, HI, HS⟩ := hrel
        rcases k with _ | k
        · rw [show ((0 : Nat) : Int) - 1 = -1 by rfl]
          go_wp2
          go_returns
          exact ⟨rfl, by rw [← HI.out]; exact HS.out⟩
        · rw [show ((k + 1 : Nat) : Int) - 1 = (k : Int) by omega]
          have q1 : (a : Int) + (k : Int) < (n : Int) := by omega
          have q2 : (0 : Int) ≤ (a : Int) + (k : Int) := by omega
          have q3 : (a : Int) < (n : Int) := by omega
          have bx : a < n := by omega
          have by_ : (a + k) < n := by omega
          obtain ⟨vx, hvx'⟩ : ∃ vx, (dk)[a]! = vx := ⟨_, rfl⟩
          obtain ⟨vy, hvy'⟩ : ∃ vy, (dk)[(a + k)]! = vy := ⟨_, rfl⟩
          have cx : wr.cell? ⟨g, a, none⟩ = some (.int .u32 vx) := by rw [← hvx']; exact HS.out.cell bx
          have cy : wr.cell? ⟨g, (a + k), none⟩ = some (.int .u32 vy) := by rw [← hvy']; exact HS.out.cell by_
          have fx : wr.frozen? ⟨g, a, none⟩ = false := HS.out.frozen _
          have fy : wr.frozen? ⟨g, (a + k), none⟩ = false := HS.out.frozen _
          obtain ⟨vz, cz⟩ := Go.RowKit.cell?_setCell_some (w := wr) (p := ⟨g, a, none⟩) (x := .int .u32 vy) (q := ⟨g, (a + k), none⟩) cy
          have HS6 : Hid (Sd w base g n c (Sort.swp (dk) a (a + k)) ((wr.setCell ⟨g, a, none⟩ (.int .u32 vy)).setCell ⟨g, (a + k), none⟩ (.int .u32 vx)).drew) := Lib.hid (by
            rw [← hvx', ← hvy']
            exact (HS.out.swap a (a + k)).drew)
          clear hvx' hvy'
          go_upto_region 10 with fail
          go_region
          clear cx cy fx fy cz
          have H6 := Lib.hid (psift_any base g n c 0 k a (Sort.swp dk a (a + k)) _ HS6.out.again (by omega) (by omega) hn2)
          rw [show ((0 : Nat) : Int) = 0 from rfl] at H6
          all_goals go_wp2_with (go_at_call 255; with_reducible refine H6.out.mono ?_; rintro e w7 ⟨rfl, hs7⟩)
          all_goals have HS7 := Lib.hid (HS6.out.then hs7)
          all_goals clear hs7
          all_goals go_roundw
          case rel => exact ⟨k, _, by omega, by go_num, HI, HS7⟩
          case measure => simp [intOf]
    · rw [show ((k + 1 : Nat) : Int) - 1 = (k : Int) by omega]
      have H6 := Lib.hid (psift_any base g n c k m a dk wr HS.out.again (by omega) (by omega) hn2)
      go_wp2_with (go_at_call 255; with_reducible refine H6.out.mono ?_; rintro e w7 ⟨rfl, hs7⟩)
      have HS7 := Lib.hid (HS.out.then hs7)
      clear hs7
      go_roundw
      case rel => exact ⟨k, _, by omega, by go_num, HI, HS7⟩
      case measure => simp [intOf]
/-! reverseRange -/
theorem rev_go {i j : Nat} {d : Array Int} (h : i < j) : Sort.reverseLoop i j d = Sort.reverseLoop (i + 1) (j - 1) (Sort.swp d i j) := by
  rw [Sort.reverseLoop, if_pos h]
theorem rev_end {i j : Nat} {d : Array Int} (h : ¬ i < j) : Sort.reverseLoop i j d = d := by
  rw [Sort.reverseLoop, if_neg h]
set_option maxRecDepth 100000 in
set_option maxHeartbeats 4000000 in
theorem prev_any (base g n c a b : Nat) (d : Array Int) (w : World) (h : Sd w base g n c d w) (hab : a < b) (hb : b ≤ n) (hn2 : n ≤ 1000000000) :
    Calls Tryz.prog 230 #[.slice (some ⟨g, 0, none⟩) n c, .int .i64 (a : Int), .int .i64 (b : Int)] w fun e w' => e = .returned (.tuple #[]) ∧ Sd w base g n c (Sort.reverseRange d a b) w' := by
  have H0 := Lib.hid h
  clear h
  go_enter Tryz.func230, Tryz.ntmps230
  go_wp2
  go_loopw [6, 7] (fun iv jv wr => ∃ (i j : Nat) (dk : Array Int), j < b ∧ iv = .int .i64 (i : Int) ∧ jv = .int .i64 (j : Int) ∧ Hid (Sort.reverseLoop i j dk = Sort.reverseRange d a b) ∧ Hid (Sd w base g n c dk wr)) (fun _ jv _ => (intOf jv).toNat)
  case atStart => exact ⟨a, b - 1, d, by omega, rfl, by go_num, Lib.hid rfl, H0⟩
  case round =>
    obtain ⟨i, j, dk, hj, rfl, rfl, HI, HS⟩ := hrel
    by_cases hij : i < j
    · have HI2 := Lib.hid ((rev_go hij).symm.trans HI.out)
      have q0 : (i : Int) < (j : Int) := by omega
      have q1 : (j : Int) < (n : Int) := by omega
      have q2 : (0 : Int) ≤ (j : Int) := by omega
      have q3 : (i : Int) < (n : Int) := by omega
      have bx : i < n := by omega
      have by_ : j < n := by omega
      obtain ⟨vx, hvx'⟩ : ∃ vx, (dk)[i]! = vx := ⟨_, rfl⟩
      obtain ⟨vy, hvy'⟩ : ∃ vy, (dk)[j]! = vy := ⟨_, rfl⟩
      have cx : wr.cell? ⟨g, i, none⟩ = some (.int .u32 vx) := by rw [← hvx']; exact HS.out.cell bx
      have cy : wr.cell? ⟨g, j, none⟩ = some (.int .u32 vy) := by rw [← hvy']; exact HS.out.cell by_
      have fx : wr.frozen? ⟨g, i, none⟩ = false := HS.out.frozen _
      have fy : wr.frozen? ⟨g, j, none⟩ = false := HS.out.frozen _
      obtain ⟨vz, cz⟩ := Go.RowKit.cell?_setCell_some (w := wr) (p := ⟨g, i, none⟩) (x := .int .u32 vy) (q := ⟨g, j, none⟩) cy
      have HS6 : Hid (Sd w base g n c (Sort.swp (dk) i j) ((wr.setCell ⟨g, i, none⟩ (.int .u32 vy)).setCell ⟨g, j, none⟩ (.int .u32 vx)).drew) := Lib.hid (by
        rw [← hvx', ← hvy']
        exact (HS.out.swap i j).drew)
      clear hvx' hvy'
      go_upto_region 3 with fail
      go_region
      clear cx cy fx fy cz
      all_goals go_wp2
      all_goals go_roundw
      case rel => exact ⟨i + 1, j - 1, _, by omega, by go_num, by go_num, HI2, HS6⟩
      case measure => simp [intOf]; omega
    · have HI2 := Lib.hid ((rev_end hij).symm.trans HI.out)
      have q0 : ¬ (i : Int) < (j : Int) := by omega
      go_wp2
      go_returns
      exact ⟨rfl, by rw [← HI2.out]; exact HS.out⟩
end Go.Proofs.YtdljpokhcfhhfaaGreatDoor
namespace Go.Proofs.YtdljpokhcfhhfaaGreatDoor
open Go.RowKit Sm

section
variable {p : Int → Bool} {d : Array Int} {i j : Nat}
theorem su_go (h : i ≤ j) (hp : p d[i]! = true) : Sort.scanUp p d j i = Sort.scanUp p d j (i + 1) := by
  conv => lhs; rw [Sort.scanUp]
  rw [if_pos (by rw [hp]; simpa using h)]
theorem su_end (h : ¬ i ≤ j ∨ p d[i]! = false) : Sort.scanUp p d j i = i := by
  rw [Sort.scanUp, if_neg (by rcases h with h | h <;> simp [h])]
theorem sd_go (h : i ≤ j + 1) (hp : p d[j + 1]! = true) : Sort.scanDown p d i (j + 1) = Sort.scanDown p d i j := by
  conv => lhs; rw [Sort.scanDown]
  rw [if_pos (by rw [hp]; simpa using h)]
theorem sd_end (h : ¬ i ≤ j ∨ p d[j]! = false) : Sort.scanDown p d i j = j := by
  cases j with
  | zero => rfl
  | succ k => rw [Sort.scanDown, if_neg (by rcases h with h | h <;> simp [h])]
end
theorem part_done {d ys : Array Int} {a b pivot i j i0 j0 : Nat} (hys : ys = Sort.swp d a pivot) (hi0 : i0 = a + 1) (hj0 : j0 = b - 1) (hi : i = Sort.scanUp (fun x => Sort.ltInt x ys[a]!) ys j0 i0) (hj : j = Sort.scanDown (fun x => !Sort.ltInt x ys[a]!) ys i j0) (h : j < i) :
    Sort.partition Sort.ltInt d a b pivot = (j, true, Sort.swp ys j a) := by
  subst hys hi0 hj0
  unfold Sort.partition
  simp only []
  rw [← hi, ← hj, if_pos h]
theorem part_cross {d ys : Array Int} {a b pivot i j i0 j0 : Nat} (hys : ys = Sort.swp d a pivot) (hi0 : i0 = a + 1) (hj0 : j0 = b - 1) (hi : i = Sort.scanUp (fun x => Sort.ltInt x ys[a]!) ys j0 i0) (hj : j = Sort.scanDown (fun x => !Sort.ltInt x ys[a]!) ys i j0) (h : i < j) :
    Sort.partition Sort.ltInt d a b pivot = ((Sort.partLoop Sort.ltInt a (i + 1) (j - 1) (Sort.swp (Sort.swp d a pivot) i j)).1, false, Sort.swp (Sort.partLoop Sort.ltInt a (i + 1) (j - 1) (Sort.swp (Sort.swp d a pivot) i j)).2 (Sort.partLoop Sort.ltInt a (i + 1) (j - 1) (Sort.swp (Sort.swp d a pivot) i j)).1 a) := by
  subst hys hi0 hj0
  unfold Sort.partition
  simp only []
  rw [← hi, ← hj, if_neg (by omega)]
theorem pl_break {a i j i2 j2 : Nat} {d : Array Int} (hi : i2 = Sort.scanUp (fun x => Sort.ltInt x d[a]!) d j i) (hj : j2 = Sort.scanDown (fun x => !Sort.ltInt x d[a]!) d i2 j) (h : j2 < i2) : Sort.partLoop Sort.ltInt a i j d = (j2, d) := by
  subst hi; subst hj
  rw [Sort.partLoop_eq, if_pos h]
theorem pl_go {a i j i2 j2 : Nat} {d : Array Int} (hi : i2 = Sort.scanUp (fun x => Sort.ltInt x d[a]!) d j i) (hj : j2 = Sort.scanDown (fun x => !Sort.ltInt x d[a]!) d i2 j) (h : i2 < j2) : Sort.partLoop Sort.ltInt a i j d = Sort.partLoop Sort.ltInt a (i2 + 1) (j2 - 1) (Sort.swp d i2 j2) := by
  subst hi; subst hj
  rw [Sort.partLoop_eq, if_neg (by omega)]
theorem pe_break {a i j i2 j2 : Nat} {d : Array Int} (hi : i2 = Sort.scanUp (fun x => !Sort.ltInt d[a]! x) d j i) (hj : j2 = Sort.scanDown (fun x => Sort.ltInt d[a]! x) d i2 j) (h : j2 < i2) : Sort.partEqLoop Sort.ltInt a i j d = (i2, d) := by
  subst hi; subst hj
  rw [Sort.partEqLoop_eq, if_pos h]
theorem pe_go {a i j i2 j2 : Nat} {d : Array Int} (hi : i2 = Sort.scanUp (fun x => !Sort.ltInt d[a]! x) d j i) (hj : j2 = Sort.scanDown (fun x => Sort.ltInt d[a]! x) d i2 j) (h : i2 < j2) : Sort.partEqLoop Sort.ltInt a i j d = Sort.partEqLoop Sort.ltInt a (i2 + 1) (j2 - 1) (Sort.swp d i2 j2) := by
  subst hi; subst hj
  rw [Sort.partEqLoop_eq, if_neg (by omega)]
/-- what a partition hands back -/
structure PPost (w : World) (base g n c : Nat) (r : Nat × Bool × Array Int) (e : Ending) (w' : World) : Prop where
  e : e = .returned (.tuple #[.int .i64 (r.1 : Int), .bool r.2.1])
  s : Sd w base g n c r.2.2 w'
structure QPost (w : World) (base g n c : Nat) (r : Nat × Array Int) (e : Ending) (w' : World) : Prop where
  e : e = .returned (.int .i64 (r.1 : Int))
  s : Sd w base g n c r.2 w'

set_option maxRecDepth 100000 in
set_option maxHeartbeats 16000000 in
theorem ppart_any (base g n c a b pivot : Nat) (d : Array Int) (w : World) (h : Sd w base g n c d w) (hap : a ≤ pivot) (hpb : pivot < b) (hb : b ≤ n) (hn2 : n ≤ 1000000000) :
    Calls Tryz.prog 234 #[.slice (some ⟨g, 0, none⟩) n c, .int .i64 (a : Int), .int .i64 (b : Int), .int .i64 (pivot : Int)] w (PPost w base g n c (Sort.partition Sort.ltInt d a b pivot)) := by
  have H0 := Lib.hid h
  clear h
  go_enter Tryz.func234, Tryz.ntmps234
  go_wp2_with fail
  have q1 : (a : Int) < (n : Int) := by omega
  have q2 : (pivot : Int) < (n : Int) := by omega
  have bx : a < n := by omega
  have by_ : pivot < n := by omega
  obtain ⟨vx, hvx'⟩ : ∃ vx, (d)[a]! = vx := ⟨_, rfl⟩
  obtain ⟨vy, hvy'⟩ : ∃ vy, (d)[pivot]! = vy := ⟨_, rfl⟩
  have cx : w.cell? ⟨g, a, none⟩ = some (.int .u32 vx) := by rw [← hvx']; exact H0.out.cell bx
  have cy : w.cell? ⟨g, pivot, none⟩ = some (.int .u32 vy) := by rw [← hvy']; exact H0.out.cell by_
  have fx : w.frozen? ⟨g, a, none⟩ = false := H0.out.frozen _
  have fy : w.frozen? ⟨g, pivot, none⟩ = false := H0.out.frozen _
  obtain ⟨vz, cz⟩ := Go.RowKit.cell?_setCell_some (w := w) (p := ⟨g, a, none⟩) (x := .int .u32 vy) (q := ⟨g, pivot, none⟩) cy
  have HS6 : Hid (Sd w base g n c (Sort.swp (d) a pivot) ((w.setCell ⟨g, a, none⟩ (.int .u32 vy)).setCell ⟨g, pivot, none⟩ (.int .u32 vx)).drew) := Lib.hid (by
    rw [← hvx', ← hvy']
    exact (H0.out.swap a pivot).drew)
  clear hvx' hvy'
  go_upto_region 1 with fail
  go_region
  clear cx cy fx fy cz q1 q2 H0
  obtain ⟨i0, hi0'⟩ : ∃ i0 : Nat, i0 = a + 1 := ⟨_, rfl⟩
  obtain ⟨j0, hj0'⟩ : ∃ j0 : Nat, j0 = b - 1 := ⟨_, rfl⟩
  obtain ⟨ys, hys'⟩ : ∃ ys, ys = Sort.swp d a pivot := ⟨_, rfl⟩
  rw [← hys'] at HS6
  have HI0 := Lib.hid hi0'
  have HJ0 := Lib.hid hj0'
  have HYS := Lib.hid hys'
  have hai : a < i0 := by omega
  have hij0 : i0 ≤ j0 + 1 := by omega
  have hjb : j0 < b := by omega
  clear hi0' hj0' hys'
  obtain ⟨pv, hpv'⟩ : ∃ pv, (ys)[a]! = pv := ⟨_, rfl⟩
  have hpv := Lib.hid hpv'
  clear hpv'
  go_wp2_with fail
  rw [show (a : Int) + 1 = (i0 : Int) by have := HI0.out; omega, show (b : Int) - 1 = (j0 : Int) by have := HJ0.out; omega]
  go_loopw [10] (fun iv wr => ∃ i : Nat, i0 ≤ i ∧ i ≤ j0 + 1 ∧ iv = .int .i64 (i : Int) ∧ Hid (Sort.scanUp (fun x => Sort.ltInt x (ys)[a]!) (ys) j0 i = Sort.scanUp (fun x => Sort.ltInt x (ys)[a]!) (ys) j0 i0) ∧ Hid (Sd w base g n c (ys) wr)) (fun iv _ => j0 + 1 - (intOf iv).toNat)
  case atStart => exact ⟨i0, Nat.le_refl _, by omega, by go_num, Lib.hid rfl, HS6⟩
  case round =>
    clear HS6
    obtain ⟨i, hi0, hij, rfl, HU, HS⟩ := hrel
    rcases Nat.lt_or_ge j0 i with hji | hji
    · have q1 : ¬ (i : Int) ≤ (j0 : Int) := by omega
      have HI : Hid (i = Sort.scanUp (fun x => Sort.ltInt x (ys)[a]!) (ys) j0 i0) := Lib.hid ((su_end (.inl (by omega))).symm.trans HU.out)
      go_upto_region 3 with fail
      refine wp_region_since (by kernel_rfl) (by kernel_rfl) ?_
      repeat (go_big_quiet_step (fail))
      refine wpQuiet_nil ?_
      rintro w5 ⟨P5, rfl⟩
      have HS5 := Lib.hid (HS.out.since P5.b)
      generalize P5.W = W5 at *
      clear HS HU
      go_wp2_with fail
      go_loopw [11] (fun jv wr => jv = .int .i64 (j0 : Int) ∧ Hid (Sd w base g n c (ys) wr)) (fun _ _ => 0)
      case atStart => exact ⟨rfl, HS5⟩
      case round =>
        clear HS5
        obtain ⟨rfl, HS⟩ := hrel
        clear q1
        have q1 : ¬ (i : Int) ≤ (j0 : Int) := by omega
        have HJ : Hid (j0 = Sort.scanDown (fun x => !Sort.ltInt x (ys)[a]!) (ys) i j0) := Lib.hid (sd_end (.inl (by omega))).symm
        go_upto_region 5 with fail
        refine wp_region_since (by kernel_rfl) (by kernel_rfl) ?_
        repeat (go_big_quiet_step (fail))
        refine wpQuiet_nil ?_
        rintro w5 ⟨P5, rfl⟩
        have HS5 := Lib.hid (HS.out.since P5.b)
        generalize P5.W = W5 at *
        clear HS
        have HL := Lib.hid (part_done HYS.out HI0.out HJ0.out HI.out HJ.out (by omega))
        have q9 : ((j0 : Nat) : Int) < (i : Int) := by omega
        have q10 : ((j0 : Nat) : Int) < (n : Int) := by omega
        have q11 : (a : Int) < (n : Int) := by omega
        have bx : j0 < n := by omega
        have by_ : a < n := by omega
        obtain ⟨vx, hvx'⟩ : ∃ vx, (ys)[j0]! = vx := ⟨_, rfl⟩
        obtain ⟨vy, hvy'⟩ : ∃ vy, (ys)[a]! = vy := ⟨_, rfl⟩
        have cx : W5.cell? ⟨g, j0, none⟩ = some (.int .u32 vx) := by rw [← hvx']; exact HS5.out.cell bx
        have cy : W5.cell? ⟨g, a, none⟩ = some (.int .u32 vy) := by rw [← hvy']; exact HS5.out.cell by_
        have fx : W5.frozen? ⟨g, j0, none⟩ = false := HS5.out.frozen _
        have fy : W5.frozen? ⟨g, a, none⟩ = false := HS5.out.frozen _
        obtain ⟨vz, cz⟩ := Go.RowKit.cell?_setCell_some (w := W5) (p := ⟨g, j0, none⟩) (x := .int .u32 vy) (q := ⟨g, a, none⟩) cy
        have HS6 : Hid (Sd w base g n c (Sort.swp (ys) j0 a) ((W5.setCell ⟨g, j0, none⟩ (.int .u32 vy)).setCell ⟨g, a, none⟩ (.int .u32 vx)).drew) := Lib.hid (by
          rw [← hvx', ← hvy']
          exact (HS5.out.swap j0 a).drew)
        clear hvx' hvy'
        go_upto_region 8 with fail
        go_region
        clear cx cy fx fy cz
        all_goals go_wp2
        all_goals go_returns
        all_goals exact ⟨by rw [HL.out]; try rfl, by rw [HL.out]; exact HS6.out⟩
    · have q1 : (i : Int) ≤ (j0 : Int) := by omega
      have q2 : (i : Int) < (n : Int) := by omega
      have q3 : (0 : Int) ≤ (i : Int) := by omega
      have q4 : (a : Int) < (n : Int) := by omega
      obtain ⟨x, hx'⟩ : ∃ x, (ys)[i]! = x := ⟨_, rfl⟩
      have hx := Lib.hid hx'
      clear hx'
      have k0 : ∀ p' : Snc wr, p'.W.cell? ⟨g, i, none⟩ = some (.int .u32 x) := fun p' => by rw [← hx.out]; exact (HS.out.since p'.b).cell (by omega)
      have k1 : ∀ p' : Snc wr, p'.W.cell? ⟨g, a, none⟩ = some (.int .u32 pv) := fun p' => by rw [← hpv.out]; exact (HS.out.since p'.b).cell (by omega)
      cases hV : decide (x < pv) with
      | true =>
        have R0 := lessV (w0 := wr) hV
        have HU2 := Lib.hid ((su_go (p := (fun x => Sort.ltInt x (ys)[a]!)) (d := ys) hji (by simp only [Sort.ltInt]; rw [hx.out, hpv.out, hV]; try rfl)).symm.trans HU.out)
        go_upto_region 3 with fail
        refine wp_region_since (by kernel_rfl) (by kernel_rfl) ?_
        repeat (go_big_quiet_step ((go_at_call 232; with_reducible exact R0 _)))
        refine wpQuiet_nil ?_
        rintro w5 ⟨P5, rfl⟩
        have HS5 := Lib.hid (HS.out.since P5.b)
        clear k0 k1 R0 hV HS HU hx
        generalize P5.W = W5 at *
        go_wp2
        go_roundw
        case rel => exact ⟨i + 1, by omega, by omega, by go_num, HU2, HS5⟩
        case measure => simp [intOf]; omega
      | false =>
        have R0 := lessV (w0 := wr) hV
        have HI : Hid (i = Sort.scanUp (fun x => Sort.ltInt x (ys)[a]!) (ys) j0 i0) := Lib.hid ((su_end (.inr (by simp only [Sort.ltInt]; rw [hx.out, hpv.out, hV]; try rfl))).symm.trans HU.out)
        have HX := Lib.hid (And.intro hx.out hV)
        go_upto_region 3 with fail
        refine wp_region_since (by kernel_rfl) (by kernel_rfl) ?_
        repeat (go_big_quiet_step ((go_at_call 232; with_reducible exact R0 _)))
        refine wpQuiet_nil ?_
        rintro w5 ⟨P5, rfl⟩
        have HS5 := Lib.hid (HS.out.since P5.b)
        clear k0 k1 R0 hV HS HU hx q1 q2 q3 q4
        generalize P5.W = W5 at *
        go_wp2_with fail
        go_loopw [11] (fun jv wr => ∃ j : Nat, j ≤ j0 ∧ i ≤ j + 1 ∧ jv = .int .i64 (j : Int) ∧ Hid (Sort.scanDown (fun x => !Sort.ltInt x (ys)[a]!) (ys) i j = Sort.scanDown (fun x => !Sort.ltInt x (ys)[a]!) (ys) i j0) ∧ Hid (Sd w base g n c (ys) wr)) (fun jv _ => (intOf jv).toNat)
        case atStart => exact ⟨j0, Nat.le_refl _, by omega, rfl, Lib.hid rfl, HS5⟩
        case round =>
          clear HS5
          obtain ⟨j, hj0, hji2, rfl, HD, HS⟩ := hrel
          rcases Nat.lt_or_ge j i with hlt | hlt
          · have q1 : ¬ (i : Int) ≤ (j : Int) := by omega
            have HJ : Hid (j = Sort.scanDown (fun x => !Sort.ltInt x (ys)[a]!) (ys) i j0) := Lib.hid ((sd_end (.inl (by omega))).symm.trans HD.out)
            go_upto_region 5 with fail
            refine wp_region_since (by kernel_rfl) (by kernel_rfl) ?_
            repeat (go_big_quiet_step (fail))
            refine wpQuiet_nil ?_
            rintro w5 ⟨P5, rfl⟩
            have HS5 := Lib.hid (HS.out.since P5.b)
            generalize P5.W = W5 at *
            clear HS HX HD
            have HL := Lib.hid (part_done HYS.out HI0.out HJ0.out HI.out HJ.out (by omega))
            have q9 : ((j : Nat) : Int) < (i : Int) := by omega
            have q10 : ((j : Nat) : Int) < (n : Int) := by omega
            have q11 : (a : Int) < (n : Int) := by omega
            have bx : j < n := by omega
            have by_ : a < n := by omega
            obtain ⟨vx, hvx'⟩ : ∃ vx, (ys)[j]! = vx := ⟨_, rfl⟩
            obtain ⟨vy, hvy'⟩ : ∃ vy, (ys)[a]! = vy := ⟨_, rfl⟩
            have cx : W5.cell? ⟨g, j, none⟩ = some (.int .u32 vx) := by rw [← hvx']; exact HS5.out.cell bx
            have cy : W5.cell? ⟨g, a, none⟩ = some (.int .u32 vy) := by rw [← hvy']; exact HS5.out.cell by_
            have fx : W5.frozen? ⟨g, j, none⟩ = false := HS5.out.frozen _
            have fy : W5.frozen? ⟨g, a, none⟩ = false := HS5.out.frozen _
            obtain ⟨vz, cz⟩ := Go.RowKit.cell?_setCell_some (w := W5) (p := ⟨g, j, none⟩) (x := .int .u32 vy) (q := ⟨g, a, none⟩) cy
            have HS6 : Hid (Sd w base g n c (Sort.swp (ys) j a) ((W5.setCell ⟨g, j, none⟩ (.int .u32 vy)).setCell ⟨g, a, none⟩ (.int .u32 vx)).drew) := Lib.hid (by
              rw [← hvx', ← hvy']
              exact (HS5.out.swap j a).drew)
            clear hvx' hvy'
            go_upto_region 8 with fail
            go_region
            clear cx cy fx fy cz
            all_goals go_wp2
            all_goals go_returns
            all_goals exact ⟨by rw [HL.out]; try rfl, by rw [HL.out]; exact HS6.out⟩
          · obtain ⟨j, rfl⟩ : ∃ j', j = j' + 1 := ⟨j - 1, by omega⟩
            rw [show ((j + 1 : Nat) : Int) = (j : Int) + 1 by omega]
            have q1 : (i : Int) ≤ (j : Int) + 1 := by omega
            have q2 : (j : Int) + 1 < (n : Int) := by omega
            have q3 : (0 : Int) ≤ (j : Int) + 1 := by omega
            have q4 : (a : Int) < (n : Int) := by omega
            obtain ⟨y, hy'⟩ : ∃ y, (ys)[j + 1]! = y := ⟨_, rfl⟩
            have hy := Lib.hid hy'
            clear hy'
            have k0 : ∀ p' : Snc wr, p'.W.cell? ⟨g, j + 1, none⟩ = some (.int .u32 y) := fun p' => by rw [← hy.out]; exact (HS.out.since p'.b).cell (by omega)
            have k1 : ∀ p' : Snc wr, p'.W.cell? ⟨g, a, none⟩ = some (.int .u32 pv) := fun p' => by rw [← hpv.out]; exact (HS.out.since p'.b).cell (by omega)
            cases hV : decide (y < pv) with
            | false =>
              have R0 := lessV (w0 := wr) hV
              have HD2 := Lib.hid ((sd_go (p := (fun x => !Sort.ltInt x (ys)[a]!)) (d := ys) hlt (by simp only [Sort.ltInt]; rw [hy.out, hpv.out, hV]; try rfl)).symm.trans HD.out)
              go_upto_region 5 with fail
              refine wp_region_since (by kernel_rfl) (by kernel_rfl) ?_
              repeat (go_big_quiet_step ((go_at_call 232; with_reducible exact R0 _)))
              refine wpQuiet_nil ?_
              rintro w5 ⟨P5, rfl⟩
              have HS5 := Lib.hid (HS.out.since P5.b)
              clear k0 k1 R0 hV HS HD hy HX
              generalize P5.W = W5 at *
              go_wp2
              go_roundw
              case rel => exact ⟨j, by omega, by omega, by go_num, HD2, HS5⟩
              case measure => simp [intOf]
            | true =>
              have R0 := lessV (w0 := wr) hV
              have HJ : Hid (j + 1 = Sort.scanDown (fun x => !Sort.ltInt x (ys)[a]!) (ys) i j0) := Lib.hid ((sd_end (.inr (by simp only [Sort.ltInt]; rw [hy.out, hpv.out, hV]; try rfl))).symm.trans HD.out)
              have hij2 : i < j + 1 := by
                rcases Nat.lt_or_ge i (j + 1) with h | h
                · exact h
                · exfalso
                  have e : i = j + 1 := by omega
                  have h1 := HX.out.1
                  rw [e, hy.out] at h1
                  have h2 := HX.out.2
                  rw [← h1, hV] at h2
                  cases h2
              go_upto_region 5 with fail
              refine wp_region_since (by kernel_rfl) (by kernel_rfl) ?_
              repeat (go_big_quiet_step ((go_at_call 232; with_reducible exact R0 _)))
              refine wpQuiet_nil ?_
              rintro w5 ⟨P5, rfl⟩
              have HS5 := Lib.hid (HS.out.since P5.b)
              clear k0 k1 R0 hV HS HD hy HX
              generalize P5.W = W5 at *
              have HL := Lib.hid (part_cross HYS.out HI0.out HJ0.out HI.out HJ.out hij2)
              have q9 : ¬ ((j : Int) + 1 < (i : Int)) := by omega
              have q10 : (i : Int) < (n : Int) := by omega
              have bx : i < n := by omega
              have by_ : (j + 1) < n := by omega
              obtain ⟨vx, hvx'⟩ : ∃ vx, (ys)[i]! = vx := ⟨_, rfl⟩
              obtain ⟨vy, hvy'⟩ : ∃ vy, (ys)[(j + 1)]! = vy := ⟨_, rfl⟩
              have cx : W5.cell? ⟨g, i, none⟩ = some (.int .u32 vx) := by rw [← hvx']; exact HS5.out.cell bx
              have cy : W5.cell? ⟨g, (j + 1), none⟩ = some (.int .u32 vy) := by rw [← hvy']; exact HS5.out.cell by_
              have fx : W5.frozen? ⟨g, i, none⟩ = false := HS5.out.frozen _
              have fy : W5.frozen? ⟨g, (j + 1), none⟩ = false := HS5.out.frozen _
              obtain ⟨vz, cz⟩ := Go.RowKit.cell?_setCell_some (w := W5) (p := ⟨g, i, none⟩) (x := .int .u32 vy) (q := ⟨g, (j + 1), none⟩) cy
              have HS6 : Hid (Sd w base g n c (Sort.swp (ys) i (j + 1)) ((W5.setCell ⟨g, i, none⟩ (.int .u32 vy)).setCell ⟨g, (j + 1), none⟩ (.int .u32 vx)).drew) := Lib.hid (by
                rw [← hvx', ← hvy']
                exact (HS5.out.swap i (j + 1)).drew)
              clear hvx' hvy'
              go_upto_region 10 with fail
              go_region
              clear cx cy fx fy cz q9 q10 q1 q2 q3 q4
              rw [HYS.out] at HS6
              have HQ : Hid (a < i ∧ i < j + 1 ∧ j + 1 < b) := Lib.hid ⟨by omega, by omega, by omega⟩
              clear HI HJ HI0 HJ0 hpv hij2 HYS hji hlt hi0 hij hj0 hji2
              all_goals go_wp2_with fail
              go_loopw [10, 11] (fun iv jv wr => ∃ (i0 j0 : Nat) (dk : Array Int), a < i0 ∧ i0 ≤ j0 + 1 ∧ j0 < b ∧ iv = .int .i64 (i0 : Int) ∧ jv = .int .i64 (j0 : Int) ∧ Hid (Sort.partLoop Sort.ltInt a i0 j0 dk = Sort.partLoop Sort.ltInt a (i + 1) (j + 1 - 1) (Sort.swp (Sort.swp d a pivot) i (j + 1))) ∧ Hid (Sd w base g n c dk wr)) (fun iv jv _ => (intOf jv).toNat + 1 - (intOf iv).toNat)
              case atStart => exact ⟨i + 1, j, _, by have := HQ.out; omega, by have := HQ.out; omega, by have := HQ.out; omega, by go_num, by go_num, Lib.hid rfl, HS6⟩
              case round =>
                clear HS6 HQ
                obtain ⟨i0, j0, dk, hai, hij0, hjb, rfl, rfl, HE, H1⟩ := hrel
                obtain ⟨pv, hpv'⟩ : ∃ pv, (dk)[a]! = pv := ⟨_, rfl⟩
                have hpv := Lib.hid hpv'
                clear hpv'
                go_wp2_with fail
                go_loopw [10] (fun iv wr => ∃ i : Nat, i0 ≤ i ∧ i ≤ j0 + 1 ∧ iv = .int .i64 (i : Int) ∧ Hid (Sort.scanUp (fun x => Sort.ltInt x (dk)[a]!) (dk) j0 i = Sort.scanUp (fun x => Sort.ltInt x (dk)[a]!) (dk) j0 i0) ∧ Hid (Sd w base g n c (dk) wr)) (fun iv _ => j0 + 1 - (intOf iv).toNat)
                case atStart => exact ⟨i0, Nat.le_refl _, by omega, by go_num, Lib.hid rfl, H1⟩
                case round =>
                  clear H1
                  obtain ⟨i, hi0, hij, rfl, HU, HS⟩ := hrel
                  rcases Nat.lt_or_ge j0 i with hji | hji
                  · have q1 : ¬ (i : Int) ≤ (j0 : Int) := by omega
                    have HI : Hid (i = Sort.scanUp (fun x => Sort.ltInt x (dk)[a]!) (dk) j0 i0) := Lib.hid ((su_end (.inl (by omega))).symm.trans HU.out)
                    go_upto_region 13 with fail
                    refine wp_region_since (by kernel_rfl) (by kernel_rfl) ?_
                    repeat (go_big_quiet_step (fail))
                    refine wpQuiet_nil ?_
                    rintro w5 ⟨P5, rfl⟩
                    have HS5 := Lib.hid (HS.out.since P5.b)
                    generalize P5.W = W5 at *
                    clear HS HU
                    go_wp2_with fail
                    go_loopw [11] (fun jv wr => jv = .int .i64 (j0 : Int) ∧ Hid (Sd w base g n c (dk) wr)) (fun _ _ => 0)
                    case atStart => exact ⟨rfl, HS5⟩
                    case round =>
                      clear HS5
                      obtain ⟨rfl, HS⟩ := hrel
                      clear q1
                      have q1 : ¬ (i : Int) ≤ (j0 : Int) := by omega
                      have HJ : Hid (j0 = Sort.scanDown (fun x => !Sort.ltInt x (dk)[a]!) (dk) i j0) := Lib.hid (sd_end (.inl (by omega))).symm
                      go_upto_region 15 with fail
                      refine wp_region_since (by kernel_rfl) (by kernel_rfl) ?_
                      repeat (go_big_quiet_step (fail))
                      refine wpQuiet_nil ?_
                      rintro w5 ⟨P5, rfl⟩
                      have HS5 := Lib.hid (HS.out.since P5.b)
                      generalize P5.W = W5 at *
                      clear HS
                      have HL3 := Lib.hid ((pl_break HI.out HJ.out (by omega)).symm.trans HE.out)
                      have q9 : ((j0 : Nat) : Int) < (i : Int) := by omega
                      have q10 : ((j0 : Nat) : Int) < (n : Int) := by omega
                      have q11 : (a : Int) < (n : Int) := by omega
                      have bx : j0 < n := by omega
                      have by_ : a < n := by omega
                      obtain ⟨vx, hvx'⟩ : ∃ vx, (dk)[j0]! = vx := ⟨_, rfl⟩
                      obtain ⟨vy, hvy'⟩ : ∃ vy, (dk)[a]! = vy := ⟨_, rfl⟩
                      have cx : W5.cell? ⟨g, j0, none⟩ = some (.int .u32 vx) := by rw [← hvx']; exact HS5.out.cell bx
                      have cy : W5.cell? ⟨g, a, none⟩ = some (.int .u32 vy) := by rw [← hvy']; exact HS5.out.cell by_
                      have fx : W5.frozen? ⟨g, j0, none⟩ = false := HS5.out.frozen _
                      have fy : W5.frozen? ⟨g, a, none⟩ = false := HS5.out.frozen _
                      obtain ⟨vz, cz⟩ := Go.RowKit.cell?_setCell_some (w := W5) (p := ⟨g, j0, none⟩) (x := .int .u32 vy) (q := ⟨g, a, none⟩) cy
                      have HS6 : Hid (Sd w base g n c (Sort.swp (dk) j0 a) ((W5.setCell ⟨g, j0, none⟩ (.int .u32 vy)).setCell ⟨g, a, none⟩ (.int .u32 vx)).drew) := Lib.hid (by
                        rw [← hvx', ← hvy']
                        exact (HS5.out.swap j0 a).drew)
                      clear hvx' hvy'
                      go_upto_region 21 with fail
                      go_region
                      clear cx cy fx fy cz
                      all_goals go_wp2
                      all_goals go_returns
                      all_goals exact ⟨by rw [HL.out, ← HL3.out]; try rfl, by rw [HL.out, ← HL3.out]; exact HS6.out⟩
                  · have q1 : (i : Int) ≤ (j0 : Int) := by omega
                    have q2 : (i : Int) < (n : Int) := by omega
                    have q3 : (0 : Int) ≤ (i : Int) := by omega
                    have q4 : (a : Int) < (n : Int) := by omega
                    obtain ⟨x, hx'⟩ : ∃ x, (dk)[i]! = x := ⟨_, rfl⟩
                    have hx := Lib.hid hx'
                    clear hx'
                    have k0 : ∀ p' : Snc wr, p'.W.cell? ⟨g, i, none⟩ = some (.int .u32 x) := fun p' => by rw [← hx.out]; exact (HS.out.since p'.b).cell (by omega)
                    have k1 : ∀ p' : Snc wr, p'.W.cell? ⟨g, a, none⟩ = some (.int .u32 pv) := fun p' => by rw [← hpv.out]; exact (HS.out.since p'.b).cell (by omega)
                    cases hV : decide (x < pv) with
                    | true =>
                      have R0 := lessV (w0 := wr) hV
                      have HU2 := Lib.hid ((su_go (p := (fun x => Sort.ltInt x (dk)[a]!)) (d := dk) hji (by simp only [Sort.ltInt]; rw [hx.out, hpv.out, hV]; try rfl)).symm.trans HU.out)
                      go_upto_region 13 with fail
                      refine wp_region_since (by kernel_rfl) (by kernel_rfl) ?_
                      repeat (go_big_quiet_step ((go_at_call 232; with_reducible exact R0 _)))
                      refine wpQuiet_nil ?_
                      rintro w5 ⟨P5, rfl⟩
                      have HS5 := Lib.hid (HS.out.since P5.b)
                      clear k0 k1 R0 hV HS HU hx
                      generalize P5.W = W5 at *
                      go_wp2
                      go_roundw
                      case rel => exact ⟨i + 1, by omega, by omega, by go_num, HU2, HS5⟩
                      case measure => simp [intOf]; omega
                    | false =>
                      have R0 := lessV (w0 := wr) hV
                      have HI : Hid (i = Sort.scanUp (fun x => Sort.ltInt x (dk)[a]!) (dk) j0 i0) := Lib.hid ((su_end (.inr (by simp only [Sort.ltInt]; rw [hx.out, hpv.out, hV]; try rfl))).symm.trans HU.out)
                      have HX := Lib.hid (And.intro hx.out hV)
                      go_upto_region 13 with fail
                      refine wp_region_since (by kernel_rfl) (by kernel_rfl) ?_
                      repeat (go_big_quiet_step ((go_at_call 232; with_reducible exact R0 _)))
                      refine wpQuiet_nil ?_
                      rintro w5 ⟨P5, rfl⟩
                      have HS5 := Lib.hid (HS.out.since P5.b)
                      clear k0 k1 R0 hV HS HU hx q1 q2 q3 q4
                      generalize P5.W = W5 at *
                      go_wp2_with fail
                      go_loopw [11] (fun jv wr => ∃ j : Nat, j ≤ j0 ∧ i ≤ j + 1 ∧ jv = .int .i64 (j : Int) ∧ Hid (Sort.scanDown (fun x => !Sort.ltInt x (dk)[a]!) (dk) i j = Sort.scanDown (fun x => !Sort.ltInt x (dk)[a]!) (dk) i j0) ∧ Hid (Sd w base g n c (dk) wr)) (fun jv _ => (intOf jv).toNat)
                      case atStart => exact ⟨j0, Nat.le_refl _, by omega, rfl, Lib.hid rfl, HS5⟩
                      case round =>
                        clear HS5
                        obtain ⟨j, hj0, hji2, rfl, HD, HS⟩ := hrel
                        rcases Nat.lt_or_ge j i with hlt | hlt
                        · have q1 : ¬ (i : Int) ≤ (j : Int) := by omega
                          have HJ : Hid (j = Sort.scanDown (fun x => !Sort.ltInt x (dk)[a]!) (dk) i j0) := Lib.hid ((sd_end (.inl (by omega))).symm.trans HD.out)
                          go_upto_region 15 with fail
                          refine wp_region_since (by kernel_rfl) (by kernel_rfl) ?_
                          repeat (go_big_quiet_step (fail))
                          refine wpQuiet_nil ?_
                          rintro w5 ⟨P5, rfl⟩
                          have HS5 := Lib.hid (HS.out.since P5.b)
                          generalize P5.W = W5 at *
                          clear HS HX HD
                          have HL3 := Lib.hid ((pl_break HI.out HJ.out (by omega)).symm.trans HE.out)
                          have q9 : ((j : Nat) : Int) < (i : Int) := by omega
                          have q10 : ((j : Nat) : Int) < (n : Int) := by omega
                          have q11 : (a : Int) < (n : Int) := by omega
                          have bx : j < n := by omega
                          have by_ : a < n := by omega
                          obtain ⟨vx, hvx'⟩ : ∃ vx, (dk)[j]! = vx := ⟨_, rfl⟩
                          obtain ⟨vy, hvy'⟩ : ∃ vy, (dk)[a]! = vy := ⟨_, rfl⟩
                          have cx : W5.cell? ⟨g, j, none⟩ = some (.int .u32 vx) := by rw [← hvx']; exact HS5.out.cell bx
                          have cy : W5.cell? ⟨g, a, none⟩ = some (.int .u32 vy) := by rw [← hvy']; exact HS5.out.cell by_
                          have fx : W5.frozen? ⟨g, j, none⟩ = false := HS5.out.frozen _
                          have fy : W5.frozen? ⟨g, a, none⟩ = false := HS5.out.frozen _
                          obtain ⟨vz, cz⟩ := Go.RowKit.cell?_setCell_some (w := W5) (p := ⟨g, j, none⟩) (x := .int .u32 vy) (q := ⟨g, a, none⟩) cy
                          have HS6 : Hid (Sd w base g n c (Sort.swp (dk) j a) ((W5.setCell ⟨g, j, none⟩ (.int .u32 vy)).setCell ⟨g, a, none⟩ (.int .u32 vx)).drew) := Lib.hid (by
                            rw [← hvx', ← hvy']
                            exact (HS5.out.swap j a).drew)
                          clear hvx' hvy'
                          go_upto_region 21 with fail
                          go_region
                          clear cx cy fx fy cz
                          all_goals go_wp2
                          all_goals go_returns
                          all_goals exact ⟨by rw [HL.out, ← HL3.out]; try rfl, by rw [HL.out, ← HL3.out]; exact HS6.out⟩
                        · obtain ⟨j, rfl⟩ : ∃ j', j = j' + 1 := ⟨j - 1, by omega⟩
                          rw [show ((j + 1 : Nat) : Int) = (j : Int) + 1 by omega]
                          have q1 : (i : Int) ≤ (j : Int) + 1 := by omega
                          have q2 : (j : Int) + 1 < (n : Int) := by omega
                          have q3 : (0 : Int) ≤ (j : Int) + 1 := by omega
                          have q4 : (a : Int) < (n : Int) := by omega
                          obtain ⟨y, hy'⟩ : ∃ y, (dk)[j + 1]! = y := ⟨_, rfl⟩
                          have hy := Lib.hid hy'
                          clear hy'
                          have k0 : ∀ p' : Snc wr, p'.W.cell? ⟨g, j + 1, none⟩ = some (.int .u32 y) := fun p' => by rw [← hy.out]; exact (HS.out.since p'.b).cell (by omega)
                          have k1 : ∀ p' : Snc wr, p'.W.cell? ⟨g, a, none⟩ = some (.int .u32 pv) := fun p' => by rw [← hpv.out]; exact (HS.out.since p'.b).cell (by omega)
                          cases hV : decide (y < pv) with
                          | false =>
                            have R0 := lessV (w0 := wr) hV
                            have HD2 := Lib.hid ((sd_go (p := (fun x => !Sort.ltInt x (dk)[a]!)) (d := dk) hlt (by simp only [Sort.ltInt]; rw [hy.out, hpv.out, hV]; try rfl)).symm.trans HD.out)
                            go_upto_region 15 with fail
                            refine wp_region_since (by kernel_rfl) (by kernel_rfl) ?_
                            repeat (go_big_quiet_step ((go_at_call 232; with_reducible exact R0 _)))
                            refine wpQuiet_nil ?_
                            rintro w5 ⟨P5, rfl⟩
                            have HS5 := Lib.hid (HS.out.since P5.b)
                            clear k0 k1 R0 hV HS HD hy HX
                            generalize P5.W = W5 at *
                            go_wp2
                            go_roundw
                            case rel => exact ⟨j, by omega, by omega, by go_num, HD2, HS5⟩
                            case measure => simp [intOf]
                          | true =>
                            have R0 := lessV (w0 := wr) hV
                            have HJ : Hid (j + 1 = Sort.scanDown (fun x => !Sort.ltInt x (dk)[a]!) (dk) i j0) := Lib.hid ((sd_end (.inr (by simp only [Sort.ltInt]; rw [hy.out, hpv.out, hV]; try rfl))).symm.trans HD.out)
                            have hij2 : i < j + 1 := by
                              rcases Nat.lt_or_ge i (j + 1) with h | h
                              · exact h
                              · exfalso
                                have e : i = j + 1 := by omega
                                have h1 := HX.out.1
                                rw [e, hy.out] at h1
                                have h2 := HX.out.2
                                rw [← h1, hV] at h2
                                cases h2
                            go_upto_region 15 with fail
                            refine wp_region_since (by kernel_rfl) (by kernel_rfl) ?_
                            repeat (go_big_quiet_step ((go_at_call 232; with_reducible exact R0 _)))
                            refine wpQuiet_nil ?_
                            rintro w5 ⟨P5, rfl⟩
                            have HS5 := Lib.hid (HS.out.since P5.b)
                            clear k0 k1 R0 hV HS HD hy HX
                            generalize P5.W = W5 at *
                            have HL3 := Lib.hid ((pl_go HI.out HJ.out hij2).symm.trans HE.out)
                            have q9 : ¬ ((j : Int) + 1 < (i : Int)) := by omega
                            have q10 : (i : Int) < (n : Int) := by omega
                            have bx : i < n := by omega
                            have by_ : (j + 1) < n := by omega
                            obtain ⟨vx, hvx'⟩ : ∃ vx, (dk)[i]! = vx := ⟨_, rfl⟩
                            obtain ⟨vy, hvy'⟩ : ∃ vy, (dk)[(j + 1)]! = vy := ⟨_, rfl⟩
                            have cx : W5.cell? ⟨g, i, none⟩ = some (.int .u32 vx) := by rw [← hvx']; exact HS5.out.cell bx
                            have cy : W5.cell? ⟨g, (j + 1), none⟩ = some (.int .u32 vy) := by rw [← hvy']; exact HS5.out.cell by_
                            have fx : W5.frozen? ⟨g, i, none⟩ = false := HS5.out.frozen _
                            have fy : W5.frozen? ⟨g, (j + 1), none⟩ = false := HS5.out.frozen _
                            obtain ⟨vz, cz⟩ := Go.RowKit.cell?_setCell_some (w := W5) (p := ⟨g, i, none⟩) (x := .int .u32 vy) (q := ⟨g, (j + 1), none⟩) cy
                            have HS6 : Hid (Sd w base g n c (Sort.swp (dk) i (j + 1)) ((W5.setCell ⟨g, i, none⟩ (.int .u32 vy)).setCell ⟨g, (j + 1), none⟩ (.int .u32 vx)).drew) := Lib.hid (by
                              rw [← hvx', ← hvy']
                              exact (HS5.out.swap i (j + 1)).drew)
                            clear hvx' hvy'
                            go_upto_region 18 with fail
                            go_region
                            clear cx cy fx fy cz
                            all_goals go_wp2
                            all_goals go_roundw
                            case rel => exact ⟨i + 1, j, _, by omega, by omega, by omega, by go_num, by go_num, HL3, HS6⟩
                            case measure => simp [intOf]; omega
end Go.Proofs.YtdljpokhcfhhfaaGreatDoor

