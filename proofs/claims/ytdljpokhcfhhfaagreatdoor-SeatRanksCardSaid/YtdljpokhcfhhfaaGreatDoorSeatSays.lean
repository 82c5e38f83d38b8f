/- seat.bids, seat.Of, the document's Seat; the law: Better, Best, Of answer as the document has them; walked. -/
import Derived.Test.YtdljpokhcfhhfaaGreatDoorTnb
import Derived.Test.YtdljpokhcfhhfaaGreatDoorOnb
import Derived.Test.YtdljpokhcfhhfaaGreatDoorSb
import Derived.Test.YtdljpokhcfhhfaaGreatDoorTn
import Derived.Test.YtdljpokhcfhhfaaGreatDoorCg
import Derived.Deep.CutRange
namespace Go.Proofs.YtdljpokhcfhhfaaGreatDoor
open Go.ChangeShapes Go.WideShapes Go.ChangeAt Go.RowKit Lx Sm Go.Maps
theorem bl_at : ∀ (us : List Bd) (k : Nat) (p : Bd), us[k]? = some p → (us.flatMap CBd)[k * 2]? = some (.int .i64 p.1) ∧ (us.flatMap CBd)[k * 2 + 1]? = some (.int .u32 p.2)
  | [], k, p, h => by simp at h
  | u :: us, 0, p, h => by
    simp only [List.getElem?_cons_zero, Option.some.injEq] at h
    subst h
    exact ⟨rfl, rfl⟩
  | u :: us, k + 1, p, h => by
    simp only [List.getElem?_cons_succ] at h
    have := bl_at us k p h
    rw [List.flatMap_cons, show (k + 1) * 2 = k * 2 + 1 + 1 by omega]
    exact this
theorem bl_set : ∀ (us : List Bd) (k : Nat) (a b : Int), k < us.length → ((us.flatMap CBd).set (k * 2) (.int .i64 a)).set (k * 2 + 1) (.int .u32 b) = (us.set k (a, b)).flatMap CBd
  | [], k, a, b, h => by simp at h
  | u :: us, 0, a, b, h => rfl
  | u :: us, k + 1, a, b, h => by
    have := bl_set us k a b (by simpa using h)
    rw [List.set_cons_succ, List.flatMap_cons, List.flatMap_cons, ← this, show (k + 1) * 2 = k * 2 + 1 + 1 by omega]
    rfl
/-- bids, as they lie -/
def BT (w : World) (g : Nat) (us : List Bd) : Prop := Blk w g 152 (us.flatMap CBd).toArray
theorem BT.at_ {w : World} {g : Nat} {us : List Bd} (h : BT w g us) {k : Nat} {p : Bd} (hk : us[k]? = some p) : w.cell? ⟨g, k * 2, none⟩ = some (.int .i64 p.1) ∧ w.cell? ⟨g, k * 2 + 1, none⟩ = some (.int .u32 p.2) := by
  have := bl_at us k p hk
  unfold BT at h
  rw [h.cell, h.cell]
  simpa using this
theorem BT.put {w : World} {g : Nat} {us : List Bd} (h : BT w g us) {k : Nat} (hk : k < us.length) (a b : Int) : BT ((w.setCell ⟨g, k * 2, none⟩ (.int .i64 a)).setCell ⟨g, k * 2 + 1, none⟩ (.int .u32 b)) g (us.set k (a, b)) := by
  have h1 := (Blk.set_ h (k * 2) (.int .i64 a)).set_ (k * 2 + 1) (.int .u32 b)
  unfold BT
  have e : ((us.flatMap CBd).toArray.setIfInBounds (k * 2) (.int .i64 a)).setIfInBounds (k * 2 + 1) (.int .u32 b) = ((us.set k (a, b)).flatMap CBd).toArray := by
    rw [← bl_set us k a b hk]
    simp
  rw [← e]
  exact h1
theorem bt_of_make {w : World} {base g n : Nat} {us : List Bd} (h : w.ownsRow base 152 2 (.slice (some ⟨g, 0, none⟩) n n) n (us.flatMap CBd)) : BT w g us := by
  rcases h.2 with ⟨e, _⟩ | ⟨g', cap, cur, e, _, hh, _, _, hsz, ht⟩
  · cases e
  · cases e
    unfold BT Blk
    rw [hh]
    have : cur = (us.flatMap CBd).toArray := by
      rw [← ht, List.take_of_length_le (by simp; omega)]
    rw [this]
theorem made_bids : ∀ n, n < 25 → (madeCells (Value.agg #[.int .i64 0, .int .u32 0]).cells (n * 2)).toList = (List.replicate n ((0 : Int), (0 : Int))).flatMap CBd
  | 0, _ => by kernel_rfl
  | 1, _ => by kernel_rfl
  | 2, _ => by kernel_rfl
  | 3, _ => by kernel_rfl
  | 4, _ => by kernel_rfl
  | 5, _ => by kernel_rfl
  | 6, _ => by kernel_rfl
  | 7, _ => by kernel_rfl
  | 8, _ => by kernel_rfl
  | 9, _ => by kernel_rfl
  | 10, _ => by kernel_rfl
  | 11, _ => by kernel_rfl
  | 12, _ => by kernel_rfl
  | 13, _ => by kernel_rfl
  | 14, _ => by kernel_rfl
  | 15, _ => by kernel_rfl
  | 16, _ => by kernel_rfl
  | 17, _ => by kernel_rfl
  | 18, _ => by kernel_rfl
  | 19, _ => by kernel_rfl
  | 20, _ => by kernel_rfl
  | 21, _ => by kernel_rfl
  | 22, _ => by kernel_rfl
  | 23, _ => by kernel_rfl
  | 24, _ => by kernel_rfl
  | n + 25, h => by omega
theorem info_bidz : (Tryz.prog.info? 152).map (fun i => (i.zero, i.size, i.bytes)) = some (some (.agg #[.int .i64 0, .int .u32 0]), 2, 16) := by kernel_rfl
def bidsP (x : Cfg) (P : List Int) : List Bd := P.map (bidP x)
theorem bidsP_len (x : Cfg) (P : List Int) : (bidsP x P).length = P.length := by simp [bidsP]
theorem pad_set (l : List Bd) (m k : Nat) (v : Bd) (h : l.length = k) : (l ++ List.replicate (m + 1) (0, 0)).set k v = (l ++ [v]) ++ List.replicate m (0, 0) := by
  subst h
  rw [List.set_append_right _ _ (Nat.le_refl _)]; simp [List.replicate_succ]
theorem bidsP_take {x : Cfg} {P : List Int} {k : Nat} {q : Int} (h : P[k]? = some q) : bidsP x (P.take (k + 1)) = bidsP x (P.take k) ++ [bidP x q] := by
  unfold bidsP; rw [List.take_add_one, h]; simp
set_option maxRecDepth 100000 in
set_option maxHeartbeats 4000000 in
theorem bids_any (M : Cm) (x : Cfg) (B : Option Addr) (n c : Nat) (P : List Int) (w : World) (h : CW w M x) (hpo : ∀ y ∈ x.ps, 0 ≤ y.1 ∧ y.1 < x.rs.length) (hj : JR w B n P) (hP : ∀ q ∈ P, ∃ j : Nat, q = (j : Int) ∧ j < x.ps.length) (hn : n < 25) (hnl : P.length = n) :
    Calls Tryz.prog 77 #[.agg #[.slice M.r.A M.r.n M.r.c, .slice M.l.A M.l.n M.l.c, .slice M.p.A M.p.n M.p.c, .slice M.o.A M.o.n M.o.c, .slice M.g.A M.g.n M.g.c, .slice M.s.A M.s.n M.s.c, .slice M.m.A M.m.n M.m.c], .slice B n c] w fun e w' => ∃ (A' : Option Addr), e = .returned (.slice A' n n) ∧ RI CBd 2 w' A' n (bidsP x P) ∧ Below w.heap.size w w' := by
  obtain ⟨i0, hi0', hz0, hz1, hz2⟩ := info_parts info_bidz
  have HB0 := Lib.hid ((Below.refl w.heap.size w).alloc (Nat.le_refl _) (.cells #[.slice M.r.A M.r.n M.r.c, .slice M.l.A M.l.n M.l.c, .slice M.p.A M.p.n M.p.c, .slice M.o.A M.o.n M.o.c, .slice M.g.A M.g.n M.g.c, .slice M.s.A M.s.n M.s.c, .slice M.m.A M.m.n M.m.c] 30))
  have HK := Lib.hid (Blk.new w 30 #[.slice M.r.A M.r.n M.r.c, .slice M.l.A M.l.n M.l.c, .slice M.p.A M.p.n M.p.c, .slice M.o.A M.o.n M.o.c, .slice M.g.A M.g.n M.g.c, .slice M.s.A M.s.n M.s.c, .slice M.m.A M.m.n M.m.c])
  have HC := Lib.hid (h.next HB0.out)
  have HJ := Lib.hid (hj.next HB0.out)
  have hpl := h.p.len
  have hrl := h.r.len
  have HP := Lib.hid hP
  have HPO := Lib.hid hpo
  clear h hj hP hpo
  go_enter Tryz.func77, Tryz.ntmps77
  go_upto_region 1 with fail
  generalize w.alloc (.cells #[.slice M.r.A M.r.n M.r.c, .slice M.l.A M.l.n M.l.c, .slice M.p.A M.p.n M.p.c, .slice M.o.A M.o.n M.o.c, .slice M.g.A M.g.n M.g.c, .slice M.s.A M.s.n M.s.c, .slice M.m.A M.m.n M.m.c] 30) = W1 at *
  go_wp2_with (at_make; refine wpList_make_full _ rfl _ _ 157 rfl W1.heap.size 152 i0 (.agg #[.int .i64 0, .int .u32 0]) 2 Tryz.underlying157 hi0' hz0 hz1 .i64 .i64 (n : Int) (n : Int) n rfl rfl rfl rfl (by rw [hz2]; omega) (by unfold maxLen; omega) (Nat.le_refl _) ?_; intro w2 hown hgrow)
  have HB2 := Lib.hid ((Below.refl W1.heap.size W1).grown hgrow (Nat.le_refl _) (by intro j hj; cases hj))
  rw [made_bids n hn] at hown
  have HT2 : Hid (BT w2 W1.heap.size (bidsP x (P.take 0) ++ List.replicate (n - 0) (0, 0))) := Lib.hid (bt_of_make (by simpa [bidsP] using hown))
  clear hown hgrow
  generalize hg : W1.heap.size = g at *
  go_loopw [14] (fun iv wr => ∃ k : Nat, k ≤ n ∧ iv = .int .i64 k ∧ Hid (BT wr g (bidsP x (P.take k) ++ List.replicate (n - k) (0, 0))) ∧ Hid (Below g W1 wr)) (fun iv _ => n - (intOf iv).toNat)
  case atStart => exact ⟨0, Nat.zero_le _, rfl, HT2, HB2⟩
  case round =>
    obtain ⟨k, hk, rfl, HO, HB⟩ := hrel
    have hbw : Below W1.heap.size W1 wr := by rw [hg]; exact HB.out
    rcases Nat.lt_or_ge k n with hlt | hge
    · obtain ⟨b, oo, rfl, hbl, hx⟩ := (HJ.out.next hbw).at_ hlt
      have hgk : P[k]? = some (P.getD k 0) := by rw [List.getD_eq_getElem?_getD, List.getElem?_eq_getElem (by omega)]; rfl
      obtain ⟨j, hj, hjl⟩ := HP.out _ (List.mem_of_getElem? hgk)
      rw [hj] at hx hgk
      clear hj
      obtain ⟨bp, op, ⟨r1, l1, a1⟩, hA, hbp, hy, c0, c1, c2⟩ := IPort.cells (HC.out.next hbw).p (show j < M.p.n by omega)
      have hpo := (HPO.out _ (List.mem_of_getElem? hy))
      dsimp only at hpo
      obtain ⟨rn, hrn⟩ : ∃ rn : Nat, r1 = (rn : Int) := ⟨r1.toNat, by omega⟩
      subst hrn
      obtain ⟨br, or_, ⟨s1, rk⟩, hA2, hbr, hx2, _, e1⟩ := IRouter.cells (HC.out.next hbw).r (show rn < M.r.n by omega)
      have hbid : bidP x (j : Int) = (rk, a1) := by
        unfold bidP
        simp [List.getD, hy, hx2]
      have hT := bidsP_take (x := x) hgk
      rw [hbid] at hT
      have HT := Lib.hid hT
      have hkl : (bidsP x (P.take k)).length = k := by rw [bidsP_len, List.length_take]; omega
      have i0 : (k : Int) < (n : Int) := by omega
      have i1 : (0 : Int) ≤ (k : Int) := by omega
      have i2 : (j : Int) < (M.p.n : Int) := by omega
      have i3 : (0 : Int) ≤ (j : Int) := by omega
      have i4 : (rn : Int) < (M.r.n : Int) := by omega
      have i5 : (0 : Int) ≤ (rn : Int) := by omega
      have y2 : wr.cell? ⟨w.heap.size, 2, none⟩ = some (.slice (some ⟨bp, op, none⟩) M.p.n M.p.c) := by rw [← hA]; exact (HK.out.next hbw).cell 2
      have hgw : g < wr.heap.size := Blk.lt HO.out
      have hab := (Below.refl wr.heap.size wr).alloc (Nat.le_refl _) (.cells #[.int .i64 (rn : Int), .int .i64 l1, .int .u32 a1] 80)
      have hnb := Blk.new wr 80 #[.int .i64 (rn : Int), .int .i64 l1, .int .u32 a1]
      go_upto_region 6 with fail
      have HO1 : Hid (BT (wr.alloc (.cells #[.int .i64 (rn : Int), .int .i64 l1, .int .u32 a1] 80)) g (bidsP x (P.take k) ++ List.replicate (n - k) (0, 0))) := Lib.hid (Blk.next HO.out hab)
      have w0 : (wr.alloc (.cells #[.int .i64 (rn : Int), .int .i64 l1, .int .u32 a1] 80)).cell? ⟨w.heap.size, 0, none⟩ = some (.slice (some ⟨br, or_, none⟩) M.r.n M.r.c) := by rw [← hA2]; exact (Blk.next (HK.out.next hbw) hab).cell 0
      have w3 : (wr.alloc (.cells #[.int .i64 (rn : Int), .int .i64 l1, .int .u32 a1] 80)).cell? ⟨br, or_ + rn * 2 + 1, none⟩ = some (.int .i64 rk) := (hab.cell (p := ⟨br, or_ + rn * 2 + 1, none⟩) hbr).trans e1
      have w4 := hnb.cell 0
      have w5 := hnb.cell 2
      have HB1 := Lib.hid (HB.out.alloc (by have := HB.out.size; omega) (.cells #[.int .i64 (rn : Int), .int .i64 l1, .int .u32 a1] 80))
      generalize wr.alloc (.cells #[.int .i64 (rn : Int), .int .i64 l1, .int .u32 a1] 80) = w7 at *
      have HBd := Lib.hid HB1.out.drew
      have HOd := Lib.hid (show BT w7.drew g _ from Blk.drew HO1.out)
      have HHK := Lib.hid hkl
      clear y2 hA hA2 hbp hbr hy hx2 hx hgk hbl c0 c1 c2 e1 hbid hT hkl hab hnb hbw HO HB HO1 HB1 hpo
      go_still_tail 13, (by kernel_rfl)
      all_goals
        change wpList _ _ _ _ _ w7.drew
        generalize w7.drew = w9 at *
        have hz : (bidsP x (P.take k) ++ List.replicate (n - k) (0, 0))[k]? = some (0, 0) := by
          rw [List.getElem?_append_right (by have := HHK.out; omega), HHK.out, Nat.sub_self, List.getElem?_replicate, if_pos (by omega)]
        obtain ⟨z0, z1⟩ := HOd.out.at_ hz
        have zf := Blk.frozen HOd.out (k * 2)
        have zg := Blk.frozen HOd.out (k * 2 + 1)
        have HP9 := Lib.hid (BT.put HOd.out (k := k) (by rw [List.length_append, HHK.out, List.length_replicate]; omega) rk a1)
        have HB9 := Lib.hid ((HBd.out.setCell (p := ⟨g, k * 2, none⟩) (Nat.le_refl _) (.int .i64 rk)).setCell (p := ⟨g, k * 2 + 1, none⟩) (Nat.le_refl _) (.int .u32 a1))
        clear hz w0 w3 w4 w5
        go_wp2
        go_roundw
        case rel => exact ⟨k + 1, hlt, by go_num, Lib.hid (by
          have := HP9.out
          rw [show n - k = (n - (k + 1)) + 1 by omega, pad_set _ _ k _ HHK.out, ← HT.out] at this
          exact this), HB9⟩
        case measure => simp [intOf]; omega
    · obtain rfl : k = n := by omega
      have hd : decide ((k : Int) < (k : Int)) = false := by simp
      have HOz : Hid (BT wr g (bidsP x P)) := Lib.hid (by
        have := HO.out
        rw [List.take_of_length_le (by omega), Nat.sub_self, List.replicate_zero, List.append_nil] at this
        exact this)
      go_wp2
      go_ret
      exact ⟨_, rfl, RI.of_blk (fun _ => rfl) HOz.out rfl (by rw [bidsP_len]; exact hnl), HB0.out.trans (hbw.mono HB0.out.size)⟩
end Go.Proofs.YtdljpokhcfhhfaaGreatDoor
namespace Go.Proofs.YtdljpokhcfhhfaaGreatDoor
open Go.ChangeShapes Go.WideShapes Go.ChangeAt Go.RowKit Lx Sm Go.Maps
/-- which port speaks for a link -/
def seatP (x : Cfg) (P : List Int) : Int := P.getD (bestP (bidsP x P) P.length) 0
theorem bidP_alike {x x' : Cfg} (h1 : x'.ps = x.ps) (h2 : x'.rs = x.rs) (q : Int) : bidP x' q = bidP x q := by unfold bidP; rw [h1, h2]
section
variable {b : Nat} {T : TP} {x x' : Cfg} {gs : List Int}
set_option maxRecDepth 100000 in
set_option maxHeartbeats 4000000 in
theorem sof_any (p : Int) (w : World) (h : TW w b T x' gs) (k : Alike x x') (hk : LtOK x') :
    Calls Tryz.prog 30 #[.pointer (some ⟨T.N, 0, none⟩), .int .i64 p] w fun e w' => e = .returned (.tuple #[.int .i64 (if 0 < (rowO x p).length then seatP x (rowO x p) else 0), .bool (decide (0 < (rowO x p).length))]) ∧ Below w.heap.size w w' := by
  have HON := Lib.hid (on_al p w h k)
  have HCF := Lib.hid (fun W (hW : Below w.heap.size w W) => config_any W (h.next hW) hk.rn hk.ln)
  have hle := rowO_le x p
  have hp24 : x.ps.length ≤ 24 := by have := hk.pl; rw [k.p] at this; exact this
  have HMEM : Hid (∀ q ∈ rowO x p, ∃ j : Nat, q = (j : Int) ∧ j < x.ps.length) := Lib.hid (fun q hq => by
    rw [← rowO_alike k p, rowO_all hk.po, k.p] at hq
    obtain ⟨j, h1, h2, _⟩ := picks_nat hq
    exact ⟨j, h1, h2⟩)
  have HPO : Hid (∀ y ∈ x'.ps, 0 ≤ y.1 ∧ y.1 < x'.rs.length) := Lib.hid (fun y hy => ⟨(hk.po y hy).1, (hk.po y hy).2.1⟩)
  have HKP := Lib.hid k.p
  have HKR := Lib.hid k.r
  obtain ⟨P, hPd⟩ : ∃ P, rowO x p = P := ⟨_, rfl⟩
  have HPD := Lib.hid hPd
  rw [hPd] at HON hle HMEM ⊢
  clear h k hk hPd
  go_enter Tryz.func30, Tryz.ntmps30
  go_wp2_with fail
  refine HON.out.mono ?_
  rintro e w1 ⟨A, c, rfl, hj, hb1⟩
  have HJ := Lib.hid hj
  have HB1 := Lib.hid hb1
  have HC := Lib.hid (HCF.out w1 hb1)
  clear hj hb1 HCF HON
  go_wp2_with fail
  refine HC.out.mono ?_
  rintro e w2 ⟨M, x2, rfl, hc, hal, hb2⟩
  have hq := bids_any M x2 A P.length c P w2 hc.cw (fun y hy => by rw [hal.p] at hy; rw [hal.r]; exact HPO.out y hy) (HJ.out.next hb2) (fun q hq => by rw [hal.p, HKP.out]; exact HMEM.out q hq) (by omega) rfl
  rw [show bidsP x2 P = bidsP x P from List.map_congr_left fun q _ => bidP_alike (hal.p.trans HKP.out) (hal.r.trans HKR.out) q] at hq
  have HQ := Lib.hid hq
  have HJ2 := Lib.hid (HJ.out.next hb2)
  have HB2 := Lib.hid (below_next HB1.out hb2)
  clear hq hc hal hb2 HC HJ HB1
  go_wp2_with fail
  refine HQ.out.mono ?_
  rintro e w3 ⟨A3, rfl, har, hb3⟩
  have HL := Lib.hid (best_any A3 P.length P.length _ w3 har (by omega))
  have HJ3 := Lib.hid (HJ2.out.next hb3)
  have HB3 := Lib.hid (below_next HB2.out hb3)
  clear har hb3 HQ HJ2 HB2
  go_wp2_with fail
  refine HL.out.mono ?_
  rintro e w4 ⟨rfl, hb4⟩
  have HJ4 := Lib.hid (HJ3.out.next hb4)
  have HB4 := Lib.hid (below_next HB3.out hb4)
  have hlt := bestP_lt (bidsP x P) P.length
  have HSE : Hid (seatP x P = P.getD (bestP (bidsP x P) P.length) 0) := Lib.hid rfl
  obtain ⟨V, hV⟩ : ∃ V, seatP x P = V := ⟨_, rfl⟩
  rw [hV] at HSE
  have HVV := Lib.hid hV
  clear hV
  clear hb4 HL HJ3 HB3
  generalize hN : bestP (bidsP x P) P.length = N at *
  by_cases h0 : 0 < P.length
  · have hd : decide (0 < P.length) = true := by simpa using h0
    obtain ⟨b2, o2, rfl, hbl, hx⟩ := HJ4.out.at_ (show N < P.length by omega)
    have e0 : (N : Int) < (P.length : Int) := by omega
    have e1 : (0 : Int) ≤ (N : Int) := by omega
    rw [← HSE.out] at hx
    clear hbl
    go_wp2
    go_ret2
    refine ⟨?_, HB4.out⟩
    simp
    exact HVV.out.symm
  · have hd : decide (0 < P.length) = false := by simpa using h0
    go_wp2
    go_ret2
    refine ⟨?_, HB4.out⟩
    simp
end
theorem bestP_next (xs : List Bd) (k : Nat) : bestP xs (k + 1) = if beats (xs.getD k (0, 0)) (xs.getD (bestP xs k) (0, 0)) = true then k else bestP xs k := rfl
/-- the best of the first, or -1 -/
def bestS (x : Cfg) (P : List Int) (k : Nat) : Int := if k = 0 then -1 else P.getD (bestP (bidsP x P) k) 0
theorem bidsP_at {x : Cfg} {P : List Int} {k : Nat} {q : Int} (h : P[k]? = some q) : (bidsP x P).getD k (0, 0) = bidP x q := by
  unfold bidsP
  rw [List.getD_eq_getElem?_getD, List.getElem?_map, h]; rfl
theorem bestS_one {x : Cfg} {P : List Int} {k : Nat} {q : Int} (h : P[k]? = some q) (h0 : k = 0) : bestS x P (k + 1) = q := by
  subst h0
  unfold bestS
  rw [if_neg (by omega), bestP_next, show bestP (bidsP x P) 0 = 0 from rfl, ite_self, List.getD_eq_getElem?_getD, h]; rfl
theorem bestS_next {x : Cfg} {P : List Int} {k : Nat} {q r : Int} (h : P[k]? = some q) (h0 : 0 < k) (hr : P[bestP (bidsP x P) k]? = some r) : bestS x P k = r ∧ bestS x P (k + 1) = if beats (bidP x q) (bidP x r) = true then q else r := by
  unfold bestS
  rw [if_neg (by omega), if_neg (by omega), bestP_next, bidsP_at h, bidsP_at hr]
  refine ⟨by rw [List.getD_eq_getElem?_getD, hr]; rfl, ?_⟩
  split
  · rw [List.getD_eq_getElem?_getD, h]; rfl
  · rw [List.getD_eq_getElem?_getD, hr]; rfl
end Go.Proofs.YtdljpokhcfhhfaaGreatDoor
namespace Go.Proofs.YtdljpokhcfhhfaaGreatDoor
open Go.RowKit Lx Sm Go.Maps
def bestT (xs : List Bd) (k : Nat) : Int := if k = 0 then -1 else (bestP xs k : Int)
theorem bestT_next (xs : List Bd) {k : Nat} (h0 : 0 < k) {a b : Bd} (ha : xs[k]? = some a) (hb : xs[bestP xs k]? = some b) : bestT xs (k + 1) = if beats a b = true then (k : Int) else (bestP xs k : Int) := by
  unfold bestT
  rw [if_neg (by omega), bestP_next, List.getD_eq_getElem?_getD, ha, List.getD_eq_getElem?_getD, hb]
  show ((if beats a b = true then k else bestP xs k : Nat) : Int) = _
  split <;> rfl
theorem bestT_one (xs : List Bd) {k : Nat} (h0 : k = 0) : bestT xs (k + 1) = (k : Int) := by
  subst h0
  unfold bestT
  rw [if_neg (by omega), bestP_next, show bestP xs 0 = 0 from rfl, ite_self]
theorem bd_cells {w : World} {A : Option Addr} {n : Nat} {xs : List Bd} (h : RI CBd 2 w A n xs) {i : Nat} (hi : i < n) : ∃ b o y, A = some ⟨b, o, none⟩ ∧ xs[i]? = some y ∧ ∀ p : Snc w, p.W.cell? ⟨b, o + i * 2, none⟩ = some (.int .i64 y.1) ∧ p.W.cell? ⟨b, o + i * 2 + 1, none⟩ = some (.int .u32 y.2) := by
  obtain ⟨b, o, y, e, hb, hx, hc⟩ := h.at_ hi
  exact ⟨b, o, y, e, hx, fun p => ⟨(p.b.cell (p := ⟨b, o + i * 2, none⟩) hb).trans (hc 0 _ rfl), (p.b.cell (p := ⟨b, o + i * 2 + 1, none⟩) hb).trans (hc 1 _ rfl)⟩⟩
theorem bd_cell0 {w : World} {A : Option Addr} {n : Nat} {xs : List Bd} (h : RI CBd 2 w A n xs) (hi : 0 < n) : ∃ b o y, A = some ⟨b, o, none⟩ ∧ xs[0]? = some y ∧ ∀ p : Snc w, p.W.cell? ⟨b, o, none⟩ = some (.int .i64 y.1) ∧ p.W.cell? ⟨b, o + 1, none⟩ = some (.int .u32 y.2) := by
  obtain ⟨b, o, y, e, hx, hc⟩ := bd_cells h hi
  exact ⟨b, o, y, e, hx, fun p => by have := hc p; simpa using this⟩
theorem betterV {p q : Bd} {V : Bool} (h : beats p q = V) {w0 : World} (s : Snc w0) : Calls Tryz.prog 122 #[.agg #[.int .i64 p.1, .int .u32 p.2], .agg #[.int .i64 q.1, .int .u32 q.2]] s.W fun e w' => e = .returned (.bool V) ∧ ∃ Q : Snc w0, w' = Q.W := Calls.since (by have := better_any p q s.W; rw [h] at this; exact this)
end Go.Proofs.YtdljpokhcfhhfaaGreatDoor

