/- seat.bids, seat.Of, the document's Seat; the law: Better, Best, Of answer as the document has them; walked. -/
import Derived.Test.YtbeoalmcibnpaaaGreatDoorSb
import Derived.Test.YtbeoalmcibnpaaaGreatDoorTn
import Derived.Test.YtbeoalmcibnpaaaGreatDoorCg
import Derived.Deep.CutRange
namespace Go.Proofs.YtbeoalmcibnpaaaGreatDoor
open Go.ChangeShapes Go.WideShapes Go.ChangeAt Go.RowKit Lx Sm Go.Maps
theorem bl_at : ∀ (us : List Bd) (k : Nat) (p : Bd), us[k]? = some p → (us.flatMap CBd)[k * 2]? = some (.int .i64 p.1) ∧ (us.flatMap CBd)[k * 2 + 1]? = some (.int .u32 p.2)
  | [], k, p, h => by simp at h
  | u :: us, 0, p, h => by
    simp only [List.getElem?_cons_zero, Option.some.injEq] at h
    subst h
    exact ⟨rfl, rfl⟩
  | u :: us, k + 1, p, h => by
    simp only [List.getElem?_cons_succ] at h
    have := bl_at us k p h
    rw [List.flatMap_cons, show (k + 1) * 2 = k * 2 + 1 + 1 by omega]
    exact this
theorem bl_set : ∀ (us : List Bd) (k : Nat) (a b : Int), k < us.length → ((us.flatMap CBd).set (k * 2) (.int .i64 a)).set (k * 2 + 1) (.int .u32 b) = (us.set k (a, b)).flatMap CBd
  | [], k, a, b, h => by simp at h
  | u :: us, 0, a, b, h => rfl
  | u :: us, k + 1, a, b, h => by
    have := bl_set us k a b (by simpa using h)
    rw [List.set_cons_succ, List.flatMap_cons, List.flatMap_cons, ← this, show (k + 1) * 2 = k * 2 + 1 + 1 by omega]
    rfl
/-- bids, as they lie -/
def BT (w : World) (g : Nat) (us : List Bd) : Prop := Blk w g 100 (us.flatMap CBd).toArray
theorem BT.at_ {w : World} {g : Nat} {us : List Bd} (h : BT w g us) {k : Nat} {p : Bd} (hk : us[k]? = some p) : w.cell? ⟨g, k * 2, none⟩ = some (.int .i64 p.1) ∧ w.cell? ⟨g, k * 2 + 1, none⟩ = some (.int .u32 p.2) := by
  have := bl_at us k p hk
  unfold BT at h
  rw [h.cell, h.cell]
  simpa using this
theorem BT.put {w : World} {g : Nat} {us : List Bd} (h : BT w g us) {k : Nat} (hk : k < us.length) (a b : Int) : BT ((w.setCell ⟨g, k * 2, none⟩ (.int .i64 a)).setCell ⟨g, k * 2 + 1, none⟩ (.int .u32 b)) g (us.set k (a, b)) := by
  have h1 := (Blk.set_ h (k * 2) (.int .i64 a)).set_ (k * 2 + 1) (.int .u32 b)
  unfold BT
  have e : ((us.flatMap CBd).toArray.setIfInBounds (k * 2) (.int .i64 a)).setIfInBounds (k * 2 + 1) (.int .u32 b) = ((us.set k (a, b)).flatMap CBd).toArray := by
    rw [← bl_set us k a b hk]
    simp
  rw [← e]
  exact h1
theorem bt_of_make {w : World} {base g n : Nat} {us : List Bd} (h : w.ownsRow base 100 2 (.slice (some ⟨g, 0, none⟩) n n) n (us.flatMap CBd)) : BT w g us := by
  rcases h.2 with ⟨e, _⟩ | ⟨g', cap, cur, e, _, hh, _, _, hsz, ht⟩
  · cases e
  · cases e
    unfold BT Blk
    rw [hh]
    have : cur = (us.flatMap CBd).toArray := by
      rw [← ht, List.take_of_length_le (by simp; omega)]
    rw [this]
theorem made_bids : ∀ n, n < 25 → (madeCells (Value.agg #[.int .i64 0, .int .u32 0]).cells (n * 2)).toList = (List.replicate n ((0 : Int), (0 : Int))).flatMap CBd
  | 0, _ => by kernel_rfl
  | 1, _ => by kernel_rfl
  | 2, _ => by kernel_rfl
  | 3, _ => by kernel_rfl
  | 4, _ => by kernel_rfl
  | 5, _ => by kernel_rfl
  | 6, _ => by kernel_rfl
  | 7, _ => by kernel_rfl
  | 8, _ => by kernel_rfl
  | 9, _ => by kernel_rfl
  | 10, _ => by kernel_rfl
  | 11, _ => by kernel_rfl
  | 12, _ => by kernel_rfl
  | 13, _ => by kernel_rfl
  | 14, _ => by kernel_rfl
  | 15, _ => by kernel_rfl
  | 16, _ => by kernel_rfl
  | 17, _ => by kernel_rfl
  | 18, _ => by kernel_rfl
  | 19, _ => by kernel_rfl
  | 20, _ => by kernel_rfl
  | 21, _ => by kernel_rfl
  | 22, _ => by kernel_rfl
  | 23, _ => by kernel_rfl
  | 24, _ => by kernel_rfl
  | n + 25, h => by omega
theorem info_bidz : (Tryz.prog.info? 100).map (fun i => (i.zero, i.size, i.bytes)) = some (some (.agg #[.int .i64 0, .int .u32 0]), 2, 16) := by kernel_rfl
def bidsP (x : Cfg) (P : List Int) : List Bd := P.map (bidP x)
theorem bidsP_len (x : Cfg) (P : List Int) : (bidsP x P).length = P.length := by simp [bidsP]
theorem pad_set (l : List Bd) (m k : Nat) (v : Bd) (h : l.length = k) : (l ++ List.replicate (m + 1) (0, 0)).set k v = (l ++ [v]) ++ List.replicate m (0, 0) := by
  subst h
  rw [List.set_append_right _ _ (Nat.le_refl _)]; simp [List.replicate_succ]
theorem bidsP_take {x : Cfg} {P : List Int} {k : Nat} {q : Int} (h : P[k]? = some q) : bidsP x (P.take (k + 1)) = bidsP x (P.take k) ++ [bidP x q] := by
  unfold bidsP; rw [List.take_add_one, h]; simp
set_option maxRecDepth 100000 in
set_option maxHeartbeats 4000000 in
theorem bids_any (M : Cm) (x : Cfg) (B : Option Addr) (n c : Nat) (P : List Int) (w : World) (h : CW w M x) (hpo : ∀ y ∈ x.ps, 0 ≤ y.1 ∧ y.1 < x.rs.length) (hj : JR w B n P) (hP : ∀ q ∈ P, ∃ j : Nat, q = (j : Int) ∧ j < x.ps.length) (hn : n < 25) (hnl : P.length = n) :
    Calls Tryz.prog 102 #[.agg #[.slice M.r.A M.r.n M.r.c, .slice M.l.A M.l.n M.l.c, .slice M.p.A M.p.n M.p.c, .slice M.o.A M.o.n M.o.c, .slice M.g.A M.g.n M.g.c, .slice M.s.A M.s.n M.s.c, .slice M.m.A M.m.n M.m.c], .slice B n c] w fun e w' => ∃ (A' : Option Addr), e = .returned (.slice A' n n) ∧ RI CBd 2 w' A' n (bidsP x P) ∧ Below w.heap.size w w' := by
  obtain ⟨i0, hi0', hz0, hz1, hz2⟩ := info_parts info_bidz
  have HB0 := Lib.hid ((Below.refl w.heap.size w).alloc (Nat.le_refl _) (.cells #[.slice M.r.A M.r.n M.r.c, .slice M.l.A M.l.n M.l.c, .slice M.p.A M.p.n M.p.c, .slice M.o.A M.o.n M.o.c, .slice M.g.A M.g.n M.g.c, .slice M.s.A M.s.n M.s.c, .slice M.m.A M.m.n M.m.c] 30))
  have HK := Lib.hid (Blk.new w 30 #[.slice M.r.A M.r.n M.r.c, .slice M.l.A M.l.n M.l.c, .slice M.p.A M.p.n M.p.c, .slice M.o.A M.o.n M.o.c, .slice M.g.A M.g.n M.g.c, .slice M.s.A M.s.n M.s.c, .slice M.m.A M.m.n M.m.c])
  have HC := Lib.hid (h.next HB0.out)
  have HJ := Lib.hid (hj.next HB0.out)
  have hpl := h.p.len
  have hrl := h.r.len
  have HP := Lib.hid hP
  have HPO := Lib.hid hpo
  clear h hj hP hpo
  go_enter Tryz.func102, Tryz.ntmps102
  go_upto_region 1 with fail
  generalize w.alloc (.cells #[.slice M.r.A M.r.n M.r.c, .slice M.l.A M.l.n M.l.c, .slice M.p.A M.p.n M.p.c, .slice M.o.A M.o.n M.o.c, .slice M.g.A M.g.n M.g.c, .slice M.s.A M.s.n M.s.c, .slice M.m.A M.m.n M.m.c] 30) = W1 at *
  go_wp2_with (at_make; refine wpList_make_full _ rfl _ _ 97 rfl W1.heap.size 100 i0 (.agg #[.int .i64 0, .int .u32 0]) 2 Tryz.underlying97 hi0' hz0 hz1 .i64 .i64 (n : Int) (n : Int) n rfl rfl rfl rfl (by rw [hz2]; omega) (by unfold maxLen; omega) (Nat.le_refl _) ?_; intro w2 hown hgrow)
  have HB2 := Lib.hid ((Below.refl W1.heap.size W1).grown hgrow (Nat.le_refl _) (by intro j hj; cases hj))
  rw [made_bids n hn] at hown
  have HT2 : Hid (BT w2 W1.heap.size (bidsP x (P.take 0) ++ List.replicate (n - 0) (0, 0))) := Lib.hid (bt_of_make (by simpa [bidsP] using hown))
  clear hown hgrow
  generalize hg : W1.heap.size = g at *
  go_loopw [14] (fun iv wr => ∃ k : Nat, k ≤ n ∧ iv = .int .i64 k ∧ Hid (BT wr g (bidsP x (P.take k) ++ List.replicate (n - k) (0, 0))) ∧ Hid (Below g W1 wr)) (fun iv _ => n - (intOf iv).toNat)
  case atStart => exact ⟨0, Nat.zero_le _, rfl, HT2, HB2⟩
  case round =>
    obtain ⟨k, hk, rfl, HO, HB⟩ := hrel
    have hbw : Below W1.heap.size W1 wr := by rw [hg]; exact HB.out
    rcases Nat.lt_or_ge k n with hlt | hge
    · obtain ⟨b, oo, rfl, hbl, hx⟩ := (HJ.out.next hbw).at_ hlt
      have hgk : P[k]? = some (P.getD k 0) := by rw [List.getD_eq_getElem?_getD, List.getElem?_eq_getElem (by omega)]; rfl
      obtain ⟨j, hj, hjl⟩ := HP.out _ (List.mem_of_getElem? hgk)
      rw [hj] at hx hgk
      clear hj
      obtain ⟨bp, op, ⟨r1, l1, a1⟩, hA, hbp, hy, c0, c1, c2⟩ := IPort.cells (HC.out.next hbw).p (show j < M.p.n by omega)
      have hpo := (HPO.out _ (List.mem_of_getElem? hy))
      dsimp only at hpo
      obtain ⟨rn, hrn⟩ : ∃ rn : Nat, r1 = (rn : Int) := ⟨r1.toNat, by omega⟩
      subst hrn
      obtain ⟨br, or_, ⟨s1, rk⟩, hA2, hbr, hx2, _, e1⟩ := IRouter.cells (HC.out.next hbw).r (show rn < M.r.n by omega)
      have hbid : bidP x (j : Int) = (rk, a1) := by
        unfold bidP
        simp [List.getD, hy, hx2]
      have hT := bidsP_take (x := x) hgk
      rw [hbid] at hT
      have HT := Lib.hid hT
      have hkl : (bidsP x (P.take k)).length = k := by rw [bidsP_len, List.length_take]; omega
      have i0 : (k : Int) < (n : Int) := by omega
      have i1 : (0 : Int) ≤ (k : Int) := by omega
      have i2 : (j : Int) < (M.p.n : Int) := by omega
      have i3 : (0 : Int) ≤ (j : Int) := by omega
      have i4 : (rn : Int) < (M.r.n : Int) := by omega
      have i5 : (0 : Int) ≤ (rn : Int) := by omega
      have y2 : wr.cell? ⟨w.heap.size, 2, none⟩ = some (.slice (some ⟨bp, op, none⟩) M.p.n M.p.c) := by rw [← hA]; exact (HK.out.next hbw).cell 2
      have hgw : g < wr.heap.size := Blk.lt HO.out
      have hab := (Below.refl wr.heap.size wr).alloc (Nat.le_refl _) (.cells #[.int .i64 (rn : Int), .int .i64 l1, .int .u32 a1] 61)
      have hnb := Blk.new wr 61 #[.int .i64 (rn : Int), .int .i64 l1, .int .u32 a1]
      go_upto_region 6 with fail
      have HO1 : Hid (BT (wr.alloc (.cells #[.int .i64 (rn : Int), .int .i64 l1, .int .u32 a1] 61)) g (bidsP x (P.take k) ++ List.replicate (n - k) (0, 0))) := Lib.hid (Blk.next HO.out hab)
      have w0 : (wr.alloc (.cells #[.int .i64 (rn : Int), .int .i64 l1, .int .u32 a1] 61)).cell? ⟨w.heap.size, 0, none⟩ = some (.slice (some ⟨br, or_, none⟩) M.r.n M.r.c) := by rw [← hA2]; exact (Blk.next (HK.out.next hbw) hab).cell 0
      have w3 : (wr.alloc (.cells #[.int .i64 (rn : Int), .int .i64 l1, .int .u32 a1] 61)).cell? ⟨br, or_ + rn * 2 + 1, none⟩ = some (.int .i64 rk) := (hab.cell (p := ⟨br, or_ + rn * 2 + 1, none⟩) hbr).trans e1
      have w4 := hnb.cell 0
      have w5 := hnb.cell 2
      have HB1 := Lib.hid (HB.out.alloc (by have := HB.out.size; omega) (.cells #[.int .i64 (rn : Int), .int .i64 l1, .int .u32 a1] 61))
      generalize wr.alloc (.cells #[.int .i64 (rn : Int), .int .i64 l1, .int .u32 a1] 61) = w7 at *
      have HBd := Lib.hid HB1.out.drew
      have HOd := Lib.hid (show BT w7.drew g _ from Blk.drew HO1.out)
      have HHK := Lib.hid hkl
      clear y2 hA hA2 hbp hbr hy hx2 hx hgk hbl c0 c1 c2 e1 hbid hT hkl hab hnb hbw HO HB HO1 HB1 hpo
      go_still_tail 13, (by kernel_rfl)
      all_goals
        change wpList _ _ _ _ _ w7.drew
        generalize w7.drew = w9 at *
        have hz : (bidsP x (P.take k) ++ List.replicate (n - k) (0, 0))[k]? = some (0, 0) := by
          rw [List.getElem?_append_right (by have := HHK.out; omega), HHK.out, Nat.sub_self, List.getElem?_replicate, if_pos (by omega)]
        obtain ⟨z0, z1⟩ := HOd.out.at_ hz
        have zf := Blk.frozen HOd.out (k * 2)
        have zg := Blk.frozen HOd.out (k * 2 + 1)
        have HP9 := Lib.hid (BT.put HOd.out (k := k) (by rw [List.length_append, HHK.out, List.length_replicate]; omega) rk a1)
        have HB9 := Lib.hid ((HBd.out.setCell (p := ⟨g, k * 2, none⟩) (Nat.le_refl _) (.int .i64 rk)).setCell (p := ⟨g, k * 2 + 1, none⟩) (Nat.le_refl _) (.int .u32 a1))
        clear hz w0 w3 w4 w5
        go_wp2
        go_roundw
        case rel => exact ⟨k + 1, hlt, by go_num, Lib.hid (by
          have := HP9.out
          rw [show n - k = (n - (k + 1)) + 1 by omega, pad_set _ _ k _ HHK.out, ← HT.out] at this
          exact this), HB9⟩
        case measure => simp [intOf]; omega
    · obtain rfl : k = n := by omega
      have hd : decide ((k : Int) < (k : Int)) = false := by simp
      have HOz : Hid (BT wr g (bidsP x P)) := Lib.hid (by
        have := HO.out
        rw [List.take_of_length_le (by omega), Nat.sub_self, List.replicate_zero, List.append_nil] at this
        exact this)
      go_wp2
      go_ret
      exact ⟨_, rfl, RI.of_blk (fun _ => rfl) HOz.out rfl (by rw [bidsP_len]; exact hnl), HB0.out.trans (hbw.mono HB0.out.size)⟩
end Go.Proofs.YtbeoalmcibnpaaaGreatDoor
namespace Go.Proofs.YtbeoalmcibnpaaaGreatDoor
open Go.ChangeShapes Go.WideShapes Go.ChangeAt Go.RowKit Lx Sm Go.Maps
/-- which port speaks for a link -/
def seatP (x : Cfg) (P : List Int) : Int := P.getD (bestP (bidsP x P) P.length) 0
theorem bidP_alike {x x' : Cfg} (h1 : x'.ps = x.ps) (h2 : x'.rs = x.rs) (q : Int) : bidP x' q = bidP x q := by unfold bidP; rw [h1, h2]
section
variable {b : Nat} {T : TP} {x x' : Cfg} {gs : List Int}
set_option maxRecDepth 100000 in
set_option maxHeartbeats 4000000 in
theorem sof_any (p : Int) (w : World) (h : TW w b T x' gs) (k : Alike x x') (hk : LtOK x') :
    Calls Tryz.prog 60 #[.pointer (some ⟨T.N, 0, none⟩), .int .i64 p] w fun e w' => e = .returned (.tuple #[.int .i64 (if 0 < (rowO x p).length then seatP x (rowO x p) else 0), .bool (decide (0 < (rowO x p).length))]) ∧ Below w.heap.size w w' := by
  have HON := Lib.hid (on_al p w h k)
  have HCF := Lib.hid (fun W (hW : Below w.heap.size w W) => config_any W (h.next hW) hk.rn hk.ln)
  have hle := rowO_le x p
  have hp24 : x.ps.length ≤ 24 := by have := hk.pl; rw [k.p] at this; exact this
  have HMEM : Hid (∀ q ∈ rowO x p, ∃ j : Nat, q = (j : Int) ∧ j < x.ps.length) := Lib.hid (fun q hq => by
    rw [← rowO_alike k p, rowO_all hk.po, k.p] at hq
    obtain ⟨j, h1, h2, _⟩ := picks_nat hq
    exact ⟨j, h1, h2⟩)
  have HPO : Hid (∀ y ∈ x'.ps, 0 ≤ y.1 ∧ y.1 < x'.rs.length) := Lib.hid (fun y hy => ⟨(hk.po y hy).1, (hk.po y hy).2.1⟩)
  have HKP := Lib.hid k.p
  have HKR := Lib.hid k.r
  obtain ⟨P, hPd⟩ : ∃ P, rowO x p = P := ⟨_, rfl⟩
  have HPD := Lib.hid hPd
  rw [hPd] at HON hle HMEM ⊢
  clear h k hk hPd
  go_enter Tryz.func60, Tryz.ntmps60
  go_wp2_with fail
  refine HON.out.mono ?_
  rintro e w1 ⟨A, c, rfl, hj, hb1⟩
  have HJ := Lib.hid hj
  have HB1 := Lib.hid hb1
  have HC := Lib.hid (HCF.out w1 hb1)
  clear hj hb1 HCF HON
  go_wp2_with fail
  refine HC.out.mono ?_
  rintro e w2 ⟨M, x2, rfl, hc, hal, hb2⟩
  have hq := bids_any M x2 A P.length c P w2 hc.cw (fun y hy => by rw [hal.p] at hy; rw [hal.r]; exact HPO.out y hy) (HJ.out.next hb2) (fun q hq => by rw [hal.p, HKP.out]; exact HMEM.out q hq) (by omega) rfl
  rw [show bidsP x2 P = bidsP x P from List.map_congr_left fun q _ => bidP_alike (hal.p.trans HKP.out) (hal.r.trans HKR.out) q] at hq
  have HQ := Lib.hid hq
  have HJ2 := Lib.hid (HJ.out.next hb2)
  have HB2 := Lib.hid (below_next HB1.out hb2)
  clear hq hc hal hb2 HC HJ HB1
  go_wp2_with fail
  refine HQ.out.mono ?_
  rintro e w3 ⟨A3, rfl, har, hb3⟩
  have HL := Lib.hid (best_any A3 P.length P.length _ w3 har (by omega))
  have HJ3 := Lib.hid (HJ2.out.next hb3)
  have HB3 := Lib.hid (below_next HB2.out hb3)
  clear har hb3 HQ HJ2 HB2
  go_wp2_with fail
  refine HL.out.mono ?_
  rintro e w4 ⟨rfl, hb4⟩
  have HJ4 := Lib.hid (HJ3.out.next hb4)
  have HB4 := Lib.hid (below_next HB3.out hb4)
  have hlt := bestP_lt (bidsP x P) P.length
  have HSE : Hid (seatP x P = P.getD (bestP (bidsP x P) P.length) 0) := Lib.hid rfl
  obtain ⟨V, hV⟩ : ∃ V, seatP x P = V := ⟨_, rfl⟩
  rw [hV] at HSE
  have HVV := Lib.hid hV
  clear hV
  clear hb4 HL HJ3 HB3
  generalize hN : bestP (bidsP x P) P.length = N at *
  by_cases h0 : 0 < P.length
  · have hd : decide (0 < P.length) = true := by simpa using h0
    obtain ⟨b2, o2, rfl, hbl, hx⟩ := HJ4.out.at_ (show N < P.length by omega)
    have e0 : (N : Int) < (P.length : Int) := by omega
    have e1 : (0 : Int) ≤ (N : Int) := by omega
    rw [← HSE.out] at hx
    clear hbl
    go_wp2
    go_ret2
    refine ⟨?_, HB4.out⟩
    simp
    exact HVV.out.symm
  · have hd : decide (0 < P.length) = false := by simpa using h0
    go_wp2
    go_ret2
    refine ⟨?_, HB4.out⟩
    simp
end
theorem bestP_next (xs : List Bd) (k : Nat) : bestP xs (k + 1) = if beats (xs.getD k (0, 0)) (xs.getD (bestP xs k) (0, 0)) = true then k else bestP xs k := rfl
/-- the best of the first, or -1 -/
def bestS (x : Cfg) (P : List Int) (k : Nat) : Int := if k = 0 then -1 else P.getD (bestP (bidsP x P) k) 0
theorem bidsP_at {x : Cfg} {P : List Int} {k : Nat} {q : Int} (h : P[k]? = some q) : (bidsP x P).getD k (0, 0) = bidP x q := by
  unfold bidsP
  rw [List.getD_eq_getElem?_getD, List.getElem?_map, h]; rfl
theorem bestS_one {x : Cfg} {P : List Int} {k : Nat} {q : Int} (h : P[k]? = some q) (h0 : k = 0) : bestS x P (k + 1) = q := by
  subst h0
  unfold bestS
  rw [if_neg (by omega), bestP_next, show bestP (bidsP x P) 0 = 0 from rfl, ite_self, List.getD_eq_getElem?_getD, h]; rfl
theorem bestS_next {x : Cfg} {P : List Int} {k : Nat} {q r : Int} (h : P[k]? = some q) (h0 : 0 < k) (hr : P[bestP (bidsP x P) k]? = some r) : bestS x P k = r ∧ bestS x P (k + 1) = if beats (bidP x q) (bidP x r) = true then q else r := by
  unfold bestS
  rw [if_neg (by omega), if_neg (by omega), bestP_next, bidsP_at h, bidsP_at hr]
  refine ⟨by rw [List.getD_eq_getElem?_getD, hr]; rfl, ?_⟩
  split
  · rw [List.getD_eq_getElem?_getD, h]; rfl
  · rw [List.getD_eq_getElem?_getD, hr]; rfl
set_option maxRecDepth 100000 in
set_option maxHeartbeats 8000000 in
theorem dseat_any (M : Cm) (x : Cfg) (l : Int) (w : World) (h : CW w M x) (k : LtOK x) :
    Calls Tryz.prog 61 #[.agg #[.slice M.r.A M.r.n M.r.c, .slice M.l.A M.l.n M.l.c, .slice M.p.A M.p.n M.p.c, .slice M.o.A M.o.n M.o.c, .slice M.g.A M.g.n M.g.c, .slice M.s.A M.s.n M.s.c, .slice M.m.A M.m.n M.m.c], .int .i64 l] w fun e w' => e = .returned (.int .i64 (bestS x (picks (fun y => y.2.1 == l) x.ps x.ps.length) (picks (fun y => y.2.1 == l) x.ps x.ps.length).length)) ∧ Below w.heap.size w w' := by
  have HB1 := Lib.hid ((Below.refl w.heap.size w).alloc (Nat.le_refl _) (.cells #[.slice M.r.A M.r.n M.r.c, .slice M.l.A M.l.n M.l.c, .slice M.p.A M.p.n M.p.c, .slice M.o.A M.o.n M.o.c, .slice M.g.A M.g.n M.g.c, .slice M.s.A M.s.n M.s.c, .slice M.m.A M.m.n M.m.c] 30))
  have HK1 := Lib.hid (Blk.new w 30 #[.slice M.r.A M.r.n M.r.c, .slice M.l.A M.l.n M.l.c, .slice M.p.A M.p.n M.p.c, .slice M.o.A M.o.n M.o.c, .slice M.g.A M.g.n M.g.c, .slice M.s.A M.s.n M.s.c, .slice M.m.A M.m.n M.m.c])
  have HC := Lib.hid (h.next HB1.out)
  have HOK := Lib.hid k
  have hpn := h.p.len
  have HPM : Hid (∀ r ∈ (picks (fun y => y.2.1 == l) x.ps x.ps.length), ∃ j : Nat, r = (j : Int) ∧ j < x.ps.length) := Lib.hid (fun r hr => by
    obtain ⟨j, h1, h2, _⟩ := picks_nat hr
    exact ⟨j, h1, h2⟩)
  have hPl := picks_le (p := fun y : Int × Int × Int => y.2.1 == l) (xs := x.ps) x.ps.length
  have hp24 : x.ps.length ≤ 24 := k.pl
  clear h k
  obtain ⟨P, hP⟩ : ∃ P, (picks (fun y => y.2.1 == l) x.ps x.ps.length) = P := ⟨_, rfl⟩
  have HPP := Lib.hid hP
  rw [hP] at HPM hPl ⊢
  clear hP
  go_enter Tryz.func61, Tryz.ntmps61
  go_upto_region 1 with fail
  generalize w.alloc (.cells #[.slice M.r.A M.r.n M.r.c, .slice M.l.A M.l.n M.l.c, .slice M.p.A M.p.n M.p.c, .slice M.o.A M.o.n M.o.c, .slice M.g.A M.g.n M.g.c, .slice M.s.A M.s.n M.s.c, .slice M.m.A M.m.n M.m.c] 30) = W1 at *
  have y0 : W1.cell? ⟨w.heap.size, 0, none⟩ = some (.slice M.r.A M.r.n M.r.c) := HK1.out.cell 0
  have y1 : W1.cell? ⟨w.heap.size, 1, none⟩ = some (.slice M.l.A M.l.n M.l.c) := HK1.out.cell 1
  have y2 : W1.cell? ⟨w.heap.size, 2, none⟩ = some (.slice M.p.A M.p.n M.p.c) := HK1.out.cell 2
  have y3 : W1.cell? ⟨w.heap.size, 3, none⟩ = some (.slice M.o.A M.o.n M.o.c) := HK1.out.cell 3
  have y4 : W1.cell? ⟨w.heap.size, 4, none⟩ = some (.slice M.g.A M.g.n M.g.c) := HK1.out.cell 4
  have y5 : W1.cell? ⟨w.heap.size, 5, none⟩ = some (.slice M.s.A M.s.n M.s.c) := HK1.out.cell 5
  have y6 : W1.cell? ⟨w.heap.size, 6, none⟩ = some (.slice M.m.A M.m.n M.m.c) := HK1.out.cell 6
  have HON : Hid (Calls Tryz.prog 27 #[.agg #[.slice M.r.A M.r.n M.r.c, .slice M.l.A M.l.n M.l.c, .slice M.p.A M.p.n M.p.c, .slice M.o.A M.o.n M.o.c, .slice M.g.A M.g.n M.g.c, .slice M.s.A M.s.n M.s.c, .slice M.m.A M.m.n M.m.c], .int .i64 l] W1 fun e w' => ∃ v, e = .returned v ∧ w'.ownsRow W1.heap.size 3 1 v P.length (I64 P) ∧ Below W1.heap.size W1 w') := Lib.hid (by
    rw [← HPP.out, hpn]
    exact ron_any M x l W1 HC.out)
  go_wp2_with fail
  refine HON.out.mono ?_
  rintro e w2 ⟨v, rfl, hown, hb2⟩
  obtain ⟨A5, c5, rfl, hj⟩ := own_jr hown
  have HJ := Lib.hid hj
  have HB2 := Lib.hid hb2
  have HK := HK1
  clear y0 y1 y2 y3 y4 y5 y6 hown hj hb2 HON
  go_wp2_with fail
  go_loopw [5, 7] (fun bv iv wr => ∃ k : Nat, k ≤ P.length ∧ iv = .int .i64 (k : Int) ∧ bv = .int .i64 (bestS x P k) ∧ Hid (Below w2.heap.size w2 wr)) (fun _ iv _ => P.length - (intOf iv).toNat)
  case atStart => exact ⟨0, Nat.zero_le _, rfl, rfl, Lib.hid (Below.refl _ _)⟩
  case round =>
    obtain ⟨k, hk, rfl, rfl, HB⟩ := hrel
    rcases Nat.lt_or_ge k P.length with hlt | hge
    · obtain ⟨b5, o5, rfl, hb5, hx5⟩ := (HJ.out.next HB.out).at_ hlt
      have hgk : P[k]? = some (P.getD k 0) := by rw [List.getD_eq_getElem?_getD, List.getElem?_eq_getElem hlt]; rfl
      obtain ⟨j, hj, hjl⟩ := HPM.out _ (List.mem_of_getElem? hgk)
      rw [hj] at hgk hx5
      clear hj
      have HBW := Lib.hid (below_next HB2.out HB.out)
      have hi0 : (k : Int) < (P.length : Int) := by omega
      have hi1 : (0 : Int) ≤ (k : Int) := by omega
      have y0 : ∀ p : Snc wr, p.W.cell? ⟨w.heap.size, 0, none⟩ = some (.slice M.r.A M.r.n M.r.c) := fun p => ((HK.out.next (below_next HB2.out HB.out)).next p.b).cell 0
      have y1 : ∀ p : Snc wr, p.W.cell? ⟨w.heap.size, 1, none⟩ = some (.slice M.l.A M.l.n M.l.c) := fun p => ((HK.out.next (below_next HB2.out HB.out)).next p.b).cell 1
      have y2 : ∀ p : Snc wr, p.W.cell? ⟨w.heap.size, 2, none⟩ = some (.slice M.p.A M.p.n M.p.c) := fun p => ((HK.out.next (below_next HB2.out HB.out)).next p.b).cell 2
      have y3 : ∀ p : Snc wr, p.W.cell? ⟨w.heap.size, 3, none⟩ = some (.slice M.o.A M.o.n M.o.c) := fun p => ((HK.out.next (below_next HB2.out HB.out)).next p.b).cell 3
      have y4 : ∀ p : Snc wr, p.W.cell? ⟨w.heap.size, 4, none⟩ = some (.slice M.g.A M.g.n M.g.c) := fun p => ((HK.out.next (below_next HB2.out HB.out)).next p.b).cell 4
      have y5 : ∀ p : Snc wr, p.W.cell? ⟨w.heap.size, 5, none⟩ = some (.slice M.s.A M.s.n M.s.c) := fun p => ((HK.out.next (below_next HB2.out HB.out)).next p.b).cell 5
      have y6 : ∀ p : Snc wr, p.W.cell? ⟨w.heap.size, 6, none⟩ = some (.slice M.m.A M.m.n M.m.c) := fun p => ((HK.out.next (below_next HB2.out HB.out)).next p.b).cell 6
      have q0 : ∀ p : Snc wr, p.W.cell? ⟨b5, o5 + k, none⟩ = some (.int .i64 (j : Int)) := fun p => (p.b.cell (p := ⟨b5, o5 + k, none⟩) hb5).trans hx5
      have G1 : ∀ p : Snc wr, Calls Tryz.prog 103 #[.agg #[.slice M.r.A M.r.n M.r.c, .slice M.l.A M.l.n M.l.c, .slice M.p.A M.p.n M.p.c, .slice M.o.A M.o.n M.o.c, .slice M.g.A M.g.n M.g.c, .slice M.s.A M.s.n M.s.c, .slice M.m.A M.m.n M.m.c], .int .i64 (j : Int)] p.W fun e w' => e = .returned (.agg #[.int .i64 (bidP x (j : Int)).1, .int .u32 (bidP x (j : Int)).2]) ∧ ∃ Q : Snc wr, w' = Q.W := fun p => Calls.since (dbid_any M x j p.W ((HC.out.next HBW.out).next p.b) HOK.out hjl)
      rcases Nat.eq_zero_or_pos k with h0 | h0
      · have hb0 : bestS x P k = -1 := by rw [h0]; rfl
        have HN := Lib.hid (bestS_one (x := x) hgk h0)
        have G2 := G1
        have G3 : ∀ p : Snc wr, True := fun _ => trivial
        rw [hb0]
        clear hb0 h0 hgk hx5 hb5 hjl HBW
        go_upto_region 6 with fail
        refine wp_region_since (by kernel_rfl) (by kernel_rfl) ?_
        repeat (go_big_quiet_step (first | (go_at_call 103; first | (with_reducible exact G1 _) | (with_reducible exact G2 _)) | (go_at_call 57; with_reducible exact G3 _)))
        refine wpQuiet_nil ?_
        rintro w5 ⟨P5, rfl⟩
        have x5 := q0 P5
        have HB5 := Lib.hid (HB.out.trans (P5.b.mono HB.out.size))
        clear y0 y1 y2 y3 y4 y5 y6 q0 G1 G2 G3 HB
        generalize P5.W = W5 at *
        go_wp2
        go_roundw
        case rel => exact ⟨k + 1, hlt, by go_num, by rw [HN.out], HB5⟩
        case measure => simp [intOf]; omega
      · have hqk : bestP (bidsP x P) k < P.length := by have := bestP_lt (bidsP x P) k; omega
        have hgq : P[bestP (bidsP x P) k]? = some (P.getD (bestP (bidsP x P) k) 0) := by rw [List.getD_eq_getElem?_getD, List.getElem?_eq_getElem hqk]; rfl
        obtain ⟨j2, hj2, hjl2⟩ := HPM.out _ (List.mem_of_getElem? hgq)
        rw [hj2] at hgq
        clear hj2
        obtain ⟨hbs, hbn⟩ := bestS_next hgk h0 hgq
        rw [hbs]
        have HN := Lib.hid hbn
        clear hbs hbn h0 hgk hgq
        have G2 : ∀ p : Snc wr, Calls Tryz.prog 103 #[.agg #[.slice M.r.A M.r.n M.r.c, .slice M.l.A M.l.n M.l.c, .slice M.p.A M.p.n M.p.c, .slice M.o.A M.o.n M.o.c, .slice M.g.A M.g.n M.g.c, .slice M.s.A M.s.n M.s.c, .slice M.m.A M.m.n M.m.c], .int .i64 (j2 : Int)] p.W fun e w' => e = .returned (.agg #[.int .i64 (bidP x (j2 : Int)).1, .int .u32 (bidP x (j2 : Int)).2]) ∧ ∃ Q : Snc wr, w' = Q.W := fun p => Calls.since (dbid_any M x j2 p.W ((HC.out.next HBW.out).next p.b) HOK.out hjl2)
        obtain ⟨V, hV⟩ : ∃ V, beats (bidP x (j : Int)) (bidP x (j2 : Int)) = V := ⟨_, rfl⟩
        rw [hV] at HN
        have G3 : ∀ p : Snc wr, Calls Tryz.prog 57 #[.agg #[.int .i64 (bidP x (j : Int)).1, .int .u32 (bidP x (j : Int)).2], .agg #[.int .i64 (bidP x (j2 : Int)).1, .int .u32 (bidP x (j2 : Int)).2]] p.W fun e w' => e = .returned (.bool V) ∧ ∃ Q : Snc wr, w' = Q.W := fun p => Calls.since (by have := ahead_any (bidP x (j : Int)) (bidP x (j2 : Int)) p.W; rw [hV] at this; exact this)
        have hj4 : decide ((j2 : Int) < 0) = false := by simp
        generalize bidP x (j : Int) = bj at *
        generalize bidP x (j2 : Int) = bj2 at *
        clear hV hx5 hb5 hjl hjl2 HBW hqk
        cases V with
        | true =>
          rw [if_pos rfl] at HN
          go_upto_region 6 with fail
          refine wp_region_since (by kernel_rfl) (by kernel_rfl) ?_
          repeat (go_big_quiet_step (first | (go_at_call 103; first | (with_reducible exact G1 _) | (with_reducible exact G2 _)) | (go_at_call 57; with_reducible exact G3 _)))
          refine wpQuiet_nil ?_
          rintro w5 ⟨P5, rfl⟩
          have x5 := q0 P5
          have HB5 := Lib.hid (HB.out.trans (P5.b.mono HB.out.size))
          clear y0 y1 y2 y3 y4 y5 y6 q0 G1 G2 G3 HB
          generalize P5.W = W5 at *
          go_wp2
          go_roundw
          case rel => exact ⟨k + 1, hlt, by go_num, by rw [HN.out], HB5⟩
          case measure => simp [intOf]; omega
        | false =>
          rw [if_neg (by decide)] at HN
          go_upto_region 6 with fail
          refine wp_region_since (by kernel_rfl) (by kernel_rfl) ?_
          repeat (go_big_quiet_step (first | (go_at_call 103; first | (with_reducible exact G1 _) | (with_reducible exact G2 _)) | (go_at_call 57; with_reducible exact G3 _)))
          refine wpQuiet_nil ?_
          rintro w5 ⟨P5, rfl⟩
          have x5 := q0 P5
          have HB5 := Lib.hid (HB.out.trans (P5.b.mono HB.out.size))
          clear y0 y1 y2 y3 y4 y5 y6 q0 G1 G2 G3 HB
          generalize P5.W = W5 at *
          go_wp2
          go_roundw
          case rel => exact ⟨k + 1, hlt, by go_num, by rw [HN.out], HB5⟩
          case measure => simp [intOf]; omega
    · obtain rfl : k = P.length := by omega
      have q1 : decide ((P.length : Int) < (P.length : Int)) = false := by simp
      have HB9 := Lib.hid (HB1.out.trans ((below_next HB2.out HB.out).mono HB1.out.size))
      go_wp2
      go_ret
      exact ⟨rfl, HB9.out⟩
end Go.Proofs.YtbeoalmcibnpaaaGreatDoor
namespace Go.Proofs.YtbeoalmcibnpaaaGreatDoor
open Go.RowKit Lx Sm Go.Maps
def bestT (xs : List Bd) (k : Nat) : Int := if k = 0 then -1 else (bestP xs k : Int)
theorem bestT_next (xs : List Bd) {k : Nat} (h0 : 0 < k) {a b : Bd} (ha : xs[k]? = some a) (hb : xs[bestP xs k]? = some b) : bestT xs (k + 1) = if beats a b = true then (k : Int) else (bestP xs k : Int) := by
  unfold bestT
  rw [if_neg (by omega), bestP_next, List.getD_eq_getElem?_getD, ha, List.getD_eq_getElem?_getD, hb]
  show ((if beats a b = true then k else bestP xs k : Nat) : Int) = _
  split <;> rfl
theorem bestT_one (xs : List Bd) {k : Nat} (h0 : k = 0) : bestT xs (k + 1) = (k : Int) := by
  subst h0
  unfold bestT
  rw [if_neg (by omega), bestP_next, show bestP xs 0 = 0 from rfl, ite_self]
theorem bd_cells {w : World} {A : Option Addr} {n : Nat} {xs : List Bd} (h : RI CBd 2 w A n xs) {i : Nat} (hi : i < n) : ∃ b o y, A = some ⟨b, o, none⟩ ∧ xs[i]? = some y ∧ ∀ p : Snc w, p.W.cell? ⟨b, o + i * 2, none⟩ = some (.int .i64 y.1) ∧ p.W.cell? ⟨b, o + i * 2 + 1, none⟩ = some (.int .u32 y.2) := by
  obtain ⟨b, o, y, e, hb, hx, hc⟩ := h.at_ hi
  exact ⟨b, o, y, e, hx, fun p => ⟨(p.b.cell (p := ⟨b, o + i * 2, none⟩) hb).trans (hc 0 _ rfl), (p.b.cell (p := ⟨b, o + i * 2 + 1, none⟩) hb).trans (hc 1 _ rfl)⟩⟩
theorem bd_cell0 {w : World} {A : Option Addr} {n : Nat} {xs : List Bd} (h : RI CBd 2 w A n xs) (hi : 0 < n) : ∃ b o y, A = some ⟨b, o, none⟩ ∧ xs[0]? = some y ∧ ∀ p : Snc w, p.W.cell? ⟨b, o, none⟩ = some (.int .i64 y.1) ∧ p.W.cell? ⟨b, o + 1, none⟩ = some (.int .u32 y.2) := by
  obtain ⟨b, o, y, e, hx, hc⟩ := bd_cells h hi
  exact ⟨b, o, y, e, hx, fun p => by have := hc p; simpa using this⟩
theorem betterV {p q : Bd} {V : Bool} (h : beats p q = V) {w0 : World} (s : Snc w0) : Calls Tryz.prog 56 #[.agg #[.int .i64 p.1, .int .u32 p.2], .agg #[.int .i64 q.1, .int .u32 q.2]] s.W fun e w' => e = .returned (.bool V) ∧ ∃ Q : Snc w0, w' = Q.W := Calls.since (by have := better_any p q s.W; rw [h] at this; exact this)
theorem aheadV {p q : Bd} {V : Bool} (h : beats p q = V) {w0 : World} (s : Snc w0) : Calls Tryz.prog 57 #[.agg #[.int .i64 p.1, .int .u32 p.2], .agg #[.int .i64 q.1, .int .u32 q.2]] s.W fun e w' => e = .returned (.bool V) ∧ ∃ Q : Snc w0, w' = Q.W := Calls.since (by have := ahead_any p q s.W; rw [h] at this; exact this)
theorem otherV (p : Bd) {w0 : World} (s : Snc w0) : Calls Tryz.prog 58 #[.agg #[.int .i64 p.1, .int .u32 p.2]] s.W fun e w' => e = .returned (.agg #[.int .i64 p.1, .int .u32 p.2]) ∧ ∃ Q : Snc w0, w' = Q.W := Calls.since (other_any p s.W)
set_option maxHeartbeats 40000000 in
set_option maxRecDepth 100000 in
theorem law_ssays (ads : List Addr) (A : Option Addr) (n c : Nat) (xs : List Bd) (M : Cm) (x : Cfg) (p : Int) (w : World) (hE : EnvC ads w) (hr : RI CBd 2 w A n xs) (hL : LW w M x) :
    Calls Tryz.prog 12 #[.slice A n c, .agg #[.slice M.r.A M.r.n M.r.c, .slice M.l.A M.l.n M.l.c, .slice M.p.A M.p.n M.p.c, .slice M.o.A M.o.n M.o.c, .slice M.g.A M.g.n M.g.c, .slice M.s.A M.s.n M.s.c, .slice M.m.A M.m.n M.m.c], .int .i64 p] w fun e w' => e = .returned (.bool true) ∧ Below w.heap.size w w' := by
  have HB0 := Lib.hid ((Below.refl w.heap.size w).alloc (Nat.le_refl _) (.cells #[.slice M.r.A M.r.n M.r.c, .slice M.l.A M.l.n M.l.c, .slice M.p.A M.p.n M.p.c, .slice M.o.A M.o.n M.o.c, .slice M.g.A M.g.n M.g.c, .slice M.s.A M.s.n M.s.c, .slice M.m.A M.m.n M.m.c] 30))
  have HK0 := Lib.hid (Blk.new w 30 #[.slice M.r.A M.r.n M.r.c, .slice M.l.A M.l.n M.l.c, .slice M.p.A M.p.n M.p.c, .slice M.o.A M.o.n M.o.c, .slice M.g.A M.g.n M.g.c, .slice M.s.A M.s.n M.s.c, .slice M.m.A M.m.n M.m.c])
  have HF := Lib.hid (first12_any (w.alloc (.cells #[.slice M.r.A M.r.n M.r.c, .slice M.l.A M.l.n M.l.c, .slice M.p.A M.p.n M.p.c, .slice M.o.A M.o.n M.o.c, .slice M.g.A M.g.n M.g.c, .slice M.s.A M.s.n M.s.c, .slice M.m.A M.m.n M.m.c] 30)))
  have HE := Lib.hid hE
  have HL := Lib.hid hL
  have HR0 := Lib.hid (hr.next HB0.out)
  clear hE hL hr
  go_enter Tryz.func12, Tryz.ntmps12
  go_upto_region 1 with fail
  generalize w.alloc (.cells #[.slice M.r.A M.r.n M.r.c, .slice M.l.A M.l.n M.l.c, .slice M.p.A M.p.n M.p.c, .slice M.o.A M.o.n M.o.c, .slice M.g.A M.g.n M.g.c, .slice M.s.A M.s.n M.s.c, .slice M.m.A M.m.n M.m.c] 30) = W0 at *
  go_wp2_with fail
  refine HF.out.mono ?_
  rintro e w1 ⟨rfl, hb1⟩
  have HB1 := Lib.hid (below_next HB0.out hb1)
  have HK1 := Lib.hid (HK0.out.next hb1)
  have HR1 := Lib.hid (HR0.out.next hb1)
  clear hb1 HF HR0
  have y0 : w1.cell? ⟨w.heap.size, 0, none⟩ = some (.slice M.r.A M.r.n M.r.c) := HK1.out.cell 0
  have y1 : w1.cell? ⟨w.heap.size, 1, none⟩ = some (.slice M.l.A M.l.n M.l.c) := HK1.out.cell 1
  have y2 : w1.cell? ⟨w.heap.size, 2, none⟩ = some (.slice M.p.A M.p.n M.p.c) := HK1.out.cell 2
  have y3 : w1.cell? ⟨w.heap.size, 3, none⟩ = some (.slice M.o.A M.o.n M.o.c) := HK1.out.cell 3
  have y4 : w1.cell? ⟨w.heap.size, 4, none⟩ = some (.slice M.g.A M.g.n M.g.c) := HK1.out.cell 4
  have y5 : w1.cell? ⟨w.heap.size, 5, none⟩ = some (.slice M.s.A M.s.n M.s.c) := HK1.out.cell 5
  have y6 : w1.cell? ⟨w.heap.size, 6, none⟩ = some (.slice M.m.A M.m.n M.m.c) := HK1.out.cell 6
  have HG := Lib.hid (light_any M x 8 w1 (HL.out.next HB1.out) (by omega))
  by_cases hbig : 20 < n
  · have hd : decide ((20 : Int) < (n : Int)) = true := by simp; omega
    go_wp2
    go_ret
    exact ⟨rfl, HB1.out⟩
  have hd : decide ((20 : Int) < (n : Int)) = false := by simp; omega
  go_wp2_with fail
  refine HG.out.mono ?_
  rintro e w2 ⟨rfl, hb2⟩
  have HB2 := Lib.hid (below_next HB1.out hb2)
  have HK2 := Lib.hid (HK1.out.next hb2)
  have HR2 := Lib.hid (HR1.out.next hb2)
  clear y0 y1 y2 y3 y4 y5 y6 HG hb2 HR1
  cases hlp : lightP x 8 with
  | false =>
    go_wp2
    go_ret
    exact ⟨rfl, HB2.out⟩
  | true =>
    have HOK := Lib.hid (lt_ok hlp (by omega))
    have HC2 := Lib.hid ((HL.out.next HB2.out).cw HOK.out)
    clear hlp hd HB1 HK1 HB0 HK0 HL
    go_wp2_with fail
    go_loopw [8, 9] (fun bv iv wr => ∃ k : Nat, k ≤ n ∧ iv = .int .i64 (k : Int) ∧ bv = .int .i64 (bestT xs k) ∧ Hid (Below w2.heap.size w2 wr)) (fun _ iv _ => n - (intOf iv).toNat)
    case atStart => exact ⟨0, Nat.zero_le _, rfl, rfl, Lib.hid (Below.refl _ _)⟩
    case round =>
      obtain ⟨k, hk, rfl, rfl, HB⟩ := hrel
      rcases Nat.lt_or_ge k n with hlt | hge
      · obtain ⟨b, oo, u, rfl, hu, huc⟩ := bd_cells (HR2.out.next HB.out) hlt
        obtain ⟨b', oo', v, e1, hv, hvc⟩ := bd_cell0 (HR2.out.next HB.out) (show 0 < n by omega)
        cases e1
        have q0 := fun p => (huc p).1
        have q1 := fun p => (huc p).2
        have q2 := fun p => (hvc p).1
        have q3 := fun p => (hvc p).2
        have hi0 : (k : Int) < (n : Int) := by omega
        have hi1 : (0 : Int) ≤ (k : Int) := by omega
        have hi2 : (0 : Int) < (n : Int) := by omega
        obtain ⟨V, hV⟩ : ∃ V, beats u v = V := ⟨_, rfl⟩
        have hVV : (V != V) = false := by cases V <;> rfl
        have G1 := fun s : Snc wr => betterV hV s
        have G2 := fun s : Snc wr => otherV u s
        have G3 := fun s : Snc wr => otherV v s
        have G4 := fun s : Snc wr => aheadV hV s
        have HU := Lib.hid hu
        clear huc hvc hu hv hV
        go_upto_region 10 with fail
        refine wp_region_since (by kernel_rfl) (by kernel_rfl) ?_
        repeat (go_big_quiet_step (first | (go_at_call 56; with_reducible exact G1 _) | (go_at_call 58; first | (with_reducible exact G2 _) | (with_reducible exact G3 _)) | (go_at_call 57; with_reducible exact G4 _)))
        refine wpQuiet_nil ?_
        rintro w5 ⟨P5, rfl⟩
        have HB5 := Lib.hid (HB.out.trans (P5.b.mono HB.out.size))
        clear q0 q1 q2 q3 G1 G2 G3 G4 HB
        generalize P5.W = W5 at *
        obtain ⟨b', oo', u', e1, hu', huc⟩ := bd_cells (HR2.out.next HB5.out) hlt
        cases e1
        obtain rfl : u = u' := Option.some.inj (HU.out.symm.trans hu')
        have q0 := fun p => (huc p).1
        have q1 := fun p => (huc p).2
        have G2 := fun s : Snc W5 => otherV u s
        clear huc hu'
        rcases Nat.eq_zero_or_pos k with h0 | h0
        · have hb0 : bestT xs k = -1 := by rw [h0]; rfl
          have HN := Lib.hid (bestT_one xs h0)
          have G3 := G2
          have G4 : True := trivial
          rw [hb0]
          clear hb0 h0
          go_upto_region 12 with fail
          refine wp_region_since (by kernel_rfl) (by kernel_rfl) ?_
          repeat (go_big_quiet_step (first | (go_at_call 58; first | (with_reducible exact G2 _) | (with_reducible exact G3 _)) | (go_at_call 57; with_reducible exact (fun _ => G4) _)))
          refine wpQuiet_nil ?_
          rintro w6 ⟨P6, rfl⟩
          have HB6 := Lib.hid (HB5.out.trans (P6.b.mono HB5.out.size))
          clear q0 q1 G2 G3 G4 HB5 hVV
          generalize P6.W = W6 at *
          go_wp2
          go_roundw
          case rel => exact ⟨k + 1, hlt, by go_num, by rw [HN.out], HB6⟩
          case measure => simp [intOf]; omega
        · have hqk : bestP xs k < n := by have := bestP_lt xs k; omega
          obtain ⟨b', oo', t, e1, ht, htc⟩ := bd_cells (HR2.out.next HB5.out) hqk
          cases e1
          have hbt : bestT xs k = (bestP xs k : Int) := by unfold bestT; rw [if_neg (by omega)]
          have HN := Lib.hid (bestT_next xs h0 HU.out ht)
          rw [hbt]
          clear hbt ht h0
          generalize bestP xs k = qq at *
          have q2 := fun p => (htc p).1
          have q3 := fun p => (htc p).2
          have j0 : (qq : Int) < (n : Int) := by omega
          have j1 : (0 : Int) ≤ (qq : Int) := by omega
          have j2 : decide ((qq : Int) < 0) = false := by simp
          obtain ⟨V2, hV2⟩ : ∃ V, beats u t = V := ⟨_, rfl⟩
          rw [hV2] at HN
          have G3 := fun s : Snc W5 => otherV t s
          have G4 := fun s : Snc W5 => aheadV hV2 s
          clear htc hV2 hVV
          cases V2 with
          | true =>
            rw [if_pos rfl] at HN
            go_upto_region 12 with fail
            refine wp_region_since (by kernel_rfl) (by kernel_rfl) ?_
            repeat (go_big_quiet_step (first | (go_at_call 58; first | (with_reducible exact G2 _) | (with_reducible exact G3 _)) | (go_at_call 57; with_reducible exact G4 _)))
            refine wpQuiet_nil ?_
            rintro w6 ⟨P6, rfl⟩
            have HB6 := Lib.hid (HB5.out.trans (P6.b.mono HB5.out.size))
            clear q0 q1 q2 q3 G2 G3 G4 HB5
            generalize P6.W = W6 at *
            go_wp2
            go_roundw
            case rel => exact ⟨k + 1, hlt, by go_num, by rw [HN.out], HB6⟩
            case measure => simp [intOf]; omega
          | false =>
            rw [if_neg (by decide)] at HN
            go_upto_region 12 with fail
            refine wp_region_since (by kernel_rfl) (by kernel_rfl) ?_
            repeat (go_big_quiet_step (first | (go_at_call 58; first | (with_reducible exact G2 _) | (with_reducible exact G3 _)) | (go_at_call 57; with_reducible exact G4 _)))
            refine wpQuiet_nil ?_
            rintro w6 ⟨P6, rfl⟩
            have HB6 := Lib.hid (HB5.out.trans (P6.b.mono HB5.out.size))
            clear q0 q1 q2 q3 G2 G3 G4 HB5
            generalize P6.W = W6 at *
            go_wp2
            go_roundw
            case rel => exact ⟨k + 1, hlt, by go_num, by rw [HN.out], HB6⟩
            case measure => simp [intOf]; omega
      · obtain rfl : k = n := by omega
        have q1 : decide ((k : Int) < (k : Int)) = false := by simp
        have HLs := Lib.hid (best_any A k c xs wr (HR2.out.next HB.out) (by omega))
        go_wp2_with fail
        refine HLs.out.mono ?_
        rintro e w3 ⟨rfl, hb3⟩
        have HB3 := Lib.hid (below_next HB.out hb3)
        clear hb3 q1 HB HLs
        have HTT := Lib.hid (new_light ads M x w3 (HE.out.below (HB2.out.trans (HB3.out.mono HB2.out.size))) (HC2.out.next HB3.out) HOK.out)
        have y0 : w3.cell? ⟨w.heap.size, 0, none⟩ = some (.slice M.r.A M.r.n M.r.c) := (HK2.out.next HB3.out).cell 0
        have y1 : w3.cell? ⟨w.heap.size, 1, none⟩ = some (.slice M.l.A M.l.n M.l.c) := (HK2.out.next HB3.out).cell 1
        have y2 : w3.cell? ⟨w.heap.size, 2, none⟩ = some (.slice M.p.A M.p.n M.p.c) := (HK2.out.next HB3.out).cell 2
        have y3 : w3.cell? ⟨w.heap.size, 3, none⟩ = some (.slice M.o.A M.o.n M.o.c) := (HK2.out.next HB3.out).cell 3
        have y4 : w3.cell? ⟨w.heap.size, 4, none⟩ = some (.slice M.g.A M.g.n M.g.c) := (HK2.out.next HB3.out).cell 4
        have y5 : w3.cell? ⟨w.heap.size, 5, none⟩ = some (.slice M.s.A M.s.n M.s.c) := (HK2.out.next HB3.out).cell 5
        have y6 : w3.cell? ⟨w.heap.size, 6, none⟩ = some (.slice M.m.A M.m.n M.m.c) := (HK2.out.next HB3.out).cell 6
        go_wp2_with fail
        refine HTT.out.mono ?_
        rintro e w8 ⟨T, x', rfl, hT, hal, hb8⟩
        have HT := Lib.hid hT
        have HAL := Lib.hid hal
        have HBD := Lib.hid (below_next HB3.out hb8)
        have HOK' := Lib.hid (HOK.out.alike HAL.out (by rw [vcode_alike HAL.out]; exact HOK.out.v))
        clear y0 y1 y2 y3 y4 y5 y6 hT hal hb8 HTT HB3
        have hbi : bestT xs k = if k = 0 then -1 else (bestP xs k : Int) := rfl
        have HBI := Lib.hid hbi
        clear hbi
        have HDD : Hid (∃ D, decide (0 < k) = D) := Lib.hid ⟨_, rfl⟩
        obtain ⟨D, hD⟩ := HDD.out
        rw [hD]
        have HD := Lib.hid hD
        clear HDD hD
        generalize bestT xs k = bi at *
        generalize bestP xs k = q at *
        go_upto_region 16 with fail
        go_cut [98] from 79 to 98 (fun s98 wd => s98 = .bool false ∧ w8 = wd)
        case first =>
          rcases Nat.eq_zero_or_pos k with h0 | h0
          · obtain rfl : D = false := by rw [← HD.out]; simp; omega
            obtain rfl : bi = -1 := by rw [HBI.out, if_pos h0]
            clear h0
            go_wp2_with fail
            go_meet
            case rel => exact ⟨rfl, rfl⟩
          · obtain rfl : D = true := by rw [← HD.out]; simp; omega
            obtain rfl : bi = (q : Int) := by rw [HBI.out, if_neg (by omega)]
            have a3 : ((q : Int) != (q : Int)) = false := by simp
            have a4 : (0 : Int) ≤ (q : Int) := by omega
            clear h0
            go_wp2_with fail
            go_meet
            case rel => exact ⟨rfl, rfl⟩
        case rest s98 wd =>
          obtain ⟨rfl, rfl⟩ := hcut
          clear HBI HD
          have HQ := Lib.hid (sof_any p w8 HT.out HAL.out HOK'.out)
          have HLN := Lib.hid HC2.out.l.len
          have HDS := Lib.hid (fun W (hW : Below w2.heap.size w2 W) => dseat_any M x p W (HC2.out.next hW) HOK.out)
          have HRO := Lib.hid (rowO_all HOK.out.po p)
          have HROU : Hid (¬ (0 ≤ p ∧ p < (x.ls.length : Int)) → rowO x p = []) := Lib.hid (fun h => rowIn_out h)
          have HPM : Hid (∀ r ∈ picks (fun y => y.2.1 == p) x.ps x.ps.length, ∃ j : Nat, r = (j : Int) ∧ j < x.ps.length) := Lib.hid (fun r hr => by
            obtain ⟨j, h1, h2, _⟩ := picks_nat hr
            exact ⟨j, h1, h2⟩)
          generalize picks (fun y => y.2.1 == p) x.ps x.ps.length = P at *
          rw [HRO.out] at HQ HROU
          obtain ⟨AV, hav⟩ : ∃ a, (if 0 < P.length then seatP x P else 0) = a := ⟨_, rfl⟩
          obtain ⟨DV, hdv⟩ : ∃ a, decide (0 < P.length) = a := ⟨_, rfl⟩
          rw [hav, hdv] at HQ
          have HAV := Lib.hid hav
          have HDV := Lib.hid hdv
          clear hav hdv HRO
          go_wp2_with fail
          refine HQ.out.mono ?_
          rintro e w9 ⟨rfl, hb9⟩
          have HBE := Lib.hid (below_next HBD.out hb9)
          clear hb9 HQ HBD HT HAL
          have HB9 := Lib.hid (HB2.out.trans (HBE.out.mono HB2.out.size))
          have y1 : w9.cell? ⟨w.heap.size, 1, none⟩ = some (.slice M.l.A M.l.n M.l.c) := (HK2.out.next HBE.out).cell 1
          by_cases hp0 : 0 ≤ p
          · by_cases hp1 : p < (M.l.n : Int)
            · have hd0 : decide ((0 : Int) ≤ p) = true := by simpa using hp0
              have hd1 : decide (p < (M.l.n : Int)) = true := by simpa using hp1
              go_upto_region 21 with fail
              have y0 : w9.cell? ⟨w.heap.size, 0, none⟩ = some (.slice M.r.A M.r.n M.r.c) := (HK2.out.next HBE.out).cell 0
              have y1 : w9.cell? ⟨w.heap.size, 1, none⟩ = some (.slice M.l.A M.l.n M.l.c) := (HK2.out.next HBE.out).cell 1
              have y2 : w9.cell? ⟨w.heap.size, 2, none⟩ = some (.slice M.p.A M.p.n M.p.c) := (HK2.out.next HBE.out).cell 2
              have y3 : w9.cell? ⟨w.heap.size, 3, none⟩ = some (.slice M.o.A M.o.n M.o.c) := (HK2.out.next HBE.out).cell 3
              have y4 : w9.cell? ⟨w.heap.size, 4, none⟩ = some (.slice M.g.A M.g.n M.g.c) := (HK2.out.next HBE.out).cell 4
              have y5 : w9.cell? ⟨w.heap.size, 5, none⟩ = some (.slice M.s.A M.s.n M.s.c) := (HK2.out.next HBE.out).cell 5
              have y6 : w9.cell? ⟨w.heap.size, 6, none⟩ = some (.slice M.m.A M.m.n M.m.c) := (HK2.out.next HBE.out).cell 6
              have HD9 := Lib.hid (HDS.out w9 HBE.out)
              obtain ⟨S, hS⟩ : ∃ S, bestS x P P.length = S := ⟨_, rfl⟩
              rw [hS] at HD9
              have HS := Lib.hid hS
              clear hS hd0 hd1
              go_wp2_with fail
              refine HD9.out.mono ?_
              rintro e w10 ⟨rfl, hb10⟩
              have HB10 := Lib.hid (HB9.out.trans (hb10.mono HB9.out.size))
              clear hb10 y0 y1 y2 y3 y4 y5 y6 HD9 HDS
              rcases Nat.eq_zero_or_pos P.length with h0 | h0
              · obtain rfl : DV = false := by rw [← HDV.out, decide_eq_false_iff_not]; omega
                obtain rfl : S = -1 := by rw [← HS.out, h0]; rfl
                clear HAV HDV h0
                go_wp2
                go_ret
                exact ⟨rfl, HB10.out⟩
              · obtain rfl : DV = true := by rw [← HDV.out, decide_eq_true_eq]; omega
                have hqk : bestP (bidsP x P) P.length < P.length := by have := bestP_lt (bidsP x P) P.length; omega
                have hgq : P[bestP (bidsP x P) P.length]? = some (P.getD (bestP (bidsP x P) P.length) 0) := by rw [List.getD_eq_getElem?_getD, List.getElem?_eq_getElem hqk]; rfl
                obtain ⟨j', hj', hjl'⟩ := HPM.out _ (List.mem_of_getElem? hgq)
                obtain rfl : S = (j' : Int) := by rw [← HS.out, ← hj']; unfold bestS; rw [if_neg (by omega)]
                obtain rfl : AV = (j' : Int) := by rw [← HAV.out, if_pos h0, ← hj']; rfl
                have d1 : (0 : Int) ≤ (j' : Int) := by omega
                have d2 : ((j' : Int) == (j' : Int)) = true := by simp
                clear hgq hj' h0 HAV HDV HS hqk
                go_wp2
                go_ret
                exact ⟨rfl, HB10.out⟩
            · have hd0 : decide ((0 : Int) ≤ p) = true := by simpa using hp0
              have hd1 : decide (p < (M.l.n : Int)) = false := by simpa using hp1
              have hP : P = [] := HROU.out (by rw [HLN.out]; omega)
              obtain rfl : DV = false := by rw [← HDV.out, hP]; rfl
              clear hP HAV HDV
              go_wp2
              go_ret
              exact ⟨rfl, HB9.out⟩
          · have hd0 : decide ((0 : Int) ≤ p) = false := by simpa using hp0
            have hP : P = [] := HROU.out (by omega)
            obtain rfl : DV = false := by rw [← HDV.out, hP]; rfl
            clear hP HAV HDV
            go_wp2
            go_ret
            exact ⟨rfl, HB9.out⟩
end Go.Proofs.YtbeoalmcibnpaaaGreatDoor

