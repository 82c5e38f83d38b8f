/- Package age's Tick, over the seat's program. -/
import Derived.Test.YtnnppoamdllebaaAk
import Derived.Test.YtnnppoamdllebaaAl
namespace Go.Proofs.Ytnnppoamdllebaa
open Go.RowKit Go.MapKept Go.ChangeMaps Sm Ag
/-- a tick under way -/
def TickI (w : World) (N b R : Nat) (T : Row) (wr : World) : Prop := ∃ S T' clock, IT wr b R T' clock S ∧ T' = T.filterMap (oldS S) ∧ Chg w wr N (some b) ∧ Blk wr N 33 #[.map (some b)]
section
variable {w wr w2 W3 : World} {N b R ck nb : Nat} {T T' : Row} {S : Array Nat} {y y' : Ex} {x : Th}
theorem IT.struck (h : IT w b R T ck S) (hx : wfT x) : IT (dlW w b T ck x) b R (del T x) ck S := by
  have h1 := (h.am.strike hx 0).2.1
  have hg := (h.am.strike hx 0).2.2.1
  have hn := h.ne
  have hl := h.lt
  obtain ⟨since, c0, hr, ho, hs1, hs2⟩ := h.it
  exact ⟨h1, since, c0, (hg.block R hl (by simpa using hn)).trans hr, fun p hp => ho p (List.mem_filter.1 hp).1, hs1, hs2⟩
theorem IT.stored (h : IT w b R T ck S) (hy : Good w y) (hf : (find T y.e.t).isSome = true) : IT (stW w b T ck y) b R (Ag.upd T y) ck S := by
  have h1 := (h.am.store hy).2.1
  have hg := (h.am.store hy).2.2.1
  have hn := h.ne
  have hl := h.lt
  have e1 : put T ck y = Ag.upd T y := by unfold put; rw [if_pos hf]
  have e2 : tock T ck y = ck := by unfold tock; rw [if_pos hf]
  rw [e1, e2] at h1
  obtain ⟨since, c0, hr, ho, hs1, hs2⟩ := h.it
  refine ⟨h1, since, c0, (hg.block R hl (by simpa using hn)).trans hr, fun p hp => ?_, hs1, hs2⟩
  unfold Ag.upd at hp
  obtain ⟨q, hq, rfl⟩ := List.mem_map.1 hp
  split <;> exact ho q hq
theorem Chg.then_ {W : World} (h : Chg w W N (some b)) {W' : World} (hg : W.grownBy W' (some b)) : Chg w W' N (some b) :=
  ⟨hg.os.trans h.os, hg.tape.trans h.tape, hg.output.trans h.output, Nat.le_trans h.size hg.size, fun i hi h1 h2 => (hg.block i (Nat.lt_of_lt_of_le hi h.size) (fun e => h2 e.symm)).trans (h.block i hi h1 h2)⟩
theorem Came.chg (hcm : Came wr w2 b R T' ck S nb y) (hR : w.heap.size ≤ R) (hC : Chg w wr N (some b)) (hB : Blk wr N 33 #[.map (some b)]) (hN : N < w.heap.size) (hW : Below w2.heap.size w2 W3) : Chg w W3 N (some b) ∧ Blk W3 N 33 #[.map (some b)] := by
  have hg := hcm.grown
  refine ⟨Chg.next ⟨hg.os.trans hC.os, hg.tape.trans hC.tape, hg.output.trans hC.output, Nat.le_trans hC.size hg.size, fun i hi h1 h2 => ?_⟩ hW, Blk.next ?_ hW⟩
  · exact (hg.block i (Nat.lt_of_lt_of_le hi hC.size) (fun e => by cases e; omega)).trans (hC.block i hi h1 h2)
  · exact (hg.block N hB.lt (fun e => by cases e; omega)).trans hB
theorem tick_drop (hcm : Came wr w2 b R T' ck S nb y) (hI : IT wr b R T' ck S) (hT : T' = T.filterMap (oldS S)) (hAp : Apart T) (hOn : (T.map (·.1)).Nodup) (hR : w.heap.size ≤ R) (hC : Chg w wr N (some b)) (hB : Blk wr N 33 #[.map (some b)]) (hN : N < w.heap.size) (hNb : N ≠ b)
    (hW : Below w2.heap.size w2 W3) (ho : 3 < y.e.a + 1) : TickI w N b R T (dlW W3 b T' ck y.e.t) ∧ (dlW W3 b T' ck y.e.t).rangeLeft b R < wr.rangeLeft b R := by
  have hIT := hcm.it.next hW
  have hx := (hIT.am.each _ hcm.mem).1
  have hmem := oldS_mem (p := (nb, y)) (hT ▸ hcm.mem) hcm.new
  have hI3 := hIT.struck hx
  have hdel : del T' y.e.t = T.filterMap (oldS (S.push nb)) := by
    rw [hT]
    exact oldS_del hAp hOn hmem hcm.new (by unfold old1 old; rw [if_pos (by simpa using ho)]; rfl)
  obtain ⟨h1, h2⟩ := hcm.chg hR hC hB hN hW
  have hg := (hIT.am.strike hx 0).2.2.1
  refine ⟨⟨_, _, _, hI3, hdel, h1.then_ hg, (hg.block N h2.lt (by simpa using hNb)).trans h2⟩, ?_⟩
  rw [hI3.left_eq, hI.left_eq, hdel, cnt_old, hT, cnt_old]
  exact cnt_push hmem hcm.new
theorem tick_keep (hcm : Came wr w2 b R T' ck S nb y) (hI : IT wr b R T' ck S) (hT : T' = T.filterMap (oldS S)) (hAp : Apart T) (hOn : (T.map (·.1)).Nodup) (hR : w.heap.size ≤ R) (hC : Chg w wr N (some b)) (hB : Blk wr N 33 #[.map (some b)]) (hN : N < w.heap.size) (hNb : N ≠ b)
    (hW : Below w2.heap.size w2 W3) (ho : ¬ 3 < y.e.a + 1) : Good W3 { y with e := { y.e with a := y.e.a + 1 } } ∧ TickI w N b R T (stW W3 b T' ck { y with e := { y.e with a := y.e.a + 1 } }) ∧ (stW W3 b T' ck { y with e := { y.e with a := y.e.a + 1 } }).rangeLeft b R < wr.rangeLeft b R := by
  have hIT := hcm.it.next hW
  have hgd := hIT.am.each _ hcm.mem
  have hmem := oldS_mem (p := (nb, y)) (hT ▸ hcm.mem) hcm.new
  have hgy : Good W3 { y with e := { y.e with a := y.e.a + 1 } } := ⟨hgd.1, by have := hgd.2.1; simp only at *; omega, hgd.2.2⟩
  have hf : (find T' y.e.t).isSome = true := by rw [find_some hIT.am.apart hcm.mem]; rfl
  have hI3 := hIT.stored hgy hf
  have hup : Ag.upd T' { y with e := { y.e with a := y.e.a + 1 } } = T.filterMap (oldS (S.push nb)) := by
    rw [hT]
    exact oldS_upd hAp hOn hmem hcm.new (q := (nb, { y with e := { y.e with a := y.e.a + 1 } })) (by unfold old1 old; rw [if_neg (by simpa using ho)]; rfl)
  obtain ⟨h1, h2⟩ := hcm.chg hR hC hB hN hW
  have hg := (hIT.am.store hgy).2.2.1
  refine ⟨hgy, ⟨_, _, _, hI3, hup, h1.then_ hg, (hg.block N h2.lt (by simpa using hNb)).trans h2⟩, ?_⟩
  rw [hI3.left_eq, hI.left_eq, hup, cnt_old, hT, cnt_old]
  exact cnt_push hmem hcm.new
end
set_option maxRecDepth 100000 in
set_option maxHeartbeats 4000000 in
theorem tick_some (w : World) (N b clock : Nat) (T : Row) (hN : Blk w N 33 #[.map (some b)]) (hm : AM w b T clock) (hlen : T.length ≤ 1000000) :
    Calls Try.prog 13 #[.pointer (some ⟨N, 0, none⟩)] w fun e w' => e = .returned (.int .i64 ((T.length : Int) - ((T.filterMap old1).length : Int))) ∧ TB w' N (some b) (T.filterMap old1) ∧ Chg w w' N (some b) := by
  have hsz : (T.map mkE).toArray.size = T.length := by simp
  have hq1 := len_eq hm.block
  rw [hsz] at hq1
  have hc : w.cell? ⟨N, 0, none⟩ = some (.map (some b)) := by simpa using hN.cell 0
  obtain ⟨hrg, hI0⟩ := hm.range_
  have HI : Hid (TickI w N b w.heap.size T (w.alloc (.mapIter (some b) clock #[] clock))) := Lib.hid ⟨#[], T, clock, hI0, (oldS_start T).symm, Chg.of_below ((Below.refl _ _).alloc (Nat.le_refl _) _) _ _, hN.alloc _⟩
  have HT := Lib.hid hm.once
  have HAp := Lib.hid hm.apart
  have hbw : b < w.heap.size := hm.lt
  have hNw := hN.lt
  have hNb : N ≠ b := by
    rintro rfl
    have h1 := hm.block
    unfold Blk at hN
    rw [hN] at h1
    cases h1
  generalize hTL : T.length = TL at *
  clear hsz hN hm
  go_enter Try.func13, Try.ntmps13
  go_upto_region 3 with fail
  generalize w.alloc (.mapIter (some b) clock #[] clock) = W1 at *
  have HNW : Hid (N < w.heap.size ∧ N ≠ b) := Lib.hid ⟨hNw, hNb⟩
  have HTL : Hid (T.length = TL) := Lib.hid hTL
  generalize hRR : w.heap.size = R at hI0 HI ⊢
  have HRR : Hid (w.heap.size ≤ R) := Lib.hid (Nat.le_of_eq hRR)
  clear hq1 hrg hRR hbw hNw hNb hTL hc hI0
  go_loopw [16] (fun _ wr => Hid (TickI w N b R T wr)) (fun _ wr => wr.rangeLeft b R)
  case atStart => exact HI
  case round =>
    clear HI
    have HR := hrel
    clear hrel
    obtain ⟨S, T', ck, hI, hT0, hC0, hB0⟩ := HR.out
    have hT := Lib.hid hT0
    have hC := Lib.hid hC0
    have hB := Lib.hid hB0
    have HI := Lib.hid hI
    clear hT0 hC0 hB0
    go_wp2_with (first | (at_next; refine wpList_next_it rfl _ rfl rfl hI ?_ ?_) | go_in)
    · intro hall
      have hfin : T' = T.filterMap old1 := by rw [hT.out]; exact oldS_end (by have h := hall; rw [hT.out] at h; exact h)
      have hq := len_eq hI.am.block
      rw [show (T'.map mkE).toArray.size = T'.length by simp] at hq
      have hcN : wr.cell? ⟨N, 0, none⟩ = some (.map (some b)) := by simpa using hB.out.cell 0
      have HF : Hid (TB wr N (some b) (T.filterMap old1) ∧ Chg w wr N (some b) ∧ T'.length = (T.filterMap old1).length) := Lib.hid ⟨⟨hB.out, .inr ⟨b, ck, rfl, hfin ▸ hI.am⟩⟩, hC.out, by rw [hfin]⟩
      have hle : T'.length ≤ TL := by rw [hT.out, ← HTL.out]; exact List.length_filterMap_le _ _
      generalize T'.length = q at *
      clear hT hfin HR HI hI hall
      go_wp2_with fail
      go_ret
      exact ⟨ret_int (by rw [HF.out.2.2]), HF.out.1, HF.out.2.1⟩
    · intro nb y w2 hcm
      obtain ⟨⟨⟨b0, b1, b2, b3, b4⟩, a5, ⟨k, f, t, s, g, r, c, o, l⟩⟩, A, n, cp⟩ := y
      have HCM := Lib.hid hcm
      have hgood := hcm.it.am.each _ hcm.mem
      have ha5 := hgood.2.1
      have en := hcm.entry w2 rfl rfl
      clear hcm hgood hI
      dsimp only [tv, ev, encE] at en ha5 ⊢
      have hWB : Below w2.heap.size w2 ((w2.alloc (.cells #[.int .i64 b0, .int .i64 b1, .int .u32 b2, .int .u32 b3, .int .u32 b4] 28)).alloc (.cells #[.int .i64 b0, .int .i64 b1, .int .u32 b2, .int .u32 b3, .int .u32 b4, .int .i64 (a5 + 1), .int .i64 k, .int .u32 f, .int .u32 t, .int .u32 s, .int .u32 g, .int .i64 r, .int .i64 c, .bool o, .slice A n cp] 56)) := (((Below.refl _ _).alloc (Nat.le_refl _) _).alloc (by simp) _)
      have hk0 := ((Blk.new w2 28 #[.int .i64 b0, .int .i64 b1, .int .u32 b2, .int .u32 b3, .int .u32 b4]).alloc (.cells #[.int .i64 b0, .int .i64 b1, .int .u32 b2, .int .u32 b3, .int .u32 b4, .int .i64 (a5 + 1), .int .i64 k, .int .u32 f, .int .u32 t, .int .u32 s, .int .u32 g, .int .i64 r, .int .i64 c, .bool o, .slice A n cp] 56))
      have hk1 := (Blk.new (w2.alloc (.cells #[.int .i64 b0, .int .i64 b1, .int .u32 b2, .int .u32 b3, .int .u32 b4] 28)) 56 #[.int .i64 b0, .int .i64 b1, .int .u32 b2, .int .u32 b3, .int .u32 b4, .int .i64 (a5 + 1), .int .i64 k, .int .u32 f, .int .u32 t, .int .u32 s, .int .u32 g, .int .i64 r, .int .i64 c, .bool o, .slice A n cp])
      rw [sz_alloc] at hk1
      by_cases ho : 3 < a5 + 1
      · have ho1 : decide (3 < a5 + 1) = true := by simpa using ho
        go_wp2_with fail
        generalize ((w2.alloc (.cells #[.int .i64 b0, .int .i64 b1, .int .u32 b2, .int .u32 b3, .int .u32 b4] 28)).alloc (.cells #[.int .i64 b0, .int .i64 b1, .int .u32 b2, .int .u32 b3, .int .u32 b4, .int .i64 (a5 + 1), .int .i64 k, .int .u32 f, .int .u32 t, .int .u32 s, .int .u32 g, .int .i64 r, .int .i64 c, .bool o, .slice A n cp] 56)) = W3 at *
        have hWD : Below w2.heap.size w2 W3.drew := hWB.drew
        have hnD : W3.cell? ⟨N, 0, none⟩ = some (.map (some b)) := by simpa using (HCM.out.chg HRR.out hC.out hB.out HNW.out.1 hWB).2.cell 0
        have q0 : W3.cell? ⟨w2.heap.size, 0, none⟩ = some (.int .i64 b0) := hk0.cell 0
        have q1 : W3.cell? ⟨w2.heap.size, 1, none⟩ = some (.int .i64 b1) := hk0.cell 1
        have q2 : W3.cell? ⟨w2.heap.size, 2, none⟩ = some (.int .u32 b2) := hk0.cell 2
        have q3 : W3.cell? ⟨w2.heap.size, 3, none⟩ = some (.int .u32 b3) := hk0.cell 3
        have q4 : W3.cell? ⟨w2.heap.size, 4, none⟩ = some (.int .u32 b4) := hk0.cell 4
        have x0 : W3.cell? ⟨w2.heap.size + 1, 0, none⟩ = some (.int .i64 b0) := hk1.cell 0
        have x1 : W3.cell? ⟨w2.heap.size + 1, 1, none⟩ = some (.int .i64 b1) := hk1.cell 1
        have x2 : W3.cell? ⟨w2.heap.size + 1, 2, none⟩ = some (.int .u32 b2) := hk1.cell 2
        have x3 : W3.cell? ⟨w2.heap.size + 1, 3, none⟩ = some (.int .u32 b3) := hk1.cell 3
        have x4 : W3.cell? ⟨w2.heap.size + 1, 4, none⟩ = some (.int .u32 b4) := hk1.cell 4
        have x5 : W3.cell? ⟨w2.heap.size + 1, 5, none⟩ = some (.int .i64 (a5 + 1)) := hk1.cell 5
        have x6 : W3.cell? ⟨w2.heap.size + 1, 6, none⟩ = some (.int .i64 k) := hk1.cell 6
        have x7 : W3.cell? ⟨w2.heap.size + 1, 7, none⟩ = some (.int .u32 f) := hk1.cell 7
        have x8 : W3.cell? ⟨w2.heap.size + 1, 8, none⟩ = some (.int .u32 t) := hk1.cell 8
        have x9 : W3.cell? ⟨w2.heap.size + 1, 9, none⟩ = some (.int .u32 s) := hk1.cell 9
        have x10 : W3.cell? ⟨w2.heap.size + 1, 10, none⟩ = some (.int .u32 g) := hk1.cell 10
        have x11 : W3.cell? ⟨w2.heap.size + 1, 11, none⟩ = some (.int .i64 r) := hk1.cell 11
        have x12 : W3.cell? ⟨w2.heap.size + 1, 12, none⟩ = some (.int .i64 c) := hk1.cell 12
        have x13 : W3.cell? ⟨w2.heap.size + 1, 13, none⟩ = some (.bool o) := hk1.cell 13
        have x14 : W3.cell? ⟨w2.heap.size + 1, 14, none⟩ = some (.slice A n cp) := hk1.cell 14
        have hrun := ((HCM.out.it.next hWD).am.strike (x := (b0, b1, b2, b3, b4)) ((HCM.out.it.am.each _ HCM.out.mem).1) 0).1
        have HE := Lib.hid (tick_drop HCM.out HI.out hT.out HAp.out HT.out HRR.out hC.out hB.out HNW.out.1 HNW.out.2 hWD ho)
        unfold tv at hrun
        dsimp only at HE
        clear hk0 hk1 hWB hWD en ha5 ho ho1
        go_region
        all_goals
          generalize dlW W3.drew b T' ck (b0, b1, b2, b3, b4) = W9 at *
          go_wp2_with fail
          go_roundw
          case rel => exact Lib.hid HE.out.1
          case measure => exact HE.out.2
      · have ho1 : decide (3 < a5 + 1) = false := by simpa using ho
        go_wp2_with fail
        generalize ((w2.alloc (.cells #[.int .i64 b0, .int .i64 b1, .int .u32 b2, .int .u32 b3, .int .u32 b4] 28)).alloc (.cells #[.int .i64 b0, .int .i64 b1, .int .u32 b2, .int .u32 b3, .int .u32 b4, .int .i64 (a5 + 1), .int .i64 k, .int .u32 f, .int .u32 t, .int .u32 s, .int .u32 g, .int .i64 r, .int .i64 c, .bool o, .slice A n cp] 56)) = W3 at *
        have hWD : Below w2.heap.size w2 W3.drew := hWB.drew
        have hnD : W3.cell? ⟨N, 0, none⟩ = some (.map (some b)) := by simpa using (HCM.out.chg HRR.out hC.out hB.out HNW.out.1 hWB).2.cell 0
        have q0 : W3.cell? ⟨w2.heap.size, 0, none⟩ = some (.int .i64 b0) := hk0.cell 0
        have q1 : W3.cell? ⟨w2.heap.size, 1, none⟩ = some (.int .i64 b1) := hk0.cell 1
        have q2 : W3.cell? ⟨w2.heap.size, 2, none⟩ = some (.int .u32 b2) := hk0.cell 2
        have q3 : W3.cell? ⟨w2.heap.size, 3, none⟩ = some (.int .u32 b3) := hk0.cell 3
        have q4 : W3.cell? ⟨w2.heap.size, 4, none⟩ = some (.int .u32 b4) := hk0.cell 4
        have x0 : W3.cell? ⟨w2.heap.size + 1, 0, none⟩ = some (.int .i64 b0) := hk1.cell 0
        have x1 : W3.cell? ⟨w2.heap.size + 1, 1, none⟩ = some (.int .i64 b1) := hk1.cell 1
        have x2 : W3.cell? ⟨w2.heap.size + 1, 2, none⟩ = some (.int .u32 b2) := hk1.cell 2
        have x3 : W3.cell? ⟨w2.heap.size + 1, 3, none⟩ = some (.int .u32 b3) := hk1.cell 3
        have x4 : W3.cell? ⟨w2.heap.size + 1, 4, none⟩ = some (.int .u32 b4) := hk1.cell 4
        have x5 : W3.cell? ⟨w2.heap.size + 1, 5, none⟩ = some (.int .i64 (a5 + 1)) := hk1.cell 5
        have x6 : W3.cell? ⟨w2.heap.size + 1, 6, none⟩ = some (.int .i64 k) := hk1.cell 6
        have x7 : W3.cell? ⟨w2.heap.size + 1, 7, none⟩ = some (.int .u32 f) := hk1.cell 7
        have x8 : W3.cell? ⟨w2.heap.size + 1, 8, none⟩ = some (.int .u32 t) := hk1.cell 8
        have x9 : W3.cell? ⟨w2.heap.size + 1, 9, none⟩ = some (.int .u32 s) := hk1.cell 9
        have x10 : W3.cell? ⟨w2.heap.size + 1, 10, none⟩ = some (.int .u32 g) := hk1.cell 10
        have x11 : W3.cell? ⟨w2.heap.size + 1, 11, none⟩ = some (.int .i64 r) := hk1.cell 11
        have x12 : W3.cell? ⟨w2.heap.size + 1, 12, none⟩ = some (.int .i64 c) := hk1.cell 12
        have x13 : W3.cell? ⟨w2.heap.size + 1, 13, none⟩ = some (.bool o) := hk1.cell 13
        have x14 : W3.cell? ⟨w2.heap.size + 1, 14, none⟩ = some (.slice A n cp) := hk1.cell 14
        have HK := tick_keep HCM.out HI.out hT.out HAp.out HT.out HRR.out hC.out hB.out HNW.out.1 HNW.out.2 hWD (show ¬ 3 < a5 + 1 by omega)
        have hrun := ((HCM.out.it.next hWD).am.store HK.1).1
        have HE := Lib.hid HK.2
        unfold tv ev encE at hrun
        dsimp only at HE hrun
        clear hk0 hk1 hWB hWD en ha5 ho ho1 HK
        go_region
        all_goals
          generalize stW W3.drew b T' ck ⟨⟨(b0, b1, b2, b3, b4), a5 + 1, ⟨k, f, t, s, g, r, c, o, l⟩⟩, A, n, cp⟩ = W9 at *
          go_wp2_with fail
          go_roundw
          case rel => exact Lib.hid HE.out.1
          case measure => exact HE.out.2
set_option maxRecDepth 100000 in
theorem tick_none (w : World) (N : Nat) (hN : Blk w N 33 #[.map none]) :
    Calls Try.prog 13 #[.pointer (some ⟨N, 0, none⟩)] w fun e w' => e = .returned (.int .i64 0) ∧ Below w.heap.size w w' := by
  have hc : w.cell? ⟨N, 0, none⟩ = some (.map none) := by simpa using hN.cell 0
  have hrg := run_range_nilMap (P := Try.prog) w 31 28 56 Try.underlying31
  have hnx : ∀ ty, (Instr.next (.pointer (some ⟨w.heap.size, 0, none⟩)) false ty).run Try.prog (w.alloc (.mapIter none 0 #[] 0)) = _ := fun ty => run_next_nilMap _ ty 0 0 #[]
  have hq := len_nil w
  have hq' := len_nil (w.alloc (.mapIter none 0 #[] 0))
  have hlt := hN.lt
  go_enter Try.func13, Try.ntmps13
  go_wp2
  refine wp_loop_rounds 1 ?_
  rw [rounds_succ]
  go_wp2
  go_ret
  exact ⟨rfl, (Below.refl _ _).alloc (Nat.le_refl _) _⟩
theorem tick_any (w : World) (N : Nat) (mb : Option Nat) (T : Row) (h : TB w N mb T) (hlen : T.length ≤ 1000000) :
    Calls Try.prog 13 #[.pointer (some ⟨N, 0, none⟩)] w fun e w' => e = .returned (.int .i64 ((T.length : Int) - ((T.filterMap old1).length : Int))) ∧ TB w' N mb (T.filterMap old1) ∧ Chg w w' N mb := by
  rcases h.map with ⟨rfl, rfl⟩ | ⟨b, clock, rfl, hm⟩
  · refine (tick_none w N h.box).mono ?_
    rintro e w' ⟨rfl, hb⟩
    exact ⟨rfl, h.next hb, Chg.of_below hb _ _⟩
  · exact tick_some w N b clock T h.box hm hlen
end Go.Proofs.Ytnnppoamdllebaa

