/- Contract of wire.Valid: where it compares. -/
import Derived.Test.YtfcfnfofihpegaaDoorW4
namespace Go.Proofs.YtfcfnfofihpegaaDoor
open Go.RowKit Sm
section
variable (er : Int → Value) (m : Ms) (A : Option Addr) (n c : Nat) (w : World)
set_option maxHeartbeats 4000000 in
theorem valid_same (hE : EnvV er w) (hw : wfm m) (hA : AR w A n m.l) (h : kOk m.k = true) (hn : n ≤ 4) (hr : cOk m.r = true) (hc : cOk m.c = true) (hk : (m.k == 1) = false) (hg : gOk m.g = true) :
    Calls Tryd.prog 13 #[mv m A n c] w fun e w' => e = .returned (er (mcode m)) ∧ Below w.heap.size w w' := by
  rw [mcode_same h (by have := hA.len; omega) hr hc (.inr hg)]
  have hB : Below w.heap.size w (w.alloc (.cells #[.int .i64 m.k, .int .u32 m.f, .int .u32 m.t, .int .u32 m.s, .int .u32 m.g, .int .i64 m.r, .int .i64 m.c, .bool m.o, .slice A n c] 28)) := (Below.refl _ _).alloc (Nat.le_refl _) _
  have hblk := Blk.new w 28 #[.int .i64 m.k, .int .u32 m.f, .int .u32 m.t, .int .u32 m.s, .int .u32 m.g, .int .i64 m.r, .int .i64 m.c, .bool m.o, .slice A n c]
  have HE := Lib.hid (hE.below hB)
  have HB := Lib.hid hB
  have H1 := Lib.hid (known_any m.k)
  have hO := fun W hW => own_any m A n c W hW h
  have hS := fun A' n' c' W (hW : AR W A n m.l) (h1 : AR W A' n' (owned m).l) (h2 : n' ≤ n) => wsame_any m (owned m) A A' n c n' c' W hW h1 (by omega) (by omega)
  rw [h] at H1
  have hd : decide ((4 : Int) < (n : Int)) = false := by simp; omega
  have HK := Lib.hid (hasKey_any m.k)
  have HG := Lib.hid (fun W => group_any m.g W hw.2.2.2.1)
  rw [hk] at HK
  rw [hg] at HG
  have HA := Lib.hid (hA.next hB)
  obtain ⟨H, hH⟩ : ∃ H, H = er := ⟨_, rfl⟩
  generalize owned m = m' at *
  have HO := Lib.hid hO
  have HS := Lib.hid hS
  unfold mv at *
  clear hE hB h hw hk hg hO hS hA
  go_enter Tryd.func13, Tryd.ntmps13
  go_wp2_with (go_at_call 30; refine (H1.out _).mono ?_; rintro e w1 ⟨rfl, rfl⟩)
  generalize hW0 : w.alloc (.cells #[.int .i64 m.k, .int .u32 m.f, .int .u32 m.t, .int .u32 m.s, .int .u32 m.g, .int .i64 m.r, .int .i64 m.c, .bool m.o, .slice A n c] 28) = W0 at *
  have c0 := fun W hW => keepc (w' := W) (w := W0) (hblk.cell 0) hW
  have c1 := fun W hW => keepc (w' := W) (w := W0) (hblk.cell 1) hW
  have c2 := fun W hW => keepc (w' := W) (w := W0) (hblk.cell 2) hW
  have c3 := fun W hW => keepc (w' := W) (w := W0) (hblk.cell 3) hW
  have c4 := fun W hW => keepc (w' := W) (w := W0) (hblk.cell 4) hW
  have c5 := fun W hW => keepc (w' := W) (w := W0) (hblk.cell 5) hW
  have c6 := fun W hW => keepc (w' := W) (w := W0) (hblk.cell 6) hW
  have c7 := fun W hW => keepc (w' := W) (w := W0) (hblk.cell 7) hW
  have c8 := fun W hW => keepc (w' := W) (w := W0) (hblk.cell 8) hW
  have HW0 := Lib.hid hW0
  clear hW0 hblk
  go_region_held3 (fun w' => Below W0.heap.size W0 w')
    (first | with_reducible assumption | exact (Below.refl _ _).drew)
    (first
    | (go_at_call 31; refine (wfits_any _ _).mono ?_; rintro e w1 ⟨rfl, rfl⟩)
    | (go_at_call 32; refine (HK.out _).mono ?_; rintro e w1 ⟨rfl, rfl⟩)
    | (go_at_call 33; refine (HG.out _).mono ?_; rintro e w1 ⟨rfl, rfl⟩)
    | (go_at_call 34; refine (HO.out _ (HA.out.next (by with_reducible assumption))).mono ?_; rintro e w1 ⟨A', n', c', rfl, hA', hn', hb⟩; have hb1 := below_next (by with_reducible assumption) hb)
    | (go_at_call 14; refine (HS.out _ _ _ _ (HA.out.next (by with_reducible assumption)) (by first | with_reducible assumption | exact hA'.next (by with_reducible assumption)) (by with_reducible assumption)).mono ?_; rintro e w2 ⟨rfl, hb⟩; have hb2 := below_next (by with_reducible assumption) hb))
  have hB2 := below_next HB.out hb2
  have hE3 := (HE.out.below hb2).2.2.2.2
  have hE0 := HE.out.1
  have HB2 := Lib.hid hB2
  have HE3 := Lib.hid hE3
  have HE0 := Lib.hid hE0
  clear hB2 hE3 hE0 hb2 hA' hn' c0 c1 c2 c3 c4 c5 c6 c7 c8
  cases hs : sameB m m'
  · have hE3 := HE3.out
    go_wp2
    all_goals
      go_ret
      exact ⟨by simp, HB2.out⟩
  · go_wp2
    go_ret
    exact ⟨by rw [HE0.out]; simp, HB2.out⟩
set_option maxHeartbeats 4000000 in
theorem valid_hello (hE : EnvV er w) (hA : AR w A n m.l) (h : kOk m.k = true) (hn : n ≤ 4) (hr : cOk m.r = true) (hc : cOk m.c = true) (hk : (m.k == 1) = true) :
    Calls Tryd.prog 13 #[mv m A n c] w fun e w' => e = .returned (er (mcode m)) ∧ Below w.heap.size w w' := by
  rw [mcode_same h (by have := hA.len; omega) hr hc (.inl hk)]
  have hB : Below w.heap.size w (w.alloc (.cells #[.int .i64 m.k, .int .u32 m.f, .int .u32 m.t, .int .u32 m.s, .int .u32 m.g, .int .i64 m.r, .int .i64 m.c, .bool m.o, .slice A n c] 28)) := (Below.refl _ _).alloc (Nat.le_refl _) _
  have hblk := Blk.new w 28 #[.int .i64 m.k, .int .u32 m.f, .int .u32 m.t, .int .u32 m.s, .int .u32 m.g, .int .i64 m.r, .int .i64 m.c, .bool m.o, .slice A n c]
  have HE := Lib.hid (hE.below hB)
  have HB := Lib.hid hB
  have H1 := Lib.hid (known_any m.k)
  have hO := fun W hW => own_any m A n c W hW h
  have hS := fun A' n' c' W (hW : AR W A n m.l) (h1 : AR W A' n' (owned m).l) (h2 : n' ≤ n) => wsame_any m (owned m) A A' n c n' c' W hW h1 (by omega) (by omega)
  rw [h] at H1
  have hd : decide ((4 : Int) < (n : Int)) = false := by simp; omega
  have HK := Lib.hid (hasKey_any m.k)
  rw [hk] at HK
  have HA := Lib.hid (hA.next hB)
  obtain ⟨H, hH⟩ : ∃ H, H = er := ⟨_, rfl⟩
  generalize owned m = m' at *
  have HO := Lib.hid hO
  have HS := Lib.hid hS
  unfold mv at *
  clear hE hB h hk hO hS hA
  go_enter Tryd.func13, Tryd.ntmps13
  go_wp2_with (go_at_call 30; refine (H1.out _).mono ?_; rintro e w1 ⟨rfl, rfl⟩)
  generalize hW0 : w.alloc (.cells #[.int .i64 m.k, .int .u32 m.f, .int .u32 m.t, .int .u32 m.s, .int .u32 m.g, .int .i64 m.r, .int .i64 m.c, .bool m.o, .slice A n c] 28) = W0 at *
  have c0 := fun W hW => keepc (w' := W) (w := W0) (hblk.cell 0) hW
  have c1 := fun W hW => keepc (w' := W) (w := W0) (hblk.cell 1) hW
  have c2 := fun W hW => keepc (w' := W) (w := W0) (hblk.cell 2) hW
  have c3 := fun W hW => keepc (w' := W) (w := W0) (hblk.cell 3) hW
  have c4 := fun W hW => keepc (w' := W) (w := W0) (hblk.cell 4) hW
  have c5 := fun W hW => keepc (w' := W) (w := W0) (hblk.cell 5) hW
  have c6 := fun W hW => keepc (w' := W) (w := W0) (hblk.cell 6) hW
  have c7 := fun W hW => keepc (w' := W) (w := W0) (hblk.cell 7) hW
  have c8 := fun W hW => keepc (w' := W) (w := W0) (hblk.cell 8) hW
  have HW0 := Lib.hid hW0
  clear hW0 hblk
  have hS0 : Below W0.heap.size W0 W0.drew := (Below.refl _ _).drew
  refine wp_region_held_drew (S := fun w' => Below W0.heap.size W0 w') (by kernel_rfl) hS0 (fun hHeld => ?_)
  have hH : Below W0.heap.size W0 W0.drew := hHeld
  clear hHeld hS0
  refine wpAnyH_take (i := 0) (v := ?v0) rfl (by kernel_rfl) (by kernel_rfl) (by kernel_rfl) (fun _ _ _ h => h) (Or.inl ⟨by rfl, ?y0⟩) hH ?r0
  case y0 => (intro w' hSw; (try dsimp only at hSw); go_simp; try with_reducible rfl)
  try go_simp
  refine wpAnyH_take (i := 1) (v := ?v1) rfl (by kernel_rfl) (by kernel_rfl) (by kernel_rfl) (fun _ _ _ h => h) (Or.inl ⟨by rfl, ?y1⟩) hH ?r1
  case y1 => (intro w' hSw; (try dsimp only at hSw); go_simp; try with_reducible rfl)
  try go_simp
  refine wpAnyH_ready (rs := [2]) (by kernel_rfl) (by simp) ?_
  refine AllReadyH.cons rfl (fun K hK => ?_) AllReadyH.nil
  go_simp
  refine (wfits_any _ _).mono ?_; rintro e wa ⟨rfl, rfl⟩
  refine hK.out _ _ hH (fun hHeld => ?_)
  clear hK K hHeld
  try go_simp
  refine wpAnyH_take (i := 3) (v := ?v3) rfl (by kernel_rfl) (by kernel_rfl) (by kernel_rfl) (fun _ _ _ h => h) (Or.inl ⟨by rfl, ?y3⟩) hH ?r3
  case y3 => (intro w' hSw; (try dsimp only at hSw); go_simp; try with_reducible rfl)
  try go_simp
  refine wpAnyH_take (i := 4) (v := ?v4) rfl (by kernel_rfl) (by kernel_rfl) (by kernel_rfl) (fun _ _ _ h => h) (Or.inl ⟨by rfl, ?y4⟩) hH ?r4
  case y4 => (intro w' hSw; (try dsimp only at hSw); go_simp; try with_reducible rfl)
  try go_simp
  refine wpAnyH_take (i := 5) (v := ?v5) rfl (by kernel_rfl) (by kernel_rfl) (by kernel_rfl) (fun _ _ _ h => h) (Or.inl ⟨by rfl, ?y5⟩) hH ?r5
  case y5 => (intro w' hSw; (try dsimp only at hSw); go_simp; try with_reducible rfl)
  try go_simp
  refine wpAnyH_take (i := 6) (v := ?v6) rfl (by kernel_rfl) (by kernel_rfl) (by kernel_rfl) (fun _ _ _ h => h) (Or.inl ⟨by rfl, ?y6⟩) hH ?r6
  case y6 => (intro w' hSw; (try dsimp only at hSw); go_simp; try with_reducible rfl)
  try go_simp
  refine wpAnyH_ready (rs := [7]) (by kernel_rfl) (by simp) ?_
  refine AllReadyH.cons rfl (fun K hK => ?_) AllReadyH.nil
  go_simp
  refine (wfits_any _ _).mono ?_; rintro e wa ⟨rfl, rfl⟩
  refine hK.out _ _ hH (fun hHeld => ?_)
  clear hK K hHeld
  try go_simp
  refine wpAnyH_take (i := 8) (v := ?v8) rfl (by kernel_rfl) (by kernel_rfl) (by kernel_rfl) (fun _ _ _ h => h) (Or.inl ⟨by rfl, ?y8⟩) hH ?r8
  case y8 => (intro w' hSw; (try dsimp only at hSw); go_simp; try with_reducible rfl)
  try go_simp
  refine wpAnyH_take (i := 9) (v := ?v9) rfl (by kernel_rfl) (by kernel_rfl) (by kernel_rfl) (fun _ _ _ h => h) (Or.inl ⟨by rfl, ?y9⟩) hH ?r9
  case y9 => (intro w' hSw; (try dsimp only at hSw); go_simp; try with_reducible rfl)
  try go_simp
  refine wpAnyH_take (i := 10) (v := ?v10) rfl (by kernel_rfl) (by kernel_rfl) (by kernel_rfl) (fun _ _ _ h => h) (Or.inl ⟨by rfl, ?y10⟩) hH ?r10
  case y10 => (intro w' hSw; (try dsimp only at hSw); go_simp; try with_reducible rfl)
  try go_simp
  refine wpAnyH_take (i := 11) (v := ?v11) rfl (by kernel_rfl) (by kernel_rfl) (by kernel_rfl) (fun _ _ _ h => h) (Or.inl ⟨by rfl, ?y11⟩) hH ?r11
  case y11 => (intro w' hSw; (try dsimp only at hSw); go_simp; try with_reducible rfl)
  try go_simp
  refine wpAnyH_take (i := 12) (v := ?v12) rfl (by kernel_rfl) (by kernel_rfl) (by kernel_rfl) (fun _ _ _ h => h) (Or.inl ⟨by rfl, ?y12⟩) hH ?r12
  case y12 => (intro w' hSw; (try dsimp only at hSw); go_simp; try with_reducible rfl)
  try go_simp
  refine wpAnyH_ready (rs := [13]) (by kernel_rfl) (by simp) ?_
  refine AllReadyH.cons rfl (fun K hK => ?_) AllReadyH.nil
  go_simp
  refine (HK.out _).mono ?_; rintro e wa ⟨rfl, rfl⟩
  refine hK.out _ _ hH (fun hHeld => ?_)
  clear hK K hHeld
  try go_simp
  refine wpAnyH_take (i := 14) (v := ?v14) rfl (by kernel_rfl) (by kernel_rfl) (by kernel_rfl) (fun _ _ _ h => h) (Or.inl ⟨by rfl, ?y14⟩) hH ?r14
  case y14 => (intro w' hSw; (try dsimp only at hSw); go_simp; try with_reducible rfl)
  try go_simp
  refine wpAnyH_take (i := 15) (v := undef) rfl (by kernel_rfl) (by kernel_rfl) (by kernel_rfl) (fun _ _ _ h => h) (Or.inr ⟨by rfl, rfl⟩) hH ?_
  try go_simp
  refine wpAnyH_take (i := 16) (v := undef) rfl (by kernel_rfl) (by kernel_rfl) (by kernel_rfl) (fun _ _ _ h => h) (Or.inr ⟨by rfl, rfl⟩) hH ?_
  try go_simp
  refine wpAnyH_take (i := 17) (v := undef) rfl (by kernel_rfl) (by kernel_rfl) (by kernel_rfl) (fun _ _ _ h => h) (Or.inr ⟨by rfl, rfl⟩) hH ?_
  try go_simp
  refine wpAnyH_take (i := 18) (v := undef) rfl (by kernel_rfl) (by kernel_rfl) (by kernel_rfl) (fun _ _ _ h => h) (Or.inr ⟨by rfl, rfl⟩) hH ?_
  try go_simp
  refine wpAnyH_take (i := 19) (v := undef) rfl (by kernel_rfl) (by kernel_rfl) (by kernel_rfl) (fun _ _ _ h => h) (Or.inr ⟨by rfl, rfl⟩) hH ?_
  try go_simp
  refine wpAnyH_take (i := 20) (v := ?v20) rfl (by kernel_rfl) (by kernel_rfl) (by kernel_rfl) (fun _ _ _ h => h) (Or.inl ⟨by rfl, ?y20⟩) hH ?r20
  case y20 => (intro w' hSw; (try dsimp only at hSw); go_simp; try with_reducible rfl)
  try go_simp
  refine wpAnyH_take (i := 21) (v := ?v21) rfl (by kernel_rfl) (by kernel_rfl) (by kernel_rfl) (fun _ _ _ h => h) (Or.inl ⟨by rfl, ?y21⟩) hH ?r21
  case y21 => (intro w' hSw; (try dsimp only at hSw); go_simp; try with_reducible rfl)
  try go_simp
  refine wpAnyH_take (i := 22) (v := ?v22) rfl (by kernel_rfl) (by kernel_rfl) (by kernel_rfl) (fun _ _ _ h => h) (Or.inl ⟨by rfl, ?y22⟩) hH ?r22
  case y22 => (intro w' hSw; (try dsimp only at hSw); go_simp; try with_reducible rfl)
  try go_simp
  refine wpAnyH_take (i := 23) (v := ?v23) rfl (by kernel_rfl) (by kernel_rfl) (by kernel_rfl) (fun _ _ _ h => h) (Or.inl ⟨by rfl, ?y23⟩) hH ?r23
  case y23 => (intro w' hSw; (try dsimp only at hSw); go_simp; try with_reducible rfl)
  try go_simp
  refine wpAnyH_take (i := 24) (v := ?v24) rfl (by kernel_rfl) (by kernel_rfl) (by kernel_rfl) (fun _ _ _ h => h) (Or.inl ⟨by rfl, ?y24⟩) hH ?r24
  case y24 => (intro w' hSw; (try dsimp only at hSw); go_simp; try with_reducible rfl)
  try go_simp
  refine wpAnyH_ready (rs := [25]) (by kernel_rfl) (by simp) ?_
  refine AllReadyH.cons rfl (fun K hK => ?_) AllReadyH.nil
  go_simp
  refine (HO.out _ (HA.out.next hH)).mono ?_; rintro e wa ⟨A', n', c', rfl, hA', hn', hb⟩
  have hb' := below_next (w := W0) hH hb
  refine hK.out _ _ hb' (fun hHeld => ?_)
  clear hK K hH hb hHeld
  have hH := hb'
  clear hb'
  try go_simp
  refine wpAnyH_ready (rs := [26]) (by kernel_rfl) (by simp) ?_
  refine AllReadyH.cons rfl (fun K hK => ?_) AllReadyH.nil
  go_simp
  refine (HS.out _ _ _ _ (HA.out.next hH) hA' hn').mono ?_; rintro e w2 ⟨rfl, hb⟩
  have hb' := below_next (w := W0) hH hb
  refine hK.out _ _ hb' (fun hHeld => ?_)
  clear hK K hH hb hHeld
  have hH := hb'
  clear hb'
  try go_simp
  refine wpAnyH_take (i := 27) (v := ?v27) rfl (by kernel_rfl) (by kernel_rfl) (by kernel_rfl) (fun _ _ _ h => h) (Or.inl ⟨by rfl, ?y27⟩) hH ?r27
  case y27 => (intro w' hSw; (try dsimp only at hSw); go_simp; try with_reducible rfl)
  try go_simp
  refine wpAnyH_take (i := 28) (v := ?v28) rfl (by kernel_rfl) (by kernel_rfl) (by kernel_rfl) (fun _ _ _ h => h) (Or.inl ⟨by rfl, ?y28⟩) hH ?r28
  case y28 => (intro w' hSw; (try dsimp only at hSw); go_simp; try with_reducible rfl)
  try go_simp
  refine wpAnyH_take (i := 29) (v := ?v29) rfl (by kernel_rfl) (by kernel_rfl) (by kernel_rfl) (fun _ _ _ h => h) (Or.inl ⟨by rfl, ?y29⟩) hH ?r29
  case y29 => (intro w' hSw; (try dsimp only at hSw); go_simp; try with_reducible rfl)
  try go_simp
  refine wpAnyH_done (by kernel_rfl) ?_ _
  have hb2 := hH
  clear hH
  have hB2 := below_next HB.out hb2
  have hE3 := (HE.out.below hb2).2.2.2.2
  have hE0 := HE.out.1
  have HB2 := Lib.hid hB2
  have HE3 := Lib.hid hE3
  have HE0 := Lib.hid hE0
  clear hB2 hE3 hE0 hb2 hA' hn' c0 c1 c2 c3 c4 c5 c6 c7 c8
  cases hs : sameB m m'
  · have hE3 := HE3.out
    go_wp2
    all_goals
      go_ret
      exact ⟨by simp, HB2.out⟩
  · go_wp2
    go_ret
    exact ⟨by rw [HE0.out]; simp, HB2.out⟩
theorem valid_any (hE : EnvV er w) (hw : wfm m) (hA : AR w A n m.l) :
    Calls Tryd.prog 13 #[mv m A n c] w fun e w' => e = .returned (er (mcode m)) ∧ Below w.heap.size w w' := by
  have hl := hA.len
  cases h : kOk m.k
  · exact valid_kind er m A n c w hE h
  by_cases hn : 4 < n
  · exact valid_many er m A n c w hE h hl hn
  cases hb : (cOk m.r && (cOk m.c && ((m.k == 1) || gOk m.g)))
  · exact valid_bad er m A n c w hE hw h hl (by omega) hb
  simp only [Bool.and_eq_true, Bool.or_eq_true] at hb
  cases hk : (m.k == 1)
  · exact valid_same er m A n c w hE hw hA h (by omega) hb.1 hb.2.1 hk (by rcases hb.2.2 with h | h; (rw [hk] at h; cases h); exact h)
  · exact valid_hello er m A n c w hE hA h (by omega) hb.1 hb.2.1 hk
end
end Go.Proofs.YtfcfnfofihpegaaDoor
