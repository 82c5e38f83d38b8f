/- The statement on a header's fields, walked. -/
import Derived.Test.YtgjpclmkjoghiaaDoorIpL
import Derived.Test.YtgjpclmkjoghiaaDoorIpR3
namespace Go.Proofs.YtgjpclmkjoghiaaDoor
open Go.RowKit Sm
section
variable (er : Int → Value) (l i t p f o l' i' t' p' f' o' : Int) (w : World)
set_option maxHeartbeats 2000000 in
theorem fields_no (hE : EnvE er w) (h : hfit l i t p = false) (hf : isA f) (ho : isA o) (hf' : isA f') (ho' : isA o') :
    Calls Tryd.prog 5 #[hv l i t p f o, hv l' i' t' p' f' o'] w fun e w' => e = .returned (.bool true) ∧ Below w.heap.size w w' := by
  obtain ⟨a, ha⟩ := hE.2.1 103 (by omega)
  have E1 := Lib.hid (show er (bcode l i t p) = ev a by unfold bcode; rw [if_neg (by rw [h]; simp), ha])
  obtain ⟨E', hE'⟩ : ∃ E', er (bcode l' i' t' p') = E' := ⟨_, rfl⟩
  have E2 := Lib.hid hE'
  clear hE'
  have X1 := Lib.hid (show bxs l i t p f o = [] by unfold bxs; rw [if_neg (by rw [h]; simp)])
  have HE := Lib.hid hE
  have hB0 : Below w.heap.size w ((w.alloc (.cells #[.int .i64 l, .int .i64 i, .int .i64 t, .int .i64 p, .int .u32 f, .int .u32 o] 25)).alloc (.cells #[.int .i64 l', .int .i64 i', .int .i64 t', .int .i64 p', .int .u32 f', .int .u32 o'] 25)) := ((Below.refl _ _).alloc (Nat.le_refl _) _).alloc (by simp) _
  have hk : Blk (w.alloc (.cells #[.int .i64 l, .int .i64 i, .int .i64 t, .int .i64 p, .int .u32 f, .int .u32 o] 25)) w.heap.size 25 #[.int .i64 l, .int .i64 i, .int .i64 t, .int .i64 p, .int .u32 f, .int .u32 o] := Blk.new _ _ _
  have hk := hk.alloc (.cells #[.int .i64 l', .int .i64 i', .int .i64 t', .int .i64 p', .int .u32 f', .int .u32 o'] 25)
  have hk2 : Blk ((w.alloc (.cells #[.int .i64 l, .int .i64 i, .int .i64 t, .int .i64 p, .int .u32 f, .int .u32 o] 25)).alloc (.cells #[.int .i64 l', .int .i64 i', .int .i64 t', .int .i64 p', .int .u32 f', .int .u32 o'] 25)) (w.heap.size + 1) 25 #[.int .i64 l', .int .i64 i', .int .i64 t', .int .i64 p', .int .u32 f', .int .u32 o'] := by
    have := Blk.new (w.alloc (.cells #[.int .i64 l, .int .i64 i, .int .i64 t, .int .i64 p, .int .u32 f, .int .u32 o] 25)) 25 #[.int .i64 l', .int .i64 i', .int .i64 t', .int .i64 p', .int .u32 f', .int .u32 o']
    simpa using this
  have HK := Lib.hid hk
  have HK2 := Lib.hid hk2
  unfold ev hv at *
  clear hE ha h hk hk2
  go_enter Tryd.func5, Tryd.ntmps5
  go_wp2_with (first
    | (go_at_call 7; refine (first_any er _ (HE.out.below hB0)).mono ?_; rintro e w1 ⟨rfl, hb⟩
       have hB1 := below_next hB0 hb
       have hkk := HK.out.next hb
       have hkk2 := HK2.out.next hb
       have a0 : ∀ W : World, Below w1.heap.size w1 W → W.cell? ⟨w.heap.size, 0, none⟩ = some (.int .i64 l) := fun W hW => keepc (hkk.cell 0) hW
       have a1 : ∀ W : World, Below w1.heap.size w1 W → W.cell? ⟨w.heap.size, 1, none⟩ = some (.int .i64 i) := fun W hW => keepc (hkk.cell 1) hW
       have a2 : ∀ W : World, Below w1.heap.size w1 W → W.cell? ⟨w.heap.size, 2, none⟩ = some (.int .i64 t) := fun W hW => keepc (hkk.cell 2) hW
       have a3 : ∀ W : World, Below w1.heap.size w1 W → W.cell? ⟨w.heap.size, 3, none⟩ = some (.int .i64 p) := fun W hW => keepc (hkk.cell 3) hW
       have a4 : ∀ W : World, Below w1.heap.size w1 W → W.cell? ⟨w.heap.size, 4, none⟩ = some (.int .u32 f) := fun W hW => keepc (hkk.cell 4) hW
       have a5 : ∀ W : World, Below w1.heap.size w1 W → W.cell? ⟨w.heap.size, 5, none⟩ = some (.int .u32 o) := fun W hW => keepc (hkk.cell 5) hW
       have b0 : ∀ W : World, Below w1.heap.size w1 W → W.cell? ⟨w.heap.size + 1, 0, none⟩ = some (.int .i64 l') := fun W hW => keepc (hkk2.cell 0) hW
       have b1 : ∀ W : World, Below w1.heap.size w1 W → W.cell? ⟨w.heap.size + 1, 1, none⟩ = some (.int .i64 i') := fun W hW => keepc (hkk2.cell 1) hW
       have b2 : ∀ W : World, Below w1.heap.size w1 W → W.cell? ⟨w.heap.size + 1, 2, none⟩ = some (.int .i64 t') := fun W hW => keepc (hkk2.cell 2) hW
       have b3 : ∀ W : World, Below w1.heap.size w1 W → W.cell? ⟨w.heap.size + 1, 3, none⟩ = some (.int .i64 p') := fun W hW => keepc (hkk2.cell 3) hW
       have b4 : ∀ W : World, Below w1.heap.size w1 W → W.cell? ⟨w.heap.size + 1, 4, none⟩ = some (.int .u32 f') := fun W hW => keepc (hkk2.cell 4) hW
       have b5 : ∀ W : World, Below w1.heap.size w1 W → W.cell? ⟨w.heap.size + 1, 5, none⟩ = some (.int .u32 o') := fun W hW => keepc (hkk2.cell 5) hW
       have hS1 : Below w1.heap.size w1 w1 := Below.refl _ _
       have HK1 := Lib.hid hkk
       have HK12 := Lib.hid hkk2
       clear hb hkk hkk2)
    | (go_at_call 8; refine (ibytes_gen er _ _ _ _ _ _ _ (HE.out.below (by with_reducible assumption)) (by with_reducible assumption) (by with_reducible assumption)).mono ?_; rintro e w2 ⟨A2, n2, c2, rfl, hc2, hbr2, hb⟩
       first
       | (rw [E1.out]; rw [X1.out] at hbr2; obtain rfl : n2 = 0 := hbr2.len.symm)
       | rw [E2.out]
       have hB2 : Below w.heap.size w w2 := below_next (by with_reducible assumption) hb
       have hS2 : Below w1.heap.size w1 w2 := by first | exact hb | exact below_next (by with_reducible assumption) hb))
  go_ret
  exact ⟨rfl, hB2⟩
set_option maxHeartbeats 8000000 in
theorem fields_yes (hE : EnvE er w) (h : hfit l i t p = true) (hf : isA f) (ho : isA o) (hf' : isA f') (ho' : isA o') :
    Calls Tryd.prog 5 #[hv l i t p f o, hv l' i' t' p' f' o'] w fun e w' => e = .returned (.bool true) ∧ Below w.heap.size w w' := by
  obtain ⟨a, ha⟩ := hE.2.1 103 (by omega)
  have E1 := Lib.hid (show er (bcode l i t p) = .nilIface by unfold bcode; rw [if_pos h, hE.1])
  obtain ⟨E', hE'⟩ : ∃ E', er (bcode l' i' t' p') = E' := ⟨_, rfl⟩
  have E2 := Lib.hid hE'
  have C2 : Hid ((E' = .nilIface ∧ hfit l' i' t' p' = true) ∨ E' = ev a) := by
    show _ ∨ _
    rw [← hE']
    unfold bcode
    by_cases h' : hfit l' i' t' p' = true
    · rw [if_pos h', hE.1]; exact .inl ⟨rfl, h'⟩
    · rw [if_neg h', ha]; exact .inr rfl
  clear hE'
  have X1 := Lib.hid (show bxs l i t p f o = hbs l i t p f o by unfold bxs; rw [if_pos h])
  obtain ⟨r0, r1, r2, r3, r4, r5, r6⟩ := rback h hf ho []
  rw [List.append_nil] at r0 r1 r2 r3 r4 r5 r6
  have r7 : (hbs l i t p f o).getD 0 0 = 69 := by
    obtain ⟨s, e⟩ := hbs_eq l i t p f o
    rw [e]; rfl
  have hXl := hbs_len l i t p f o
  have hXb := hbs_b h hf ho
  unfold rn at r1 r2
  have hfh := h
  generalize hXe : hbs l i t p f o = X at *
  subst r1 r2 r3 r4 r5 r6
  have B2 := hXb.at_ 2
  have B3 := hXb.at_ (2 + 1)
  have B4 := hXb.at_ 4
  have B5 := hXb.at_ (4 + 1)
  have B8 := hXb.at_ 8
  have B9 := hXb.at_ 9
  have HB : ∀ W A, BR W A 20 X → ∃ b o, A = some ⟨b, o, none⟩ ∧ W.cell? ⟨b, o, none⟩ = some (.int .u8 69) ∧ W.cell? ⟨b, o + 2, none⟩ = some (.int .u8 (X.getD 2 0)) ∧ W.cell? ⟨b, o + 3, none⟩ = some (.int .u8 (X.getD (2 + 1) 0)) ∧ W.cell? ⟨b, o + 4, none⟩ = some (.int .u8 (X.getD 4 0)) ∧ W.cell? ⟨b, o + 5, none⟩ = some (.int .u8 (X.getD (4 + 1) 0)) ∧ W.cell? ⟨b, o + 8, none⟩ = some (.int .u8 (X.getD 8 0)) ∧ W.cell? ⟨b, o + 9, none⟩ = some (.int .u8 (X.getD 9 0)) := fun W A hh => by
    obtain ⟨b, o, rfl, _, hc⟩ := hh.2.2 (by omega)
    have h0 := hc 0 (by omega)
    rw [r7, Nat.add_zero] at h0
    exact ⟨b, o, rfl, h0, hc 2 (by omega), hc 3 (by omega), hc 4 (by omega), hc 5 (by omega), hc 8 (by omega), hc 9 (by omega)⟩
  have HB := Lib.hid HB
  generalize hu2 : X.getD 2 0 = u2 at *
  generalize hu3 : X.getD (2 + 1) 0 = u3 at *
  generalize hu4 : X.getD 4 0 = u4 at *
  generalize hu5 : X.getD (4 + 1) 0 = u5 at *
  generalize hu8 : X.getD 8 0 = u8 at *
  generalize hu9 : X.getD 9 0 = u9 at *
  clear hu2 hu3 hu4 hu5 hu8 hu9 r7
  have w2 : IntKind.i64.wrap u2 = u2 := IntWalk.i64_in _ (by omega)
  have w3 : IntKind.i64.wrap u3 = u3 := IntWalk.i64_in _ (by omega)
  have w4 : IntKind.i64.wrap u4 = u4 := IntWalk.i64_in _ (by omega)
  have w5 : IntKind.i64.wrap u5 = u5 := IntWalk.i64_in _ (by omega)
  have w8 : IntKind.i64.wrap u8 = u8 := IntWalk.i64_in _ (by omega)
  have w9 : IntKind.i64.wrap u9 = u9 := IntWalk.i64_in _ (by omega)
  have v2 : IntKind.i64.wrap (u2 * 256) = u2 * 256 := IntWalk.i64_in _ (by omega)
  have v4 : IntKind.i64.wrap (u4 * 256) = u4 * 256 := IntWalk.i64_in _ (by omega)
  have v3 : IntKind.i64.wrap (u2 * 256 + u3) = u2 * 256 + u3 := IntWalk.i64_in _ (by omega)
  have v5 : IntKind.i64.wrap (u4 * 256 + u5) = u4 * 256 + u5 := IntWalk.i64_in _ (by omega)
  have HE := Lib.hid hE
  have hB0 : Below w.heap.size w ((w.alloc (.cells #[.int .i64 (u2 * 256 + u3), .int .i64 (u4 * 256 + u5), .int .i64 u8, .int .i64 u9, .int .u32 (ra X 12), .int .u32 (ra X 16)] 25)).alloc (.cells #[.int .i64 l', .int .i64 i', .int .i64 t', .int .i64 p', .int .u32 f', .int .u32 o'] 25)) := ((Below.refl _ _).alloc (Nat.le_refl _) _).alloc (by simp) _
  have hk : Blk (w.alloc (.cells #[.int .i64 (u2 * 256 + u3), .int .i64 (u4 * 256 + u5), .int .i64 u8, .int .i64 u9, .int .u32 (ra X 12), .int .u32 (ra X 16)] 25)) w.heap.size 25 #[.int .i64 (u2 * 256 + u3), .int .i64 (u4 * 256 + u5), .int .i64 u8, .int .i64 u9, .int .u32 (ra X 12), .int .u32 (ra X 16)] := Blk.new _ _ _
  have hk := hk.alloc (.cells #[.int .i64 l', .int .i64 i', .int .i64 t', .int .i64 p', .int .u32 f', .int .u32 o'] 25)
  have hk2 : Blk ((w.alloc (.cells #[.int .i64 (u2 * 256 + u3), .int .i64 (u4 * 256 + u5), .int .i64 u8, .int .i64 u9, .int .u32 (ra X 12), .int .u32 (ra X 16)] 25)).alloc (.cells #[.int .i64 l', .int .i64 i', .int .i64 t', .int .i64 p', .int .u32 f', .int .u32 o'] 25)) (w.heap.size + 1) 25 #[.int .i64 l', .int .i64 i', .int .i64 t', .int .i64 p', .int .u32 f', .int .u32 o'] := by
    have := Blk.new (w.alloc (.cells #[.int .i64 (u2 * 256 + u3), .int .i64 (u4 * 256 + u5), .int .i64 u8, .int .i64 u9, .int .u32 (ra X 12), .int .u32 (ra X 16)] 25)) 25 #[.int .i64 l', .int .i64 i', .int .i64 t', .int .i64 p', .int .u32 f', .int .u32 o']
    simpa using this
  have HK := Lib.hid hk
  have HK2 := Lib.hid hk2
  unfold ev hv at *
  have HXe := Lib.hid hXe
  have HFH := Lib.hid hfh
  clear hE ha h hfh hk hk2 r0 hXe
  go_enter Tryd.func5, Tryd.ntmps5
  go_wp2_with (first
    | (go_at_call 7; refine (first_any er _ (HE.out.below hB0)).mono ?_; rintro e w1 ⟨rfl, hb⟩
       have hB1 := below_next hB0 hb
       have hkk := HK.out.next hb
       have hkk2 := HK2.out.next hb
       have a0 : ∀ W : World, Below w1.heap.size w1 W → W.cell? ⟨w.heap.size, 0, none⟩ = some (.int .i64 (u2 * 256 + u3)) := fun W hW => keepc (hkk.cell 0) hW
       have a1 : ∀ W : World, Below w1.heap.size w1 W → W.cell? ⟨w.heap.size, 1, none⟩ = some (.int .i64 (u4 * 256 + u5)) := fun W hW => keepc (hkk.cell 1) hW
       have a2 : ∀ W : World, Below w1.heap.size w1 W → W.cell? ⟨w.heap.size, 2, none⟩ = some (.int .i64 u8) := fun W hW => keepc (hkk.cell 2) hW
       have a3 : ∀ W : World, Below w1.heap.size w1 W → W.cell? ⟨w.heap.size, 3, none⟩ = some (.int .i64 u9) := fun W hW => keepc (hkk.cell 3) hW
       have a4 : ∀ W : World, Below w1.heap.size w1 W → W.cell? ⟨w.heap.size, 4, none⟩ = some (.int .u32 (ra X 12)) := fun W hW => keepc (hkk.cell 4) hW
       have a5 : ∀ W : World, Below w1.heap.size w1 W → W.cell? ⟨w.heap.size, 5, none⟩ = some (.int .u32 (ra X 16)) := fun W hW => keepc (hkk.cell 5) hW
       have b0 : ∀ W : World, Below w1.heap.size w1 W → W.cell? ⟨w.heap.size + 1, 0, none⟩ = some (.int .i64 l') := fun W hW => keepc (hkk2.cell 0) hW
       have b1 : ∀ W : World, Below w1.heap.size w1 W → W.cell? ⟨w.heap.size + 1, 1, none⟩ = some (.int .i64 i') := fun W hW => keepc (hkk2.cell 1) hW
       have b2 : ∀ W : World, Below w1.heap.size w1 W → W.cell? ⟨w.heap.size + 1, 2, none⟩ = some (.int .i64 t') := fun W hW => keepc (hkk2.cell 2) hW
       have b3 : ∀ W : World, Below w1.heap.size w1 W → W.cell? ⟨w.heap.size + 1, 3, none⟩ = some (.int .i64 p') := fun W hW => keepc (hkk2.cell 3) hW
       have b4 : ∀ W : World, Below w1.heap.size w1 W → W.cell? ⟨w.heap.size + 1, 4, none⟩ = some (.int .u32 f') := fun W hW => keepc (hkk2.cell 4) hW
       have b5 : ∀ W : World, Below w1.heap.size w1 W → W.cell? ⟨w.heap.size + 1, 5, none⟩ = some (.int .u32 o') := fun W hW => keepc (hkk2.cell 5) hW
       have hS1 : Below w1.heap.size w1 w1 := Below.refl _ _
       have HK1 := Lib.hid hkk
       have HK12 := Lib.hid hkk2
       clear hb hkk hkk2)
    | (go_at_call 8; refine (ibytes_gen er _ _ _ _ _ _ _ (HE.out.below (by with_reducible assumption)) (by with_reducible assumption) (by with_reducible assumption)).mono ?_; rintro e w2 ⟨A2, n2, c2, rfl, hc2, hbr2, hb⟩
       first
       | (rw [E1.out]; rw [X1.out] at hbr2; obtain rfl : n2 = 20 := hbr2.len.symm.trans hXl; have hbr0 := hbr2; clear hbr2)
       | rw [E2.out]
       have hB2 : Below w.heap.size w w2 := below_next (by with_reducible assumption) hb
       have hS2 : Below w1.heap.size w1 w2 := by first | exact hb | exact below_next (by with_reducible assumption) hb))
  simp only [List.append_eq, List.cons_append, List.nil_append]
  have hbr4 := hbr0.next hb
  obtain ⟨q, z, rfl, d0, d2, d3, d4, d5, d8, d9⟩ := HB.out _ _ hbr4
  have A0 : ∀ W : World, Below w2.heap.size w2 W → W.cell? ⟨w.heap.size, 0, none⟩ = some (.int .i64 (u2 * 256 + u3)) := fun W hW => a0 W (below_next hS2 hW)
  have A1 : ∀ W : World, Below w2.heap.size w2 W → W.cell? ⟨w.heap.size, 1, none⟩ = some (.int .i64 (u4 * 256 + u5)) := fun W hW => a1 W (below_next hS2 hW)
  have A2 : ∀ W : World, Below w2.heap.size w2 W → W.cell? ⟨w.heap.size, 2, none⟩ = some (.int .i64 u8) := fun W hW => a2 W (below_next hS2 hW)
  have A3 : ∀ W : World, Below w2.heap.size w2 W → W.cell? ⟨w.heap.size, 3, none⟩ = some (.int .i64 u9) := fun W hW => a3 W (below_next hS2 hW)
  have A4 : ∀ W : World, Below w2.heap.size w2 W → W.cell? ⟨w.heap.size, 4, none⟩ = some (.int .u32 (ra X 12)) := fun W hW => a4 W (below_next hS2 hW)
  have A5 : ∀ W : World, Below w2.heap.size w2 W → W.cell? ⟨w.heap.size, 5, none⟩ = some (.int .u32 (ra X 16)) := fun W hW => a5 W (below_next hS2 hW)
  have G0 : ∀ W : World, Below w2.heap.size w2 W → W.cell? ⟨w.heap.size + 1, 0, none⟩ = some (.int .i64 l') := fun W hW => b0 W (below_next hS2 hW)
  have G1 : ∀ W : World, Below w2.heap.size w2 W → W.cell? ⟨w.heap.size + 1, 1, none⟩ = some (.int .i64 i') := fun W hW => b1 W (below_next hS2 hW)
  have G2 : ∀ W : World, Below w2.heap.size w2 W → W.cell? ⟨w.heap.size + 1, 2, none⟩ = some (.int .i64 t') := fun W hW => b2 W (below_next hS2 hW)
  have G3 : ∀ W : World, Below w2.heap.size w2 W → W.cell? ⟨w.heap.size + 1, 3, none⟩ = some (.int .i64 p') := fun W hW => b3 W (below_next hS2 hW)
  have G4 : ∀ W : World, Below w2.heap.size w2 W → W.cell? ⟨w.heap.size + 1, 4, none⟩ = some (.int .u32 f') := fun W hW => b4 W (below_next hS2 hW)
  have G5 : ∀ W : World, Below w2.heap.size w2 W → W.cell? ⟨w.heap.size + 1, 5, none⟩ = some (.int .u32 o') := fun W hW => b5 W (below_next hS2 hW)
  have x0 := fun (W : World) (hW : Below w2.heap.size w2 W) => keepc d0 hW
  have x2 := fun (W : World) (hW : Below w2.heap.size w2 W) => keepc d2 hW
  have x3 := fun (W : World) (hW : Below w2.heap.size w2 W) => keepc d3 hW
  have x4 := fun (W : World) (hW : Below w2.heap.size w2 W) => keepc d4 hW
  have x5 := fun (W : World) (hW : Below w2.heap.size w2 W) => keepc d5 hW
  have x8 := fun (W : World) (hW : Below w2.heap.size w2 W) => keepc d8 hW
  have x9 := fun (W : World) (hW : Below w2.heap.size w2 W) => keepc d9 hW
  have hb4 := below_next (w := w) (by with_reducible assumption) hb
  clear a0 a1 a2 a3 a4 a5 b0 b1 b2 b3 b4 b5 d0 d2 d3 d4 d5 d8 d9 hS2 hb
  go_region_held3 (fun w' => Below w2.heap.size w2 w')
    (first | with_reducible assumption | with_reducible exact (Below.refl _ _).drew)
    (first
    | (go_at_call 20; refine (at_at _ 20 _ _ _ _ _ (by first | exact K12 | exact K16) (hbr4.next (by with_reducible assumption)) (by omega) (by omega)).mono ?_; rintro e w5 ⟨rfl, hb5⟩; have hb6 := below_next (w := w2) (by with_reducible assumption) hb5))
  go_wp2_with fail
  have HB6 := Lib.hid hb6
  have HB4 := Lib.hid hb4
  rcases C2.out with ⟨rfl, hf2⟩ | rfl
  · have X2 : bxs l' i' t' p' f' o' = hbs l' i' t' p' f' o' := if_pos hf2
    rw [X2] at hbr2
    have hn2 := hbr2.len
    rw [hbs_len] at hn2
    subst hn2
    have hq : decide (X = hbs l' i' t' p' f' o') = decide (u2 * 256 + u3 = l' ∧ u4 * 256 + u5 = i' ∧ u8 = t' ∧ u9 = p' ∧ ra X 12 = f' ∧ ra X 16 = o') := by
      rw [Bool.eq_iff_iff, decide_eq_true_iff, decide_eq_true_iff]
      constructor
      · intro hh
        exact hbs_inj HFH.out hf ho hf2 hf' ho' (HXe.out.trans hh)
      · rintro ⟨h1, h2, h3, h4, h5, h6⟩
        rw [← HXe.out, h1, h2, h3, h4]
        congr 1
    generalize hbs l' i' t' p' f' o' = Y at *
    have HQ := Lib.hid hq
    clear hq x0 x2 x3 x4 x5 x8 x9
    go_region_held3 (fun w' => Below w2.heap.size w2 w')
      (first | with_reducible assumption | with_reducible exact Below.drew (by assumption))
      (first
      | (go_at_call 16; refine (same_any _ _ 20 20 _ _ X Y _ (hbr4.next (by with_reducible assumption)) (hbr2.next (by with_reducible assumption)) (by omega) (by omega)).mono ?_; rintro e w6 ⟨rfl, hb7⟩; have hb8 := below_next (w := w2) (by with_reducible assumption) hb7)
      | (go_at_call 10; refine (other_any _ _ _ _ _ _ _).mono ?_; rintro e w6 ⟨rfl, hb7⟩; have hb8 := below_next (w := w2) (by with_reducible assumption) hb7)
      | (go_at_call 17; refine (same_hdr _ _ _ _ _ _ _ _ _ _ _ _ _).mono ?_; rintro e w6 ⟨rfl, hb7⟩; have hb8 := below_next (w := w2) (by with_reducible assumption) hb7))
    go_wp2
    go_ret
    exact ⟨ret_bool (by rw [HQ.out]; simp), below_next HB4.out hb8⟩
  · go_quiet (fail)
    go_wp2
    go_ret
    exact ⟨rfl, below_drewN (below_next HB4.out HB6.out) _⟩
theorem law_fields (hE : EnvE er w) (hf : isA f) (ho : isA o) (hf' : isA f') (ho' : isA o') :
    Calls Tryd.prog 5 #[hv l i t p f o, hv l' i' t' p' f' o'] w fun e w' => e = .returned (.bool true) ∧ Below w.heap.size w w' := by
  by_cases h : hfit l i t p = true
  · exact fields_yes er l i t p f o l' i' t' p' f' o' w hE h hf ho hf' ho'
  · exact fields_no er l i t p f o l' i' t' p' f' o' w hE (by simpa using h) hf ho hf' ho'
end
end Go.Proofs.YtgjpclmkjoghiaaDoor
