/- Contract of wire.Bytes, over the seat's program: a Report; any message. Condition: three errors of the project lie in their variables. -/
import Derived.Test.YtfcfnfofihpegaaDoorW8
namespace Go.Proofs.YtfcfnfofihpegaaDoor
open Go.RowKit Sm
section
variable (er : Int → Value) (f t s g r c : Int) (o : Bool) (l : List Int) (A : Option Addr) (n c' : Nat) (w : World)
set_option maxHeartbeats 4000000 in
theorem wb_4 (hE : EnvV er w) (hw : wfm ⟨4, f, t, s, g, r, c, o, l⟩) (hA : AR w A n l) (hc : mcode ⟨4, f, t, s, g, r, c, o, l⟩ = 0) :
    Calls Tryd.prog 11 #[mv ⟨4, f, t, s, g, r, c, o, l⟩ A n c'] w (bytesOf (mbs ⟨4, f, t, s, g, r, c, o, l⟩) w) := by
  have hB : Below w.heap.size w (w.alloc (.cells #[.int .i64 4, .int .u32 f, .int .u32 t, .int .u32 s, .int .u32 g, .int .i64 r, .int .i64 c, .bool o, .slice A n c'] 28)) := (Below.refl _ _).alloc (Nat.le_refl _) _
  have hblk := Blk.new w 28 #[.int .i64 4, .int .u32 f, .int .u32 t, .int .u32 s, .int .u32 g, .int .i64 r, .int .i64 c, .bool o, .slice A n c']
  have HV := valid_any er ⟨4, f, t, s, g, r, c, o, l⟩ A n c' _ (hE.below hB) hw (hA.next hB)
  rw [hc, hE.1] at HV
  have HX := Lib.hid (mraw_b hw hc)
  obtain ⟨k1, k2, k3, k4, k5, k6, k7, k8⟩ := mcode_ok hc
  replace k4 : 0 ≤ r := k4
  replace k5 : r ≤ 65535 := k5
  replace k6 : 0 ≤ c := k6
  replace k7 : c ≤ 65535 := k7
  replace k3 : l.length ≤ 4 := k3
  have Hf := Lib.hid hw.1
  have Hg := Lib.hid hw.2.2.2.1
  have hln := hA.len
  have hn4 : n ≤ 4 := by omega
  have HA := Lib.hid (hA.next hB)
  have HS : Hid (Safe w.heap.size w A n) := Lib.hid (fun hn b o' e => by obtain ⟨b', o'', e', hlt, _⟩ := hA.2.2 hn; rw [e] at e'; cases e'; exact .inl hlt)
  have HLN := Lib.hid hln
  clear hln
  unfold mv at *
  clear hE hw hA hc k1 k2 k3 k8 k6 k7 k4 k5
  go_enter Tryd.func11, Tryd.ntmps11
  go_wp2_with fail
  generalize hW0 : w.alloc (.cells #[.int .i64 4, .int .u32 f, .int .u32 t, .int .u32 s, .int .u32 g, .int .i64 r, .int .i64 c, .bool o, .slice A n c'] 28) = W0 at *
  have c0 := fun W hW => keepc (w' := W) (w := W0) (hblk.cell 0) hW
  have c1 := fun W hW => keepc (w' := W) (w := W0) (hblk.cell 1) hW
  have c4 := fun W hW => keepc (w' := W) (w := W0) (hblk.cell 4) hW
  have c7 := fun W hW => keepc (w' := W) (w := W0) (hblk.cell 7) hW
  have c8 := fun W hW => keepc (w' := W) (w := W0) (hblk.cell 8) hW
  have HB := Lib.hid hB
  have HZ := Lib.hid (show w.heap.size < W0.heap.size by rw [← hW0]; simp)
  have HS0 : Hid (Safe W0.heap.size W0 A n) := Lib.hid (fun hn b o' e => by have := HZ.out; rcases HS.out hn b o' e with h | ⟨cs, h⟩; exact .inl (by omega); exact .inl (by have := h.lt; omega))
  clear hblk hB hW0
  refine HV.mono ?_
  rintro e w1 ⟨rfl, hb1⟩
  have x0 := c0 _ hb1
  have x1 := c1 _ hb1
  have hn1 : w.heap.size ≠ w1.heap.size := by have := hb1.size; have := HZ.out; omega
  have hn1' : w1.heap.size ≠ w.heap.size := hn1.symm
  have hn2 : w.heap.size < w1.heap.size := by have := hb1.size; have := HZ.out; omega
  go_wp2_with fail
  have hown1 : (w1.alloc (.cells #[.int .u8 36, .int .u8 0, .int .u8 0, .int .u8 0] 5)).ownsRow W0.heap.size 5 1 (.slice (some ⟨w1.heap.size, 0, none⟩) 4 4) 4 (B8 [36, 0, 0, 0]) := World.ownsRow_lit w1 #[.int .u8 36, .int .u8 0, .int .u8 0, .int .u8 0] 4 hb1.size (by unfold maxLen; omega) rfl
  have hbl := hb1.alloc hb1.size (.cells #[.int .u8 36, .int .u8 0, .int .u8 0, .int .u8 0] 5)
  refine (putAddrs_any W0.heap.size 4 _ _ _ 1 1 [f] _ (hown1.alloc _) (by omega) (by have := hbl.size; simp at this ⊢; omega) (AR_lit [f] (by have hf := Hf.out; intro x hx; simp at hx; rcases hx with rfl <;> assumption) _ (by rfl) _ 1 (by simp) rfl) (by omega) (safe_new _ _ _ _ _ (by simp))).mono ?_
  rintro e w2 ⟨A2, c2', rfl, hown2, hb2⟩
  have hb2 := (hbl.alloc hbl.size _).trans hb2
  have x0 := c0 _ hb2
  have x4 := c4 _ hb2
  have hn1 : w.heap.size ≠ w2.heap.size := by have := hb2.size; have := HZ.out; omega
  have hn1' : w2.heap.size ≠ w.heap.size := hn1.symm
  have hn2 : w.heap.size < w2.heap.size := by have := hb2.size; have := HZ.out; omega
  go_wp2_with fail
  refine (putAddrs_any W0.heap.size 8 _ _ _ 1 1 [g] _ (hown2.alloc _) (by omega) (by have := hb2.size; simp at this ⊢; omega) (AR_lit [g] (by have hg := Hg.out; intro x hx; simp at hx; rcases hx with rfl <;> assumption) _ (by rfl) _ 1 (by simp) rfl) (by omega) (safe_new _ _ _ _ _ (by simp))).mono ?_
  rintro e w3 ⟨A3, c3', rfl, hown3, hb3⟩
  have hb3 := (hb2.alloc hb2.size _).trans hb3
  have hn1 : w.heap.size ≠ w3.heap.size := by have := hb3.size; have := HZ.out; omega
  have hn1' : w3.heap.size ≠ w.heap.size := hn1.symm
  have hn2 : w.heap.size < w3.heap.size := by have := hb3.size; have := HZ.out; omega
  go_wp2_with fail
  have hlt3 : n % 256 = n := by omega
  have hcv : IntKind.u8.wrap (n : Int) = (n : Int) := by simp [IntKind.wrap, IntKind.bits, IntKind.signed]; omega
  have hfl : 0 ≤ (if o = true then (1 : Int) else 0) ∧ (if o = true then (1 : Int) else 0) ≤ 255 := by cases o <;> simp
  have HFL := Lib.hid (fun W => flag_any o W)
  generalize hfo : (if o = true then (1 : Int) else 0) = fo at *
  have HFO := Lib.hid hfo
  clear hfo hlt3
  have HO := Lib.hid hown3
  have HIB := Lib.hid (isB2 hfl (b := (n : Int)) ⟨by omega, by omega⟩)
  obtain ⟨i0, hi, hz0, hz1, hz2⟩ := info_parts info_u8
  go_region_held3 (fun w' => Below W0.heap.size W0 w')
    (first | with_reducible assumption | with_reducible exact below_al (by with_reducible assumption) _ | exact (hb3).drew | exact below_al (hb3).drew _)
    (first
    | (go_at_call 26; refine (HFL.out _).mono ?_; rintro e wa ⟨rfl, rfl⟩)
    | (refine step_app _ (by rfl) _ _ _ (by rfl) W0.heap.size 5 i0 _ 1 1 Tryd.underlying29 hi hz0 hz1 hz2 rfl (by omega) _ 12 _ (by rfl) ((own_drew HO.out).alloc _) ⟨w3.heap.size, 0, none⟩ 2 2 (B8 [fo, (n : Int)]) (by rfl) (by rfl) (World.news_of_block (cs := #[.int .u8 fo, .int .u8 (n : Int)]) (t := 5) (fr := (0, 0)) (heap_alloc_new _ _)) (B8_one _) (by unfold maxLen; omega) (by omega) (by have := hb3.size; simp; omega) ?_; intro v4 w4 hown4 hgrow4; have hb4 := (hb3.drew.alloc (by have := hb3.size; simp; omega) (.cells #[.int .u8 fo, .int .u8 (n : Int)] 5)).trans (own_grown ((own_drew HO.out).alloc (.cells #[.int .u8 fo, .int .u8 (n : Int)] 5)) hgrow4 (by have := hb3.size; simp; omega))))
  rw [← B8_app] at hown4
  obtain ⟨A4, c4', rfl⟩ := own_slicea hown4
  have x8 := c8 _ hb4
  have hn1 : w.heap.size ≠ w4.heap.size := by have := hb4.size; have := HZ.out; omega
  have hn1' : w4.heap.size ≠ w.heap.size := hn1.symm
  have hn2 : w.heap.size < w4.heap.size := by have := hb4.size; have := HZ.out; omega
  go_wp2_with fail
  refine (putAddrs_any W0.heap.size 14 _ _ A n c' l _ hown4 (by omega) hb4.size (HA.out.next hb4) (by omega) (safe_next HS0.out hb4)).mono ?_
  rintro e w5 ⟨A5, c5', rfl, hown5, hb5⟩
  have hb5 := hb4.trans hb5
  go_wp2_with fail
  have hfo := HFO.out
  have hln := HLN.out
  have hX : [36, 0, 0, 0] ++ flat [f] ++ flat [g] ++ [fo, (n : Int)] ++ flat l = mraw ⟨4, f, t, s, g, r, c, o, l⟩ := by simp [mraw, body, flat, hfo, hln]
  rw [hX] at hown5
  have hlen : (mbs ⟨4, f, t, s, g, r, c, o, l⟩).length = (14 + 4 * n) := by rw [mbs_len, mraw_len]; simp [hln]
  refine (put_any A5 (14 + 4 * n) c5' (mraw ⟨4, f, t, s, g, r, c, o, l⟩) 2 _ (own_br hown5 HX.out).1 (by omega)).mono ?_
  rintro e w9 ⟨A9, c9, rfl, hown9, hb9⟩
  have hb10 := below_next HB.out (below_next hb5 hb9)
  go_wp2
  go_ret2
  exact ⟨A9, c9, by rw [hlen]; rfl, by rw [hlen]; exact own_up hown9 (by have := hb5.size; have := HZ.out; omega), hb10⟩
end
theorem wbytes_yes (er : Int → Value) (m : Ms) (A : Option Addr) (n c : Nat) (w : World) (hE : EnvV er w) (hw : wfm m) (hA : AR w A n m.l) (hc : mcode m = 0) :
    Calls Tryd.prog 11 #[mv m A n c] w (bytesOf (mbs m) w) := by
  obtain ⟨k, f, t, s, g, r, c', o, l⟩ := m
  have hk := mcode_ok hc
  have hK : k = 1 ∨ k = 2 ∨ k = 3 ∨ k = 4 ∨ k = 5 := by
    have h1 : 1 ≤ k := hk.1
    have h2 : k ≤ 5 := hk.2.1
    omega
  rcases hK with rfl | rfl | rfl | rfl | rfl
  · exact wb_1 er f t s g r c' o l A n c w hE hw hA hc
  · exact wb_2 er f t s g r c' o l A n c w hE hw hA hc
  · exact wb_3 er f t s g r c' o l A n c w hE hw hA hc
  · exact wb_4 er f t s g r c' o l A n c w hE hw hA hc
  · exact wb_5 er f t s g r c' o l A n c w hE hw hA hc
end Go.Proofs.YtfcfnfofihpegaaDoor
