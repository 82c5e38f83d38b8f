/- WireFields, walked: kind by kind. -/
import Derived.Test.YtfcfnfofihpegaaDoorW6
import Derived.Test.YtfcfnfofihpegaaDoorWl
namespace Go.Proofs.YtfcfnfofihpegaaDoor
open Go.RowKit Sm
set_option maxHeartbeats 8000000 in
theorem fields_4 (er : Int → Value) (x y g : Int) (w : World) (hE : EnvV er w) (h0 : 0 ≤ g) (h1 : g ≤ 4294967295) (hx : x % 5 = 3) :
    Calls Tryd.prog 7 #[.int .i64 x, .int .i64 y, .int .u32 g] w fun e w' => e = .returned (.bool true) ∧ Below w.heap.size w w' := by
  have N1 := Lib.hid (fun W => number_any x 5 W (by omega) (by omega))
  rw [hx] at N1
  clear hx
  have N2 := Lib.hid (fun W => number_any y 6 W (by omega) (by omega))
  have hq : y % 6 = 0 ∨ y % 6 = 1 ∨ y % 6 = 2 ∨ y % 6 = 3 ∨ y % 6 = 4 ∨ y % 6 = 5 := by omega
  have HF := Lib.hid (first_any er w hE)
  have hG : gOk (g % 268435456 + 3758096384) = true := by unfold gOk; simp; omega
  have hGA : isA (g % 268435456 + 3758096384) := ⟨by omega, by omega⟩
  obtain ⟨ek, hek⟩ := hE.2.1 103 (by omega)
  have hez := hE.1
  have HE := Lib.hid hE
  have hg2 : g % 268435456 + 3758096384 ≤ 4294967295 := by omega
  have hg3 : 0 ≤ g % 268435456 := by omega
  have Z : isA 0 := ⟨by omega, by omega⟩
  have Z3 : isA 3 := ⟨by omega, by omega⟩
  have Z5 : isA 5 := ⟨by omega, by omega⟩
  have ZL : IsAs [] := fun x hx => by cases hx
  have ZL2 : IsAs [1, 2] := fun x hx => by simp at hx; rcases hx with rfl | rfl <;> exact ⟨by omega, by omega⟩
  have C0 : ∀ G : Int, gOk G = true → mcode ⟨4, 5, 0, 0, G, 0, 0, false, []⟩ = 0 := fun G _hG => by
    rw [in_4 _ _ _ _ _ _ _ _ (by decide)]
    have k0 : cOk 0 = true := rfl
    have k3 : cOk 3 = true := rfl
    simp [*]
  have D0 : ∀ G : Int, gOk G = true → mcode ⟨4, 5, 0, 0, G, 3, 0, false, []⟩ = 103 := fun G _hG => by
    rw [in_4 _ _ _ _ _ _ _ _ (by decide)]
    have k0 : cOk 0 = true := rfl
    have k3 : cOk 3 = true := rfl
    simp [*]
  have D1 : ∀ G : Int, gOk G = true → mcode ⟨4, 5, 0, 0, G, 0, 3, false, []⟩ = 103 := fun G _hG => by
    rw [in_4 _ _ _ _ _ _ _ _ (by decide)]
    have k0 : cOk 0 = true := rfl
    have k3 : cOk 3 = true := rfl
    simp [*]
  have D2 : ∀ G : Int, gOk G = true → mcode ⟨4, 5, 3, 0, G, 0, 0, false, []⟩ = 103 := fun G _hG => by
    rw [in_4 _ _ _ _ _ _ _ _ (by decide)]
    have k0 : cOk 0 = true := rfl
    have k3 : cOk 3 = true := rfl
    simp [*]
  have D3 : ∀ G : Int, gOk G = true → mcode ⟨4, 5, 0, 3, G, 0, 0, false, []⟩ = 103 := fun G _hG => by
    rw [in_4 _ _ _ _ _ _ _ _ (by decide)]
    have k0 : cOk 0 = true := rfl
    have k3 : cOk 3 = true := rfl
    simp [*]
  have D4 : ∀ G : Int, gOk G = true → mcode ⟨4, 5, 0, 0, G, 0, 0, true, []⟩ = 0 := fun G _hG => by
    rw [in_4 _ _ _ _ _ _ _ _ (by decide)]
    have k0 : cOk 0 = true := rfl
    have k3 : cOk 3 = true := rfl
    simp [*]
  have D5 : ∀ G : Int, gOk G = true → mcode ⟨4, 5, 0, 0, G, 0, 0, false, [1, 2]⟩ = 0 := fun G _hG => by
    rw [in_4 _ _ _ _ _ _ _ _ (by decide)]
    have k0 : cOk 0 = true := rfl
    have k3 : cOk 3 = true := rfl
    simp [*]
  generalize hGG : g % 268435456 + 3758096384 = G at *
  have HGG := Lib.hid hGG
  have C0 := C0 G hG
  have W0 : wfm ⟨4, 5, 0, 0, G, 0, 0, false, []⟩ := ⟨Z5, Z, Z, hGA, ZL⟩
  have Y0 := fun W hEW => wbytes_gen er ⟨4, 5, 0, 0, G, 0, 0, false, []⟩ none 0 0 W hEW W0 (AR.none_ _ _)
  have e0 : mbx ⟨4, 5, 0, 0, G, 0, 0, false, []⟩ = mbs ⟨4, 5, 0, 0, G, 0, 0, false, []⟩ := if_pos C0
  have l0 : (mbs ⟨4, 5, 0, 0, G, 0, 0, false, []⟩).length = 14 := by rw [mbs_len, mraw_len]; rfl
  have g0 : (mbs ⟨4, 5, 0, 0, G, 0, 0, false, []⟩).getD 0 0 = 36 := by obtain ⟨s, e⟩ := mbs_eq ⟨4, 5, 0, 0, G, 0, 0, false, []⟩; rw [e]; rfl
  rw [C0, hez, e0] at Y0
  generalize mbs ⟨4, 5, 0, 0, G, 0, 0, false, []⟩ = X at *
  have Y0 := Lib.hid Y0
  have L0 := Lib.hid l0
  have G0 := Lib.hid g0
  have HG := Lib.hid hG
  have HGA := Lib.hid hGA
  have HQ := Lib.hid hq
  have HEZ := Lib.hid hez
  have HEK := Lib.hid hek
  have D0 := Lib.hid (D0 G hG)
  have D1 := Lib.hid (D1 G hG)
  have D2 := Lib.hid (D2 G hG)
  have D3 := Lib.hid (D3 G hG)
  have D4 := Lib.hid (D4 G hG)
  have D5 := Lib.hid (D5 G hG)
  unfold mv at Y0
  clear hE hG hGA C0 W0 e0 l0 g0 hq hez hek
  go_enter Tryd.func7, Tryd.ntmps7
  go_wp2_with fail
  refine HF.out.mono ?_
  rintro e w1 ⟨rfl, hb1⟩
  have HB1 := Lib.hid hb1
  clear hb1
  go_wp2_with (go_at_call 20; refine (N1.out _).mono ?_; rintro e wa ⟨rfl, rfl⟩)
  have hbm : Below w1.heap.size w1 (w1.alloc (.cells #[.int .i64 4, .int .u32 5, .int .u32 0, .int .u32 0, .int .u32 G, .int .i64 0, .int .i64 0, .bool false, .slice none 0 0] 28)) := (Below.refl _ _).alloc (Nat.le_refl _) _
  refine (Y0.out _ ((HE.out.below HB1.out).below hbm)).mono ?_
  rintro e w2 ⟨A2, n2, c2, rfl, hn2, hr2, hb2⟩
  have hM2 := (Blk.new w1 28 #[.int .i64 4, .int .u32 5, .int .u32 0, .int .u32 0, .int .u32 G, .int .i64 0, .int .i64 0, .bool false, .slice none 0 0]).next hb2
  have hB2 := below_next HB1.out (below_next hbm hb2)
  obtain rfl : n2 = 14 := by have := hr2.len; have := L0.out; omega
  obtain ⟨b, o, rfl, hlt, hc0⟩ := hr2.at_ (k := 0) (by omega)
  rw [Nat.add_zero, G0.out] at hc0
  have hi0 : b ≠ w2.heap.size := by omega
  have hi0' := hi0.symm
  have hml := hM2.lt
  have HM2 := Lib.hid hM2
  have HB2 := Lib.hid hB2
  have HE2 := Lib.hid (HE.out.below hB2)
  clear hn2 hr2 hb2 hbm hM2 hB2
  go_wp2_with fail
  have hq := HQ.out
  have N2 := Lib.hid N2.out
  rcases hq with hq | hq | hq | hq | hq | hq
  · have N3 := N2.out
    rw [hq] at N3
    clear hq N2
    have hM2 := HM2.out
    have f5 : w2.frozen? ⟨w1.heap.size, 5, none⟩ = false := hM2.frozen 5
    have x0 : w2.cell? ⟨w1.heap.size, 0, none⟩ = _ := hM2.cell 0
    have x1 : w2.cell? ⟨w1.heap.size, 1, none⟩ = _ := hM2.cell 1
    have x2 : w2.cell? ⟨w1.heap.size, 2, none⟩ = _ := hM2.cell 2
    have x3 : w2.cell? ⟨w1.heap.size, 3, none⟩ = _ := hM2.cell 3
    have x4 : w2.cell? ⟨w1.heap.size, 4, none⟩ = _ := hM2.cell 4
    have x5 : w2.cell? ⟨w1.heap.size, 5, none⟩ = _ := hM2.cell 5
    have x6 : w2.cell? ⟨w1.heap.size, 6, none⟩ = _ := hM2.cell 6
    have x7 : w2.cell? ⟨w1.heap.size, 7, none⟩ = _ := hM2.cell 7
    have x8 : w2.cell? ⟨w1.heap.size, 8, none⟩ = _ := hM2.cell 8
    have hm1 : w1.heap.size ≠ w2.heap.size := by omega
    have hm1' := hm1.symm
    clear hM2
    go_wp2_with (go_at_call 20; refine (N3 _).mono ?_; rintro e wb ⟨rfl, rfl⟩)
    clear f5 x0 x1 x2 x3 x4 x5 x6 x7 x8
    have hM3 : Blk ((w2.setCell ⟨w1.heap.size, 5, none⟩ (.int .i64 3)).alloc (.cells #[.int .i64 10, .int .i64 20, .int .i64 18, .int .i64 14, .int .i64 12] 3)) w1.heap.size 28 #[.int .i64 4, .int .u32 5, .int .u32 0, .int .u32 0, .int .u32 G, .int .i64 3, .int .i64 0, .bool false, .slice none 0 0] := (HM2.out.set_to 5 _ rfl).alloc (.cells #[.int .i64 10, .int .i64 20, .int .i64 18, .int .i64 14, .int .i64 12] 3)
    have hB3 : Below w.heap.size w ((w2.setCell ⟨w1.heap.size, 5, none⟩ (.int .i64 3)).alloc (.cells #[.int .i64 10, .int .i64 20, .int .i64 18, .int .i64 14, .int .i64 12] 3)) := (HB2.out.setCell HB1.out.size _).alloc (by have := HB2.out.size; simp; omega) _
    have hE3 := HE.out.below hB3
    generalize (w2.setCell ⟨w1.heap.size, 5, none⟩ (.int .i64 3)).alloc (.cells #[.int .i64 10, .int .i64 20, .int .i64 18, .int .i64 14, .int .i64 12] 3) = W3 at *
    have W1 : wfm ⟨4, 5, 0, 0, G, 3, 0, false, []⟩ := ⟨Z5, Z, Z, HGA.out, ZL⟩
    have Y1 := fun W hEW => wbytes_gen er ⟨4, 5, 0, 0, G, 3, 0, false, []⟩ none 0 0 W hEW W1 (AR.none_ _ _)
    have V1 := fun W hEW => valid_any er ⟨4, 5, 0, 0, G, 3, 0, false, []⟩ none 0 0 W hEW W1 (AR.none_ _ _)
    rw [D0.out, HEK.out] at Y1 V1
    unfold mv at Y1 V1
    unfold ev at Y1 V1
    generalize mbx ⟨4, 5, 0, 0, G, 3, 0, false, []⟩ = X1 at *
    have Y1 := Lib.hid Y1
    have V1 := Lib.hid V1
    have HM3 := Lib.hid hM3
    have HB3 := Lib.hid hB3
    have HE3 := Lib.hid hE3
    clear hM3 hB3 hE3 W1
    refine (Y1.out _ HE3.out).mono ?_
    rintro e w4 ⟨A4, n4, c4, rfl, hn4, hr4, hb4⟩
    have hM4 := HM3.out.next hb4
    have x0 : w4.cell? ⟨w1.heap.size, 0, none⟩ = _ := hM4.cell 0
    have x1 : w4.cell? ⟨w1.heap.size, 1, none⟩ = _ := hM4.cell 1
    have x2 : w4.cell? ⟨w1.heap.size, 2, none⟩ = _ := hM4.cell 2
    have x3 : w4.cell? ⟨w1.heap.size, 3, none⟩ = _ := hM4.cell 3
    have x4 : w4.cell? ⟨w1.heap.size, 4, none⟩ = _ := hM4.cell 4
    have x5 : w4.cell? ⟨w1.heap.size, 5, none⟩ = _ := hM4.cell 5
    have x6 : w4.cell? ⟨w1.heap.size, 6, none⟩ = _ := hM4.cell 6
    have x7 : w4.cell? ⟨w1.heap.size, 7, none⟩ = _ := hM4.cell 7
    have x8 : w4.cell? ⟨w1.heap.size, 8, none⟩ = _ := hM4.cell 8
    have HB4 := Lib.hid (below_next HB3.out hb4)
    have HE4 := Lib.hid (HE3.out.below hb4)
    clear hn4 hr4 hb4 hM4
    go_wp2_with (go_at_call 13; refine (V1.out _ HE4.out).mono ?_; rintro e w5 ⟨rfl, hb5⟩)
    go_ret
    exact ⟨rfl, below_next HB4.out hb5⟩
  · have N3 := N2.out
    rw [hq] at N3
    clear hq N2
    have hM2 := HM2.out
    have f6 : w2.frozen? ⟨w1.heap.size, 6, none⟩ = false := hM2.frozen 6
    have x0 : w2.cell? ⟨w1.heap.size, 0, none⟩ = _ := hM2.cell 0
    have x1 : w2.cell? ⟨w1.heap.size, 1, none⟩ = _ := hM2.cell 1
    have x2 : w2.cell? ⟨w1.heap.size, 2, none⟩ = _ := hM2.cell 2
    have x3 : w2.cell? ⟨w1.heap.size, 3, none⟩ = _ := hM2.cell 3
    have x4 : w2.cell? ⟨w1.heap.size, 4, none⟩ = _ := hM2.cell 4
    have x5 : w2.cell? ⟨w1.heap.size, 5, none⟩ = _ := hM2.cell 5
    have x6 : w2.cell? ⟨w1.heap.size, 6, none⟩ = _ := hM2.cell 6
    have x7 : w2.cell? ⟨w1.heap.size, 7, none⟩ = _ := hM2.cell 7
    have x8 : w2.cell? ⟨w1.heap.size, 8, none⟩ = _ := hM2.cell 8
    have hm1 : w1.heap.size ≠ w2.heap.size := by omega
    have hm1' := hm1.symm
    clear hM2
    go_wp2_with (go_at_call 20; refine (N3 _).mono ?_; rintro e wb ⟨rfl, rfl⟩)
    clear f6 x0 x1 x2 x3 x4 x5 x6 x7 x8
    have hM3 : Blk ((w2.setCell ⟨w1.heap.size, 6, none⟩ (.int .i64 3)).alloc (.cells #[.int .i64 10, .int .i64 20, .int .i64 18, .int .i64 14, .int .i64 12] 3)) w1.heap.size 28 #[.int .i64 4, .int .u32 5, .int .u32 0, .int .u32 0, .int .u32 G, .int .i64 0, .int .i64 3, .bool false, .slice none 0 0] := (HM2.out.set_to 6 _ rfl).alloc (.cells #[.int .i64 10, .int .i64 20, .int .i64 18, .int .i64 14, .int .i64 12] 3)
    have hB3 : Below w.heap.size w ((w2.setCell ⟨w1.heap.size, 6, none⟩ (.int .i64 3)).alloc (.cells #[.int .i64 10, .int .i64 20, .int .i64 18, .int .i64 14, .int .i64 12] 3)) := (HB2.out.setCell HB1.out.size _).alloc (by have := HB2.out.size; simp; omega) _
    have hE3 := HE.out.below hB3
    generalize (w2.setCell ⟨w1.heap.size, 6, none⟩ (.int .i64 3)).alloc (.cells #[.int .i64 10, .int .i64 20, .int .i64 18, .int .i64 14, .int .i64 12] 3) = W3 at *
    have W1 : wfm ⟨4, 5, 0, 0, G, 0, 3, false, []⟩ := ⟨Z5, Z, Z, HGA.out, ZL⟩
    have Y1 := fun W hEW => wbytes_gen er ⟨4, 5, 0, 0, G, 0, 3, false, []⟩ none 0 0 W hEW W1 (AR.none_ _ _)
    have V1 := fun W hEW => valid_any er ⟨4, 5, 0, 0, G, 0, 3, false, []⟩ none 0 0 W hEW W1 (AR.none_ _ _)
    rw [D1.out, HEK.out] at Y1 V1
    unfold mv at Y1 V1
    unfold ev at Y1 V1
    generalize mbx ⟨4, 5, 0, 0, G, 0, 3, false, []⟩ = X1 at *
    have Y1 := Lib.hid Y1
    have V1 := Lib.hid V1
    have HM3 := Lib.hid hM3
    have HB3 := Lib.hid hB3
    have HE3 := Lib.hid hE3
    clear hM3 hB3 hE3 W1
    refine (Y1.out _ HE3.out).mono ?_
    rintro e w4 ⟨A4, n4, c4, rfl, hn4, hr4, hb4⟩
    have hM4 := HM3.out.next hb4
    have x0 : w4.cell? ⟨w1.heap.size, 0, none⟩ = _ := hM4.cell 0
    have x1 : w4.cell? ⟨w1.heap.size, 1, none⟩ = _ := hM4.cell 1
    have x2 : w4.cell? ⟨w1.heap.size, 2, none⟩ = _ := hM4.cell 2
    have x3 : w4.cell? ⟨w1.heap.size, 3, none⟩ = _ := hM4.cell 3
    have x4 : w4.cell? ⟨w1.heap.size, 4, none⟩ = _ := hM4.cell 4
    have x5 : w4.cell? ⟨w1.heap.size, 5, none⟩ = _ := hM4.cell 5
    have x6 : w4.cell? ⟨w1.heap.size, 6, none⟩ = _ := hM4.cell 6
    have x7 : w4.cell? ⟨w1.heap.size, 7, none⟩ = _ := hM4.cell 7
    have x8 : w4.cell? ⟨w1.heap.size, 8, none⟩ = _ := hM4.cell 8
    have HB4 := Lib.hid (below_next HB3.out hb4)
    have HE4 := Lib.hid (HE3.out.below hb4)
    clear hn4 hr4 hb4 hM4
    go_wp2_with (go_at_call 13; refine (V1.out _ HE4.out).mono ?_; rintro e w5 ⟨rfl, hb5⟩)
    go_ret
    exact ⟨rfl, below_next HB4.out hb5⟩
  · have N3 := N2.out
    rw [hq] at N3
    clear hq N2
    have hM2 := HM2.out
    have f2 : w2.frozen? ⟨w1.heap.size, 2, none⟩ = false := hM2.frozen 2
    have x0 : w2.cell? ⟨w1.heap.size, 0, none⟩ = _ := hM2.cell 0
    have x1 : w2.cell? ⟨w1.heap.size, 1, none⟩ = _ := hM2.cell 1
    have x2 : w2.cell? ⟨w1.heap.size, 2, none⟩ = _ := hM2.cell 2
    have x3 : w2.cell? ⟨w1.heap.size, 3, none⟩ = _ := hM2.cell 3
    have x4 : w2.cell? ⟨w1.heap.size, 4, none⟩ = _ := hM2.cell 4
    have x5 : w2.cell? ⟨w1.heap.size, 5, none⟩ = _ := hM2.cell 5
    have x6 : w2.cell? ⟨w1.heap.size, 6, none⟩ = _ := hM2.cell 6
    have x7 : w2.cell? ⟨w1.heap.size, 7, none⟩ = _ := hM2.cell 7
    have x8 : w2.cell? ⟨w1.heap.size, 8, none⟩ = _ := hM2.cell 8
    have hm1 : w1.heap.size ≠ w2.heap.size := by omega
    have hm1' := hm1.symm
    clear hM2
    go_wp2_with (go_at_call 20; refine (N3 _).mono ?_; rintro e wb ⟨rfl, rfl⟩)
    clear f2 x0 x1 x2 x3 x4 x5 x6 x7 x8
    have hM3 : Blk ((w2.setCell ⟨w1.heap.size, 2, none⟩ (.int .u32 3)).alloc (.cells #[.int .i64 10, .int .i64 20, .int .i64 18, .int .i64 14, .int .i64 12] 3)) w1.heap.size 28 #[.int .i64 4, .int .u32 5, .int .u32 3, .int .u32 0, .int .u32 G, .int .i64 0, .int .i64 0, .bool false, .slice none 0 0] := (HM2.out.set_to 2 _ rfl).alloc (.cells #[.int .i64 10, .int .i64 20, .int .i64 18, .int .i64 14, .int .i64 12] 3)
    have hB3 : Below w.heap.size w ((w2.setCell ⟨w1.heap.size, 2, none⟩ (.int .u32 3)).alloc (.cells #[.int .i64 10, .int .i64 20, .int .i64 18, .int .i64 14, .int .i64 12] 3)) := (HB2.out.setCell HB1.out.size _).alloc (by have := HB2.out.size; simp; omega) _
    have hE3 := HE.out.below hB3
    generalize (w2.setCell ⟨w1.heap.size, 2, none⟩ (.int .u32 3)).alloc (.cells #[.int .i64 10, .int .i64 20, .int .i64 18, .int .i64 14, .int .i64 12] 3) = W3 at *
    have W1 : wfm ⟨4, 5, 3, 0, G, 0, 0, false, []⟩ := ⟨Z5, Z3, Z, HGA.out, ZL⟩
    have Y1 := fun W hEW => wbytes_gen er ⟨4, 5, 3, 0, G, 0, 0, false, []⟩ none 0 0 W hEW W1 (AR.none_ _ _)
    have V1 := fun W hEW => valid_any er ⟨4, 5, 3, 0, G, 0, 0, false, []⟩ none 0 0 W hEW W1 (AR.none_ _ _)
    rw [D2.out, HEK.out] at Y1 V1
    unfold mv at Y1 V1
    unfold ev at Y1 V1
    generalize mbx ⟨4, 5, 3, 0, G, 0, 0, false, []⟩ = X1 at *
    have Y1 := Lib.hid Y1
    have V1 := Lib.hid V1
    have HM3 := Lib.hid hM3
    have HB3 := Lib.hid hB3
    have HE3 := Lib.hid hE3
    clear hM3 hB3 hE3 W1
    refine (Y1.out _ HE3.out).mono ?_
    rintro e w4 ⟨A4, n4, c4, rfl, hn4, hr4, hb4⟩
    have hM4 := HM3.out.next hb4
    have x0 : w4.cell? ⟨w1.heap.size, 0, none⟩ = _ := hM4.cell 0
    have x1 : w4.cell? ⟨w1.heap.size, 1, none⟩ = _ := hM4.cell 1
    have x2 : w4.cell? ⟨w1.heap.size, 2, none⟩ = _ := hM4.cell 2
    have x3 : w4.cell? ⟨w1.heap.size, 3, none⟩ = _ := hM4.cell 3
    have x4 : w4.cell? ⟨w1.heap.size, 4, none⟩ = _ := hM4.cell 4
    have x5 : w4.cell? ⟨w1.heap.size, 5, none⟩ = _ := hM4.cell 5
    have x6 : w4.cell? ⟨w1.heap.size, 6, none⟩ = _ := hM4.cell 6
    have x7 : w4.cell? ⟨w1.heap.size, 7, none⟩ = _ := hM4.cell 7
    have x8 : w4.cell? ⟨w1.heap.size, 8, none⟩ = _ := hM4.cell 8
    have HB4 := Lib.hid (below_next HB3.out hb4)
    have HE4 := Lib.hid (HE3.out.below hb4)
    clear hn4 hr4 hb4 hM4
    go_wp2_with (go_at_call 13; refine (V1.out _ HE4.out).mono ?_; rintro e w5 ⟨rfl, hb5⟩)
    go_ret
    exact ⟨rfl, below_next HB4.out hb5⟩
  · have N3 := N2.out
    rw [hq] at N3
    clear hq N2
    have hM2 := HM2.out
    have f3 : w2.frozen? ⟨w1.heap.size, 3, none⟩ = false := hM2.frozen 3
    have x0 : w2.cell? ⟨w1.heap.size, 0, none⟩ = _ := hM2.cell 0
    have x1 : w2.cell? ⟨w1.heap.size, 1, none⟩ = _ := hM2.cell 1
    have x2 : w2.cell? ⟨w1.heap.size, 2, none⟩ = _ := hM2.cell 2
    have x3 : w2.cell? ⟨w1.heap.size, 3, none⟩ = _ := hM2.cell 3
    have x4 : w2.cell? ⟨w1.heap.size, 4, none⟩ = _ := hM2.cell 4
    have x5 : w2.cell? ⟨w1.heap.size, 5, none⟩ = _ := hM2.cell 5
    have x6 : w2.cell? ⟨w1.heap.size, 6, none⟩ = _ := hM2.cell 6
    have x7 : w2.cell? ⟨w1.heap.size, 7, none⟩ = _ := hM2.cell 7
    have x8 : w2.cell? ⟨w1.heap.size, 8, none⟩ = _ := hM2.cell 8
    have hm1 : w1.heap.size ≠ w2.heap.size := by omega
    have hm1' := hm1.symm
    clear hM2
    go_wp2_with (go_at_call 20; refine (N3 _).mono ?_; rintro e wb ⟨rfl, rfl⟩)
    clear f3 x0 x1 x2 x3 x4 x5 x6 x7 x8
    have hM3 : Blk ((w2.setCell ⟨w1.heap.size, 3, none⟩ (.int .u32 3)).alloc (.cells #[.int .i64 10, .int .i64 20, .int .i64 18, .int .i64 14, .int .i64 12] 3)) w1.heap.size 28 #[.int .i64 4, .int .u32 5, .int .u32 0, .int .u32 3, .int .u32 G, .int .i64 0, .int .i64 0, .bool false, .slice none 0 0] := (HM2.out.set_to 3 _ rfl).alloc (.cells #[.int .i64 10, .int .i64 20, .int .i64 18, .int .i64 14, .int .i64 12] 3)
    have hB3 : Below w.heap.size w ((w2.setCell ⟨w1.heap.size, 3, none⟩ (.int .u32 3)).alloc (.cells #[.int .i64 10, .int .i64 20, .int .i64 18, .int .i64 14, .int .i64 12] 3)) := (HB2.out.setCell HB1.out.size _).alloc (by have := HB2.out.size; simp; omega) _
    have hE3 := HE.out.below hB3
    generalize (w2.setCell ⟨w1.heap.size, 3, none⟩ (.int .u32 3)).alloc (.cells #[.int .i64 10, .int .i64 20, .int .i64 18, .int .i64 14, .int .i64 12] 3) = W3 at *
    have W1 : wfm ⟨4, 5, 0, 3, G, 0, 0, false, []⟩ := ⟨Z5, Z, Z3, HGA.out, ZL⟩
    have Y1 := fun W hEW => wbytes_gen er ⟨4, 5, 0, 3, G, 0, 0, false, []⟩ none 0 0 W hEW W1 (AR.none_ _ _)
    have V1 := fun W hEW => valid_any er ⟨4, 5, 0, 3, G, 0, 0, false, []⟩ none 0 0 W hEW W1 (AR.none_ _ _)
    rw [D3.out, HEK.out] at Y1 V1
    unfold mv at Y1 V1
    unfold ev at Y1 V1
    generalize mbx ⟨4, 5, 0, 3, G, 0, 0, false, []⟩ = X1 at *
    have Y1 := Lib.hid Y1
    have V1 := Lib.hid V1
    have HM3 := Lib.hid hM3
    have HB3 := Lib.hid hB3
    have HE3 := Lib.hid hE3
    clear hM3 hB3 hE3 W1
    refine (Y1.out _ HE3.out).mono ?_
    rintro e w4 ⟨A4, n4, c4, rfl, hn4, hr4, hb4⟩
    have hM4 := HM3.out.next hb4
    have x0 : w4.cell? ⟨w1.heap.size, 0, none⟩ = _ := hM4.cell 0
    have x1 : w4.cell? ⟨w1.heap.size, 1, none⟩ = _ := hM4.cell 1
    have x2 : w4.cell? ⟨w1.heap.size, 2, none⟩ = _ := hM4.cell 2
    have x3 : w4.cell? ⟨w1.heap.size, 3, none⟩ = _ := hM4.cell 3
    have x4 : w4.cell? ⟨w1.heap.size, 4, none⟩ = _ := hM4.cell 4
    have x5 : w4.cell? ⟨w1.heap.size, 5, none⟩ = _ := hM4.cell 5
    have x6 : w4.cell? ⟨w1.heap.size, 6, none⟩ = _ := hM4.cell 6
    have x7 : w4.cell? ⟨w1.heap.size, 7, none⟩ = _ := hM4.cell 7
    have x8 : w4.cell? ⟨w1.heap.size, 8, none⟩ = _ := hM4.cell 8
    have HB4 := Lib.hid (below_next HB3.out hb4)
    have HE4 := Lib.hid (HE3.out.below hb4)
    clear hn4 hr4 hb4 hM4
    go_wp2_with (go_at_call 13; refine (V1.out _ HE4.out).mono ?_; rintro e w5 ⟨rfl, hb5⟩)
    go_ret
    exact ⟨rfl, below_next HB4.out hb5⟩
  · have N3 := N2.out
    rw [hq] at N3
    clear hq N2
    have hM2 := HM2.out
    have f7 : w2.frozen? ⟨w1.heap.size, 7, none⟩ = false := hM2.frozen 7
    have x0 : w2.cell? ⟨w1.heap.size, 0, none⟩ = _ := hM2.cell 0
    have x1 : w2.cell? ⟨w1.heap.size, 1, none⟩ = _ := hM2.cell 1
    have x2 : w2.cell? ⟨w1.heap.size, 2, none⟩ = _ := hM2.cell 2
    have x3 : w2.cell? ⟨w1.heap.size, 3, none⟩ = _ := hM2.cell 3
    have x4 : w2.cell? ⟨w1.heap.size, 4, none⟩ = _ := hM2.cell 4
    have x5 : w2.cell? ⟨w1.heap.size, 5, none⟩ = _ := hM2.cell 5
    have x6 : w2.cell? ⟨w1.heap.size, 6, none⟩ = _ := hM2.cell 6
    have x7 : w2.cell? ⟨w1.heap.size, 7, none⟩ = _ := hM2.cell 7
    have x8 : w2.cell? ⟨w1.heap.size, 8, none⟩ = _ := hM2.cell 8
    have hm1 : w1.heap.size ≠ w2.heap.size := by omega
    have hm1' := hm1.symm
    clear hM2
    go_wp2_with (go_at_call 20; refine (N3 _).mono ?_; rintro e wb ⟨rfl, rfl⟩)
    clear f7 x0 x1 x2 x3 x4 x5 x6 x7 x8
    have hM3 : Blk ((w2.setCell ⟨w1.heap.size, 7, none⟩ (.bool true)).alloc (.cells #[.int .i64 10, .int .i64 20, .int .i64 18, .int .i64 14, .int .i64 12] 3)) w1.heap.size 28 #[.int .i64 4, .int .u32 5, .int .u32 0, .int .u32 0, .int .u32 G, .int .i64 0, .int .i64 0, .bool true, .slice none 0 0] := (HM2.out.set_to 7 _ rfl).alloc (.cells #[.int .i64 10, .int .i64 20, .int .i64 18, .int .i64 14, .int .i64 12] 3)
    have hB3 : Below w.heap.size w ((w2.setCell ⟨w1.heap.size, 7, none⟩ (.bool true)).alloc (.cells #[.int .i64 10, .int .i64 20, .int .i64 18, .int .i64 14, .int .i64 12] 3)) := (HB2.out.setCell HB1.out.size _).alloc (by have := HB2.out.size; simp; omega) _
    have hE3 := HE.out.below hB3
    generalize (w2.setCell ⟨w1.heap.size, 7, none⟩ (.bool true)).alloc (.cells #[.int .i64 10, .int .i64 20, .int .i64 18, .int .i64 14, .int .i64 12] 3) = W3 at *
    have W1 : wfm ⟨4, 5, 0, 0, G, 0, 0, true, []⟩ := ⟨Z5, Z, Z, HGA.out, ZL⟩
    have Y1 := fun W hEW => wbytes_gen er ⟨4, 5, 0, 0, G, 0, 0, true, []⟩ none 0 0 W hEW W1 (AR.none_ _ _)
    have V1 := fun W hEW => valid_any er ⟨4, 5, 0, 0, G, 0, 0, true, []⟩ none 0 0 W hEW W1 (AR.none_ _ _)
    rw [D4.out, HEZ.out] at Y1 V1
    unfold mv at Y1 V1
    generalize mbx ⟨4, 5, 0, 0, G, 0, 0, true, []⟩ = X1 at *
    have Y1 := Lib.hid Y1
    have V1 := Lib.hid V1
    have HM3 := Lib.hid hM3
    have HB3 := Lib.hid hB3
    have HE3 := Lib.hid hE3
    clear hM3 hB3 hE3 W1
    refine (Y1.out _ HE3.out).mono ?_
    rintro e w4 ⟨A4, n4, c4, rfl, hn4, hr4, hb4⟩
    have hM4 := HM3.out.next hb4
    have x0 : w4.cell? ⟨w1.heap.size, 0, none⟩ = _ := hM4.cell 0
    have x1 : w4.cell? ⟨w1.heap.size, 1, none⟩ = _ := hM4.cell 1
    have x2 : w4.cell? ⟨w1.heap.size, 2, none⟩ = _ := hM4.cell 2
    have x3 : w4.cell? ⟨w1.heap.size, 3, none⟩ = _ := hM4.cell 3
    have x4 : w4.cell? ⟨w1.heap.size, 4, none⟩ = _ := hM4.cell 4
    have x5 : w4.cell? ⟨w1.heap.size, 5, none⟩ = _ := hM4.cell 5
    have x6 : w4.cell? ⟨w1.heap.size, 6, none⟩ = _ := hM4.cell 6
    have x7 : w4.cell? ⟨w1.heap.size, 7, none⟩ = _ := hM4.cell 7
    have x8 : w4.cell? ⟨w1.heap.size, 8, none⟩ = _ := hM4.cell 8
    have HB4 := Lib.hid (below_next HB3.out hb4)
    have HE4 := Lib.hid (HE3.out.below hb4)
    clear hn4 hr4 hb4 hM4
    go_wp2_with (go_at_call 13; refine (V1.out _ HE4.out).mono ?_; rintro e w5 ⟨rfl, hb5⟩)
    go_ret
    exact ⟨rfl, below_next HB4.out hb5⟩
  · have N3 := N2.out
    rw [hq] at N3
    clear hq N2
    have hM2 := HM2.out
    have f8 : w2.frozen? ⟨w1.heap.size, 8, none⟩ = false := hM2.frozen 8
    have x0 : w2.cell? ⟨w1.heap.size, 0, none⟩ = _ := hM2.cell 0
    have x1 : w2.cell? ⟨w1.heap.size, 1, none⟩ = _ := hM2.cell 1
    have x2 : w2.cell? ⟨w1.heap.size, 2, none⟩ = _ := hM2.cell 2
    have x3 : w2.cell? ⟨w1.heap.size, 3, none⟩ = _ := hM2.cell 3
    have x4 : w2.cell? ⟨w1.heap.size, 4, none⟩ = _ := hM2.cell 4
    have x5 : w2.cell? ⟨w1.heap.size, 5, none⟩ = _ := hM2.cell 5
    have x6 : w2.cell? ⟨w1.heap.size, 6, none⟩ = _ := hM2.cell 6
    have x7 : w2.cell? ⟨w1.heap.size, 7, none⟩ = _ := hM2.cell 7
    have x8 : w2.cell? ⟨w1.heap.size, 8, none⟩ = _ := hM2.cell 8
    have hm1 : w1.heap.size ≠ w2.heap.size := by omega
    have hm1' := hm1.symm
    have hm2 : w1.heap.size ≠ w2.heap.size + 1 := by omega
    have hm2' := hm2.symm
    clear hM2
    go_wp2_with (go_at_call 20; refine (N3 _).mono ?_; rintro e wb ⟨rfl, rfl⟩)
    clear f8 x0 x1 x2 x3 x4 x5 x6 x7 x8
    have hM3 : Blk (((w2.setCell ⟨w1.heap.size, 8, none⟩ (.slice (some ⟨w2.heap.size + 1, 0, none⟩) 2 2)).alloc (.cells #[.int .i64 10, .int .i64 20, .int .i64 18, .int .i64 14, .int .i64 12] 3)).alloc (.cells #[.int .u32 1, .int .u32 2] 23)) w1.heap.size 28 #[.int .i64 4, .int .u32 5, .int .u32 0, .int .u32 0, .int .u32 G, .int .i64 0, .int .i64 0, .bool false, .slice (some ⟨w2.heap.size + 1, 0, none⟩) 2 2] := ((HM2.out.set_to 8 _ rfl).alloc (.cells #[.int .i64 10, .int .i64 20, .int .i64 18, .int .i64 14, .int .i64 12] 3)).alloc (.cells #[.int .u32 1, .int .u32 2] 23)
    have hB3 : Below w.heap.size w (((w2.setCell ⟨w1.heap.size, 8, none⟩ (.slice (some ⟨w2.heap.size + 1, 0, none⟩) 2 2)).alloc (.cells #[.int .i64 10, .int .i64 20, .int .i64 18, .int .i64 14, .int .i64 12] 3)).alloc (.cells #[.int .u32 1, .int .u32 2] 23)) := ((HB2.out.setCell HB1.out.size _).alloc (by have := HB2.out.size; simp; omega) _).alloc (by have := HB2.out.size; simp; omega) _
    have hA3 : AR (((w2.setCell ⟨w1.heap.size, 8, none⟩ (.slice (some ⟨w2.heap.size + 1, 0, none⟩) 2 2)).alloc (.cells #[.int .i64 10, .int .i64 20, .int .i64 18, .int .i64 14, .int .i64 12] 3)).alloc (.cells #[.int .u32 1, .int .u32 2] 23)) (some ⟨w2.heap.size + 1, 0, none⟩) 2 [1, 2] := AR_lit [1, 2] ZL2 _ (by rfl) (w2.heap.size + 1) 2 (by simp) rfl
    have hE3 := HE.out.below hB3
    generalize ((w2.setCell ⟨w1.heap.size, 8, none⟩ (.slice (some ⟨w2.heap.size + 1, 0, none⟩) 2 2)).alloc (.cells #[.int .i64 10, .int .i64 20, .int .i64 18, .int .i64 14, .int .i64 12] 3)).alloc (.cells #[.int .u32 1, .int .u32 2] 23) = W3 at *
    have HA3 := Lib.hid hA3
    clear hA3
    have W1 : wfm ⟨4, 5, 0, 0, G, 0, 0, false, [1, 2]⟩ := ⟨Z5, Z, Z, HGA.out, ZL2⟩
    have Y1 := fun W (hWW : Below W3.heap.size W3 W) hEW => wbytes_gen er ⟨4, 5, 0, 0, G, 0, 0, false, [1, 2]⟩ (some ⟨w2.heap.size + 1, 0, none⟩) 2 2 W hEW W1 (HA3.out.next hWW)
    have V1 := fun W (hWW : Below W3.heap.size W3 W) hEW => valid_any er ⟨4, 5, 0, 0, G, 0, 0, false, [1, 2]⟩ (some ⟨w2.heap.size + 1, 0, none⟩) 2 2 W hEW W1 (HA3.out.next hWW)
    rw [D5.out, HEZ.out] at Y1 V1
    unfold mv at Y1 V1
    generalize mbx ⟨4, 5, 0, 0, G, 0, 0, false, [1, 2]⟩ = X1 at *
    have Y1 := Lib.hid Y1
    have V1 := Lib.hid V1
    have HM3 := Lib.hid hM3
    have HB3 := Lib.hid hB3
    have HE3 := Lib.hid hE3
    clear hM3 hB3 hE3 W1
    refine (Y1.out _ (Below.refl _ _) HE3.out).mono ?_
    rintro e w4 ⟨A4, n4, c4, rfl, hn4, hr4, hb4⟩
    have hM4 := HM3.out.next hb4
    have x0 : w4.cell? ⟨w1.heap.size, 0, none⟩ = _ := hM4.cell 0
    have x1 : w4.cell? ⟨w1.heap.size, 1, none⟩ = _ := hM4.cell 1
    have x2 : w4.cell? ⟨w1.heap.size, 2, none⟩ = _ := hM4.cell 2
    have x3 : w4.cell? ⟨w1.heap.size, 3, none⟩ = _ := hM4.cell 3
    have x4 : w4.cell? ⟨w1.heap.size, 4, none⟩ = _ := hM4.cell 4
    have x5 : w4.cell? ⟨w1.heap.size, 5, none⟩ = _ := hM4.cell 5
    have x6 : w4.cell? ⟨w1.heap.size, 6, none⟩ = _ := hM4.cell 6
    have x7 : w4.cell? ⟨w1.heap.size, 7, none⟩ = _ := hM4.cell 7
    have x8 : w4.cell? ⟨w1.heap.size, 8, none⟩ = _ := hM4.cell 8
    have HB4 := Lib.hid (below_next HB3.out hb4)
    have HE4 := Lib.hid (HE3.out.below hb4)
    have HW4 := Lib.hid hb4
    clear hn4 hr4 hb4 hM4
    go_wp2_with (go_at_call 13; refine (V1.out _ HW4.out HE4.out).mono ?_; rintro e w5 ⟨rfl, hb5⟩)
    go_ret
    exact ⟨rfl, below_next HB4.out hb5⟩
set_option maxHeartbeats 8000000 in
theorem fields_5 (er : Int → Value) (x y g : Int) (w : World) (hE : EnvV er w) (h0 : 0 ≤ g) (h1 : g ≤ 4294967295) (hx : x % 5 = 4) :
    Calls Tryd.prog 7 #[.int .i64 x, .int .i64 y, .int .u32 g] w fun e w' => e = .returned (.bool true) ∧ Below w.heap.size w w' := by
  have N1 := Lib.hid (fun W => number_any x 5 W (by omega) (by omega))
  rw [hx] at N1
  clear hx
  have N2 := Lib.hid (fun W => number_any y 6 W (by omega) (by omega))
  have hq : y % 6 = 0 ∨ y % 6 = 1 ∨ y % 6 = 2 ∨ y % 6 = 3 ∨ y % 6 = 4 ∨ y % 6 = 5 := by omega
  have HF := Lib.hid (first_any er w hE)
  have hG : gOk (g % 268435456 + 3758096384) = true := by unfold gOk; simp; omega
  have hGA : isA (g % 268435456 + 3758096384) := ⟨by omega, by omega⟩
  obtain ⟨ek, hek⟩ := hE.2.1 103 (by omega)
  have hez := hE.1
  have HE := Lib.hid hE
  have hg2 : g % 268435456 + 3758096384 ≤ 4294967295 := by omega
  have hg3 : 0 ≤ g % 268435456 := by omega
  have Z : isA 0 := ⟨by omega, by omega⟩
  have Z3 : isA 3 := ⟨by omega, by omega⟩
  have Z5 : isA 5 := ⟨by omega, by omega⟩
  have ZL : IsAs [] := fun x hx => by cases hx
  have ZL2 : IsAs [1, 2] := fun x hx => by simp at hx; rcases hx with rfl | rfl <;> exact ⟨by omega, by omega⟩
  have C0 : ∀ G : Int, gOk G = true → mcode ⟨5, 5, 0, 0, G, 0, 0, false, []⟩ = 0 := fun G _hG => by
    rw [in_5 _ _ _ _ _ _ _ _ (by decide)]
    have k0 : cOk 0 = true := rfl
    have k3 : cOk 3 = true := rfl
    simp [*]
  have D0 : ∀ G : Int, gOk G = true → mcode ⟨5, 5, 0, 0, G, 3, 0, false, []⟩ = 103 := fun G _hG => by
    rw [in_5 _ _ _ _ _ _ _ _ (by decide)]
    have k0 : cOk 0 = true := rfl
    have k3 : cOk 3 = true := rfl
    simp [*]
  have D1 : ∀ G : Int, gOk G = true → mcode ⟨5, 5, 0, 0, G, 0, 3, false, []⟩ = 103 := fun G _hG => by
    rw [in_5 _ _ _ _ _ _ _ _ (by decide)]
    have k0 : cOk 0 = true := rfl
    have k3 : cOk 3 = true := rfl
    simp [*]
  have D2 : ∀ G : Int, gOk G = true → mcode ⟨5, 5, 3, 0, G, 0, 0, false, []⟩ = 103 := fun G _hG => by
    rw [in_5 _ _ _ _ _ _ _ _ (by decide)]
    have k0 : cOk 0 = true := rfl
    have k3 : cOk 3 = true := rfl
    simp [*]
  have D3 : ∀ G : Int, gOk G = true → mcode ⟨5, 5, 0, 3, G, 0, 0, false, []⟩ = 103 := fun G _hG => by
    rw [in_5 _ _ _ _ _ _ _ _ (by decide)]
    have k0 : cOk 0 = true := rfl
    have k3 : cOk 3 = true := rfl
    simp [*]
  have D4 : ∀ G : Int, gOk G = true → mcode ⟨5, 5, 0, 0, G, 0, 0, true, []⟩ = 103 := fun G _hG => by
    rw [in_5 _ _ _ _ _ _ _ _ (by decide)]
    have k0 : cOk 0 = true := rfl
    have k3 : cOk 3 = true := rfl
    simp [*]
  have D5 : ∀ G : Int, gOk G = true → mcode ⟨5, 5, 0, 0, G, 0, 0, false, [1, 2]⟩ = 103 := fun G _hG => by
    rw [in_5 _ _ _ _ _ _ _ _ (by decide)]
    have k0 : cOk 0 = true := rfl
    have k3 : cOk 3 = true := rfl
    simp [*]
  generalize hGG : g % 268435456 + 3758096384 = G at *
  have HGG := Lib.hid hGG
  have C0 := C0 G hG
  have W0 : wfm ⟨5, 5, 0, 0, G, 0, 0, false, []⟩ := ⟨Z5, Z, Z, hGA, ZL⟩
  have Y0 := fun W hEW => wbytes_gen er ⟨5, 5, 0, 0, G, 0, 0, false, []⟩ none 0 0 W hEW W0 (AR.none_ _ _)
  have e0 : mbx ⟨5, 5, 0, 0, G, 0, 0, false, []⟩ = mbs ⟨5, 5, 0, 0, G, 0, 0, false, []⟩ := if_pos C0
  have l0 : (mbs ⟨5, 5, 0, 0, G, 0, 0, false, []⟩).length = 12 := by rw [mbs_len, mraw_len]; rfl
  have g0 : (mbs ⟨5, 5, 0, 0, G, 0, 0, false, []⟩).getD 0 0 = 37 := by obtain ⟨s, e⟩ := mbs_eq ⟨5, 5, 0, 0, G, 0, 0, false, []⟩; rw [e]; rfl
  rw [C0, hez, e0] at Y0
  generalize mbs ⟨5, 5, 0, 0, G, 0, 0, false, []⟩ = X at *
  have Y0 := Lib.hid Y0
  have L0 := Lib.hid l0
  have G0 := Lib.hid g0
  have HG := Lib.hid hG
  have HGA := Lib.hid hGA
  have HQ := Lib.hid hq
  have HEZ := Lib.hid hez
  have HEK := Lib.hid hek
  have D0 := Lib.hid (D0 G hG)
  have D1 := Lib.hid (D1 G hG)
  have D2 := Lib.hid (D2 G hG)
  have D3 := Lib.hid (D3 G hG)
  have D4 := Lib.hid (D4 G hG)
  have D5 := Lib.hid (D5 G hG)
  unfold mv at Y0
  clear hE hG hGA C0 W0 e0 l0 g0 hq hez hek
  go_enter Tryd.func7, Tryd.ntmps7
  go_wp2_with fail
  refine HF.out.mono ?_
  rintro e w1 ⟨rfl, hb1⟩
  have HB1 := Lib.hid hb1
  clear hb1
  go_wp2_with (go_at_call 20; refine (N1.out _).mono ?_; rintro e wa ⟨rfl, rfl⟩)
  have hbm : Below w1.heap.size w1 (w1.alloc (.cells #[.int .i64 5, .int .u32 5, .int .u32 0, .int .u32 0, .int .u32 G, .int .i64 0, .int .i64 0, .bool false, .slice none 0 0] 28)) := (Below.refl _ _).alloc (Nat.le_refl _) _
  refine (Y0.out _ ((HE.out.below HB1.out).below hbm)).mono ?_
  rintro e w2 ⟨A2, n2, c2, rfl, hn2, hr2, hb2⟩
  have hM2 := (Blk.new w1 28 #[.int .i64 5, .int .u32 5, .int .u32 0, .int .u32 0, .int .u32 G, .int .i64 0, .int .i64 0, .bool false, .slice none 0 0]).next hb2
  have hB2 := below_next HB1.out (below_next hbm hb2)
  obtain rfl : n2 = 12 := by have := hr2.len; have := L0.out; omega
  obtain ⟨b, o, rfl, hlt, hc0⟩ := hr2.at_ (k := 0) (by omega)
  rw [Nat.add_zero, G0.out] at hc0
  have hi0 : b ≠ w2.heap.size := by omega
  have hi0' := hi0.symm
  have hml := hM2.lt
  have HM2 := Lib.hid hM2
  have HB2 := Lib.hid hB2
  have HE2 := Lib.hid (HE.out.below hB2)
  clear hn2 hr2 hb2 hbm hM2 hB2
  go_wp2_with fail
  have hq := HQ.out
  have N2 := Lib.hid N2.out
  rcases hq with hq | hq | hq | hq | hq | hq
  · have N3 := N2.out
    rw [hq] at N3
    clear hq N2
    have hM2 := HM2.out
    have f5 : w2.frozen? ⟨w1.heap.size, 5, none⟩ = false := hM2.frozen 5
    have x0 : w2.cell? ⟨w1.heap.size, 0, none⟩ = _ := hM2.cell 0
    have x1 : w2.cell? ⟨w1.heap.size, 1, none⟩ = _ := hM2.cell 1
    have x2 : w2.cell? ⟨w1.heap.size, 2, none⟩ = _ := hM2.cell 2
    have x3 : w2.cell? ⟨w1.heap.size, 3, none⟩ = _ := hM2.cell 3
    have x4 : w2.cell? ⟨w1.heap.size, 4, none⟩ = _ := hM2.cell 4
    have x5 : w2.cell? ⟨w1.heap.size, 5, none⟩ = _ := hM2.cell 5
    have x6 : w2.cell? ⟨w1.heap.size, 6, none⟩ = _ := hM2.cell 6
    have x7 : w2.cell? ⟨w1.heap.size, 7, none⟩ = _ := hM2.cell 7
    have x8 : w2.cell? ⟨w1.heap.size, 8, none⟩ = _ := hM2.cell 8
    have hm1 : w1.heap.size ≠ w2.heap.size := by omega
    have hm1' := hm1.symm
    clear hM2
    go_wp2_with (go_at_call 20; refine (N3 _).mono ?_; rintro e wb ⟨rfl, rfl⟩)
    clear f5 x0 x1 x2 x3 x4 x5 x6 x7 x8
    have hM3 : Blk ((w2.setCell ⟨w1.heap.size, 5, none⟩ (.int .i64 3)).alloc (.cells #[.int .i64 10, .int .i64 20, .int .i64 18, .int .i64 14, .int .i64 12] 3)) w1.heap.size 28 #[.int .i64 5, .int .u32 5, .int .u32 0, .int .u32 0, .int .u32 G, .int .i64 3, .int .i64 0, .bool false, .slice none 0 0] := (HM2.out.set_to 5 _ rfl).alloc (.cells #[.int .i64 10, .int .i64 20, .int .i64 18, .int .i64 14, .int .i64 12] 3)
    have hB3 : Below w.heap.size w ((w2.setCell ⟨w1.heap.size, 5, none⟩ (.int .i64 3)).alloc (.cells #[.int .i64 10, .int .i64 20, .int .i64 18, .int .i64 14, .int .i64 12] 3)) := (HB2.out.setCell HB1.out.size _).alloc (by have := HB2.out.size; simp; omega) _
    have hE3 := HE.out.below hB3
    generalize (w2.setCell ⟨w1.heap.size, 5, none⟩ (.int .i64 3)).alloc (.cells #[.int .i64 10, .int .i64 20, .int .i64 18, .int .i64 14, .int .i64 12] 3) = W3 at *
    have W1 : wfm ⟨5, 5, 0, 0, G, 3, 0, false, []⟩ := ⟨Z5, Z, Z, HGA.out, ZL⟩
    have Y1 := fun W hEW => wbytes_gen er ⟨5, 5, 0, 0, G, 3, 0, false, []⟩ none 0 0 W hEW W1 (AR.none_ _ _)
    have V1 := fun W hEW => valid_any er ⟨5, 5, 0, 0, G, 3, 0, false, []⟩ none 0 0 W hEW W1 (AR.none_ _ _)
    rw [D0.out, HEK.out] at Y1 V1
    unfold mv at Y1 V1
    unfold ev at Y1 V1
    generalize mbx ⟨5, 5, 0, 0, G, 3, 0, false, []⟩ = X1 at *
    have Y1 := Lib.hid Y1
    have V1 := Lib.hid V1
    have HM3 := Lib.hid hM3
    have HB3 := Lib.hid hB3
    have HE3 := Lib.hid hE3
    clear hM3 hB3 hE3 W1
    refine (Y1.out _ HE3.out).mono ?_
    rintro e w4 ⟨A4, n4, c4, rfl, hn4, hr4, hb4⟩
    have hM4 := HM3.out.next hb4
    have x0 : w4.cell? ⟨w1.heap.size, 0, none⟩ = _ := hM4.cell 0
    have x1 : w4.cell? ⟨w1.heap.size, 1, none⟩ = _ := hM4.cell 1
    have x2 : w4.cell? ⟨w1.heap.size, 2, none⟩ = _ := hM4.cell 2
    have x3 : w4.cell? ⟨w1.heap.size, 3, none⟩ = _ := hM4.cell 3
    have x4 : w4.cell? ⟨w1.heap.size, 4, none⟩ = _ := hM4.cell 4
    have x5 : w4.cell? ⟨w1.heap.size, 5, none⟩ = _ := hM4.cell 5
    have x6 : w4.cell? ⟨w1.heap.size, 6, none⟩ = _ := hM4.cell 6
    have x7 : w4.cell? ⟨w1.heap.size, 7, none⟩ = _ := hM4.cell 7
    have x8 : w4.cell? ⟨w1.heap.size, 8, none⟩ = _ := hM4.cell 8
    have HB4 := Lib.hid (below_next HB3.out hb4)
    have HE4 := Lib.hid (HE3.out.below hb4)
    clear hn4 hr4 hb4 hM4
    go_wp2_with (go_at_call 13; refine (V1.out _ HE4.out).mono ?_; rintro e w5 ⟨rfl, hb5⟩)
    go_ret
    exact ⟨rfl, below_next HB4.out hb5⟩
  · have N3 := N2.out
    rw [hq] at N3
    clear hq N2
    have hM2 := HM2.out
    have f6 : w2.frozen? ⟨w1.heap.size, 6, none⟩ = false := hM2.frozen 6
    have x0 : w2.cell? ⟨w1.heap.size, 0, none⟩ = _ := hM2.cell 0
    have x1 : w2.cell? ⟨w1.heap.size, 1, none⟩ = _ := hM2.cell 1
    have x2 : w2.cell? ⟨w1.heap.size, 2, none⟩ = _ := hM2.cell 2
    have x3 : w2.cell? ⟨w1.heap.size, 3, none⟩ = _ := hM2.cell 3
    have x4 : w2.cell? ⟨w1.heap.size, 4, none⟩ = _ := hM2.cell 4
    have x5 : w2.cell? ⟨w1.heap.size, 5, none⟩ = _ := hM2.cell 5
    have x6 : w2.cell? ⟨w1.heap.size, 6, none⟩ = _ := hM2.cell 6
    have x7 : w2.cell? ⟨w1.heap.size, 7, none⟩ = _ := hM2.cell 7
    have x8 : w2.cell? ⟨w1.heap.size, 8, none⟩ = _ := hM2.cell 8
    have hm1 : w1.heap.size ≠ w2.heap.size := by omega
    have hm1' := hm1.symm
    clear hM2
    go_wp2_with (go_at_call 20; refine (N3 _).mono ?_; rintro e wb ⟨rfl, rfl⟩)
    clear f6 x0 x1 x2 x3 x4 x5 x6 x7 x8
    have hM3 : Blk ((w2.setCell ⟨w1.heap.size, 6, none⟩ (.int .i64 3)).alloc (.cells #[.int .i64 10, .int .i64 20, .int .i64 18, .int .i64 14, .int .i64 12] 3)) w1.heap.size 28 #[.int .i64 5, .int .u32 5, .int .u32 0, .int .u32 0, .int .u32 G, .int .i64 0, .int .i64 3, .bool false, .slice none 0 0] := (HM2.out.set_to 6 _ rfl).alloc (.cells #[.int .i64 10, .int .i64 20, .int .i64 18, .int .i64 14, .int .i64 12] 3)
    have hB3 : Below w.heap.size w ((w2.setCell ⟨w1.heap.size, 6, none⟩ (.int .i64 3)).alloc (.cells #[.int .i64 10, .int .i64 20, .int .i64 18, .int .i64 14, .int .i64 12] 3)) := (HB2.out.setCell HB1.out.size _).alloc (by have := HB2.out.size; simp; omega) _
    have hE3 := HE.out.below hB3
    generalize (w2.setCell ⟨w1.heap.size, 6, none⟩ (.int .i64 3)).alloc (.cells #[.int .i64 10, .int .i64 20, .int .i64 18, .int .i64 14, .int .i64 12] 3) = W3 at *
    have W1 : wfm ⟨5, 5, 0, 0, G, 0, 3, false, []⟩ := ⟨Z5, Z, Z, HGA.out, ZL⟩
    have Y1 := fun W hEW => wbytes_gen er ⟨5, 5, 0, 0, G, 0, 3, false, []⟩ none 0 0 W hEW W1 (AR.none_ _ _)
    have V1 := fun W hEW => valid_any er ⟨5, 5, 0, 0, G, 0, 3, false, []⟩ none 0 0 W hEW W1 (AR.none_ _ _)
    rw [D1.out, HEK.out] at Y1 V1
    unfold mv at Y1 V1
    unfold ev at Y1 V1
    generalize mbx ⟨5, 5, 0, 0, G, 0, 3, false, []⟩ = X1 at *
    have Y1 := Lib.hid Y1
    have V1 := Lib.hid V1
    have HM3 := Lib.hid hM3
    have HB3 := Lib.hid hB3
    have HE3 := Lib.hid hE3
    clear hM3 hB3 hE3 W1
    refine (Y1.out _ HE3.out).mono ?_
    rintro e w4 ⟨A4, n4, c4, rfl, hn4, hr4, hb4⟩
    have hM4 := HM3.out.next hb4
    have x0 : w4.cell? ⟨w1.heap.size, 0, none⟩ = _ := hM4.cell 0
    have x1 : w4.cell? ⟨w1.heap.size, 1, none⟩ = _ := hM4.cell 1
    have x2 : w4.cell? ⟨w1.heap.size, 2, none⟩ = _ := hM4.cell 2
    have x3 : w4.cell? ⟨w1.heap.size, 3, none⟩ = _ := hM4.cell 3
    have x4 : w4.cell? ⟨w1.heap.size, 4, none⟩ = _ := hM4.cell 4
    have x5 : w4.cell? ⟨w1.heap.size, 5, none⟩ = _ := hM4.cell 5
    have x6 : w4.cell? ⟨w1.heap.size, 6, none⟩ = _ := hM4.cell 6
    have x7 : w4.cell? ⟨w1.heap.size, 7, none⟩ = _ := hM4.cell 7
    have x8 : w4.cell? ⟨w1.heap.size, 8, none⟩ = _ := hM4.cell 8
    have HB4 := Lib.hid (below_next HB3.out hb4)
    have HE4 := Lib.hid (HE3.out.below hb4)
    clear hn4 hr4 hb4 hM4
    go_wp2_with (go_at_call 13; refine (V1.out _ HE4.out).mono ?_; rintro e w5 ⟨rfl, hb5⟩)
    go_ret
    exact ⟨rfl, below_next HB4.out hb5⟩
  · have N3 := N2.out
    rw [hq] at N3
    clear hq N2
    have hM2 := HM2.out
    have f2 : w2.frozen? ⟨w1.heap.size, 2, none⟩ = false := hM2.frozen 2
    have x0 : w2.cell? ⟨w1.heap.size, 0, none⟩ = _ := hM2.cell 0
    have x1 : w2.cell? ⟨w1.heap.size, 1, none⟩ = _ := hM2.cell 1
    have x2 : w2.cell? ⟨w1.heap.size, 2, none⟩ = _ := hM2.cell 2
    have x3 : w2.cell? ⟨w1.heap.size, 3, none⟩ = _ := hM2.cell 3
    have x4 : w2.cell? ⟨w1.heap.size, 4, none⟩ = _ := hM2.cell 4
    have x5 : w2.cell? ⟨w1.heap.size, 5, none⟩ = _ := hM2.cell 5
    have x6 : w2.cell? ⟨w1.heap.size, 6, none⟩ = _ := hM2.cell 6
    have x7 : w2.cell? ⟨w1.heap.size, 7, none⟩ = _ := hM2.cell 7
    have x8 : w2.cell? ⟨w1.heap.size, 8, none⟩ = _ := hM2.cell 8
    have hm1 : w1.heap.size ≠ w2.heap.size := by omega
    have hm1' := hm1.symm
    clear hM2
    go_wp2_with (go_at_call 20; refine (N3 _).mono ?_; rintro e wb ⟨rfl, rfl⟩)
    clear f2 x0 x1 x2 x3 x4 x5 x6 x7 x8
    have hM3 : Blk ((w2.setCell ⟨w1.heap.size, 2, none⟩ (.int .u32 3)).alloc (.cells #[.int .i64 10, .int .i64 20, .int .i64 18, .int .i64 14, .int .i64 12] 3)) w1.heap.size 28 #[.int .i64 5, .int .u32 5, .int .u32 3, .int .u32 0, .int .u32 G, .int .i64 0, .int .i64 0, .bool false, .slice none 0 0] := (HM2.out.set_to 2 _ rfl).alloc (.cells #[.int .i64 10, .int .i64 20, .int .i64 18, .int .i64 14, .int .i64 12] 3)
    have hB3 : Below w.heap.size w ((w2.setCell ⟨w1.heap.size, 2, none⟩ (.int .u32 3)).alloc (.cells #[.int .i64 10, .int .i64 20, .int .i64 18, .int .i64 14, .int .i64 12] 3)) := (HB2.out.setCell HB1.out.size _).alloc (by have := HB2.out.size; simp; omega) _
    have hE3 := HE.out.below hB3
    generalize (w2.setCell ⟨w1.heap.size, 2, none⟩ (.int .u32 3)).alloc (.cells #[.int .i64 10, .int .i64 20, .int .i64 18, .int .i64 14, .int .i64 12] 3) = W3 at *
    have W1 : wfm ⟨5, 5, 3, 0, G, 0, 0, false, []⟩ := ⟨Z5, Z3, Z, HGA.out, ZL⟩
    have Y1 := fun W hEW => wbytes_gen er ⟨5, 5, 3, 0, G, 0, 0, false, []⟩ none 0 0 W hEW W1 (AR.none_ _ _)
    have V1 := fun W hEW => valid_any er ⟨5, 5, 3, 0, G, 0, 0, false, []⟩ none 0 0 W hEW W1 (AR.none_ _ _)
    rw [D2.out, HEK.out] at Y1 V1
    unfold mv at Y1 V1
    unfold ev at Y1 V1
    generalize mbx ⟨5, 5, 3, 0, G, 0, 0, false, []⟩ = X1 at *
    have Y1 := Lib.hid Y1
    have V1 := Lib.hid V1
    have HM3 := Lib.hid hM3
    have HB3 := Lib.hid hB3
    have HE3 := Lib.hid hE3
    clear hM3 hB3 hE3 W1
    refine (Y1.out _ HE3.out).mono ?_
    rintro e w4 ⟨A4, n4, c4, rfl, hn4, hr4, hb4⟩
    have hM4 := HM3.out.next hb4
    have x0 : w4.cell? ⟨w1.heap.size, 0, none⟩ = _ := hM4.cell 0
    have x1 : w4.cell? ⟨w1.heap.size, 1, none⟩ = _ := hM4.cell 1
    have x2 : w4.cell? ⟨w1.heap.size, 2, none⟩ = _ := hM4.cell 2
    have x3 : w4.cell? ⟨w1.heap.size, 3, none⟩ = _ := hM4.cell 3
    have x4 : w4.cell? ⟨w1.heap.size, 4, none⟩ = _ := hM4.cell 4
    have x5 : w4.cell? ⟨w1.heap.size, 5, none⟩ = _ := hM4.cell 5
    have x6 : w4.cell? ⟨w1.heap.size, 6, none⟩ = _ := hM4.cell 6
    have x7 : w4.cell? ⟨w1.heap.size, 7, none⟩ = _ := hM4.cell 7
    have x8 : w4.cell? ⟨w1.heap.size, 8, none⟩ = _ := hM4.cell 8
    have HB4 := Lib.hid (below_next HB3.out hb4)
    have HE4 := Lib.hid (HE3.out.below hb4)
    clear hn4 hr4 hb4 hM4
    go_wp2_with (go_at_call 13; refine (V1.out _ HE4.out).mono ?_; rintro e w5 ⟨rfl, hb5⟩)
    go_ret
    exact ⟨rfl, below_next HB4.out hb5⟩
  · have N3 := N2.out
    rw [hq] at N3
    clear hq N2
    have hM2 := HM2.out
    have f3 : w2.frozen? ⟨w1.heap.size, 3, none⟩ = false := hM2.frozen 3
    have x0 : w2.cell? ⟨w1.heap.size, 0, none⟩ = _ := hM2.cell 0
    have x1 : w2.cell? ⟨w1.heap.size, 1, none⟩ = _ := hM2.cell 1
    have x2 : w2.cell? ⟨w1.heap.size, 2, none⟩ = _ := hM2.cell 2
    have x3 : w2.cell? ⟨w1.heap.size, 3, none⟩ = _ := hM2.cell 3
    have x4 : w2.cell? ⟨w1.heap.size, 4, none⟩ = _ := hM2.cell 4
    have x5 : w2.cell? ⟨w1.heap.size, 5, none⟩ = _ := hM2.cell 5
    have x6 : w2.cell? ⟨w1.heap.size, 6, none⟩ = _ := hM2.cell 6
    have x7 : w2.cell? ⟨w1.heap.size, 7, none⟩ = _ := hM2.cell 7
    have x8 : w2.cell? ⟨w1.heap.size, 8, none⟩ = _ := hM2.cell 8
    have hm1 : w1.heap.size ≠ w2.heap.size := by omega
    have hm1' := hm1.symm
    clear hM2
    go_wp2_with (go_at_call 20; refine (N3 _).mono ?_; rintro e wb ⟨rfl, rfl⟩)
    clear f3 x0 x1 x2 x3 x4 x5 x6 x7 x8
    have hM3 : Blk ((w2.setCell ⟨w1.heap.size, 3, none⟩ (.int .u32 3)).alloc (.cells #[.int .i64 10, .int .i64 20, .int .i64 18, .int .i64 14, .int .i64 12] 3)) w1.heap.size 28 #[.int .i64 5, .int .u32 5, .int .u32 0, .int .u32 3, .int .u32 G, .int .i64 0, .int .i64 0, .bool false, .slice none 0 0] := (HM2.out.set_to 3 _ rfl).alloc (.cells #[.int .i64 10, .int .i64 20, .int .i64 18, .int .i64 14, .int .i64 12] 3)
    have hB3 : Below w.heap.size w ((w2.setCell ⟨w1.heap.size, 3, none⟩ (.int .u32 3)).alloc (.cells #[.int .i64 10, .int .i64 20, .int .i64 18, .int .i64 14, .int .i64 12] 3)) := (HB2.out.setCell HB1.out.size _).alloc (by have := HB2.out.size; simp; omega) _
    have hE3 := HE.out.below hB3
    generalize (w2.setCell ⟨w1.heap.size, 3, none⟩ (.int .u32 3)).alloc (.cells #[.int .i64 10, .int .i64 20, .int .i64 18, .int .i64 14, .int .i64 12] 3) = W3 at *
    have W1 : wfm ⟨5, 5, 0, 3, G, 0, 0, false, []⟩ := ⟨Z5, Z, Z3, HGA.out, ZL⟩
    have Y1 := fun W hEW => wbytes_gen er ⟨5, 5, 0, 3, G, 0, 0, false, []⟩ none 0 0 W hEW W1 (AR.none_ _ _)
    have V1 := fun W hEW => valid_any er ⟨5, 5, 0, 3, G, 0, 0, false, []⟩ none 0 0 W hEW W1 (AR.none_ _ _)
    rw [D3.out, HEK.out] at Y1 V1
    unfold mv at Y1 V1
    unfold ev at Y1 V1
    generalize mbx ⟨5, 5, 0, 3, G, 0, 0, false, []⟩ = X1 at *
    have Y1 := Lib.hid Y1
    have V1 := Lib.hid V1
    have HM3 := Lib.hid hM3
    have HB3 := Lib.hid hB3
    have HE3 := Lib.hid hE3
    clear hM3 hB3 hE3 W1
    refine (Y1.out _ HE3.out).mono ?_
    rintro e w4 ⟨A4, n4, c4, rfl, hn4, hr4, hb4⟩
    have hM4 := HM3.out.next hb4
    have x0 : w4.cell? ⟨w1.heap.size, 0, none⟩ = _ := hM4.cell 0
    have x1 : w4.cell? ⟨w1.heap.size, 1, none⟩ = _ := hM4.cell 1
    have x2 : w4.cell? ⟨w1.heap.size, 2, none⟩ = _ := hM4.cell 2
    have x3 : w4.cell? ⟨w1.heap.size, 3, none⟩ = _ := hM4.cell 3
    have x4 : w4.cell? ⟨w1.heap.size, 4, none⟩ = _ := hM4.cell 4
    have x5 : w4.cell? ⟨w1.heap.size, 5, none⟩ = _ := hM4.cell 5
    have x6 : w4.cell? ⟨w1.heap.size, 6, none⟩ = _ := hM4.cell 6
    have x7 : w4.cell? ⟨w1.heap.size, 7, none⟩ = _ := hM4.cell 7
    have x8 : w4.cell? ⟨w1.heap.size, 8, none⟩ = _ := hM4.cell 8
    have HB4 := Lib.hid (below_next HB3.out hb4)
    have HE4 := Lib.hid (HE3.out.below hb4)
    clear hn4 hr4 hb4 hM4
    go_wp2_with (go_at_call 13; refine (V1.out _ HE4.out).mono ?_; rintro e w5 ⟨rfl, hb5⟩)
    go_ret
    exact ⟨rfl, below_next HB4.out hb5⟩
  · have N3 := N2.out
    rw [hq] at N3
    clear hq N2
    have hM2 := HM2.out
    have f7 : w2.frozen? ⟨w1.heap.size, 7, none⟩ = false := hM2.frozen 7
    have x0 : w2.cell? ⟨w1.heap.size, 0, none⟩ = _ := hM2.cell 0
    have x1 : w2.cell? ⟨w1.heap.size, 1, none⟩ = _ := hM2.cell 1
    have x2 : w2.cell? ⟨w1.heap.size, 2, none⟩ = _ := hM2.cell 2
    have x3 : w2.cell? ⟨w1.heap.size, 3, none⟩ = _ := hM2.cell 3
    have x4 : w2.cell? ⟨w1.heap.size, 4, none⟩ = _ := hM2.cell 4
    have x5 : w2.cell? ⟨w1.heap.size, 5, none⟩ = _ := hM2.cell 5
    have x6 : w2.cell? ⟨w1.heap.size, 6, none⟩ = _ := hM2.cell 6
    have x7 : w2.cell? ⟨w1.heap.size, 7, none⟩ = _ := hM2.cell 7
    have x8 : w2.cell? ⟨w1.heap.size, 8, none⟩ = _ := hM2.cell 8
    have hm1 : w1.heap.size ≠ w2.heap.size := by omega
    have hm1' := hm1.symm
    clear hM2
    go_wp2_with (go_at_call 20; refine (N3 _).mono ?_; rintro e wb ⟨rfl, rfl⟩)
    clear f7 x0 x1 x2 x3 x4 x5 x6 x7 x8
    have hM3 : Blk ((w2.setCell ⟨w1.heap.size, 7, none⟩ (.bool true)).alloc (.cells #[.int .i64 10, .int .i64 20, .int .i64 18, .int .i64 14, .int .i64 12] 3)) w1.heap.size 28 #[.int .i64 5, .int .u32 5, .int .u32 0, .int .u32 0, .int .u32 G, .int .i64 0, .int .i64 0, .bool true, .slice none 0 0] := (HM2.out.set_to 7 _ rfl).alloc (.cells #[.int .i64 10, .int .i64 20, .int .i64 18, .int .i64 14, .int .i64 12] 3)
    have hB3 : Below w.heap.size w ((w2.setCell ⟨w1.heap.size, 7, none⟩ (.bool true)).alloc (.cells #[.int .i64 10, .int .i64 20, .int .i64 18, .int .i64 14, .int .i64 12] 3)) := (HB2.out.setCell HB1.out.size _).alloc (by have := HB2.out.size; simp; omega) _
    have hE3 := HE.out.below hB3
    generalize (w2.setCell ⟨w1.heap.size, 7, none⟩ (.bool true)).alloc (.cells #[.int .i64 10, .int .i64 20, .int .i64 18, .int .i64 14, .int .i64 12] 3) = W3 at *
    have W1 : wfm ⟨5, 5, 0, 0, G, 0, 0, true, []⟩ := ⟨Z5, Z, Z, HGA.out, ZL⟩
    have Y1 := fun W hEW => wbytes_gen er ⟨5, 5, 0, 0, G, 0, 0, true, []⟩ none 0 0 W hEW W1 (AR.none_ _ _)
    have V1 := fun W hEW => valid_any er ⟨5, 5, 0, 0, G, 0, 0, true, []⟩ none 0 0 W hEW W1 (AR.none_ _ _)
    rw [D4.out, HEK.out] at Y1 V1
    unfold mv at Y1 V1
    unfold ev at Y1 V1
    generalize mbx ⟨5, 5, 0, 0, G, 0, 0, true, []⟩ = X1 at *
    have Y1 := Lib.hid Y1
    have V1 := Lib.hid V1
    have HM3 := Lib.hid hM3
    have HB3 := Lib.hid hB3
    have HE3 := Lib.hid hE3
    clear hM3 hB3 hE3 W1
    refine (Y1.out _ HE3.out).mono ?_
    rintro e w4 ⟨A4, n4, c4, rfl, hn4, hr4, hb4⟩
    have hM4 := HM3.out.next hb4
    have x0 : w4.cell? ⟨w1.heap.size, 0, none⟩ = _ := hM4.cell 0
    have x1 : w4.cell? ⟨w1.heap.size, 1, none⟩ = _ := hM4.cell 1
    have x2 : w4.cell? ⟨w1.heap.size, 2, none⟩ = _ := hM4.cell 2
    have x3 : w4.cell? ⟨w1.heap.size, 3, none⟩ = _ := hM4.cell 3
    have x4 : w4.cell? ⟨w1.heap.size, 4, none⟩ = _ := hM4.cell 4
    have x5 : w4.cell? ⟨w1.heap.size, 5, none⟩ = _ := hM4.cell 5
    have x6 : w4.cell? ⟨w1.heap.size, 6, none⟩ = _ := hM4.cell 6
    have x7 : w4.cell? ⟨w1.heap.size, 7, none⟩ = _ := hM4.cell 7
    have x8 : w4.cell? ⟨w1.heap.size, 8, none⟩ = _ := hM4.cell 8
    have HB4 := Lib.hid (below_next HB3.out hb4)
    have HE4 := Lib.hid (HE3.out.below hb4)
    clear hn4 hr4 hb4 hM4
    go_wp2_with (go_at_call 13; refine (V1.out _ HE4.out).mono ?_; rintro e w5 ⟨rfl, hb5⟩)
    go_ret
    exact ⟨rfl, below_next HB4.out hb5⟩
  · have N3 := N2.out
    rw [hq] at N3
    clear hq N2
    have hM2 := HM2.out
    have f8 : w2.frozen? ⟨w1.heap.size, 8, none⟩ = false := hM2.frozen 8
    have x0 : w2.cell? ⟨w1.heap.size, 0, none⟩ = _ := hM2.cell 0
    have x1 : w2.cell? ⟨w1.heap.size, 1, none⟩ = _ := hM2.cell 1
    have x2 : w2.cell? ⟨w1.heap.size, 2, none⟩ = _ := hM2.cell 2
    have x3 : w2.cell? ⟨w1.heap.size, 3, none⟩ = _ := hM2.cell 3
    have x4 : w2.cell? ⟨w1.heap.size, 4, none⟩ = _ := hM2.cell 4
    have x5 : w2.cell? ⟨w1.heap.size, 5, none⟩ = _ := hM2.cell 5
    have x6 : w2.cell? ⟨w1.heap.size, 6, none⟩ = _ := hM2.cell 6
    have x7 : w2.cell? ⟨w1.heap.size, 7, none⟩ = _ := hM2.cell 7
    have x8 : w2.cell? ⟨w1.heap.size, 8, none⟩ = _ := hM2.cell 8
    have hm1 : w1.heap.size ≠ w2.heap.size := by omega
    have hm1' := hm1.symm
    have hm2 : w1.heap.size ≠ w2.heap.size + 1 := by omega
    have hm2' := hm2.symm
    clear hM2
    go_wp2_with (go_at_call 20; refine (N3 _).mono ?_; rintro e wb ⟨rfl, rfl⟩)
    clear f8 x0 x1 x2 x3 x4 x5 x6 x7 x8
    have hM3 : Blk (((w2.setCell ⟨w1.heap.size, 8, none⟩ (.slice (some ⟨w2.heap.size + 1, 0, none⟩) 2 2)).alloc (.cells #[.int .i64 10, .int .i64 20, .int .i64 18, .int .i64 14, .int .i64 12] 3)).alloc (.cells #[.int .u32 1, .int .u32 2] 23)) w1.heap.size 28 #[.int .i64 5, .int .u32 5, .int .u32 0, .int .u32 0, .int .u32 G, .int .i64 0, .int .i64 0, .bool false, .slice (some ⟨w2.heap.size + 1, 0, none⟩) 2 2] := ((HM2.out.set_to 8 _ rfl).alloc (.cells #[.int .i64 10, .int .i64 20, .int .i64 18, .int .i64 14, .int .i64 12] 3)).alloc (.cells #[.int .u32 1, .int .u32 2] 23)
    have hB3 : Below w.heap.size w (((w2.setCell ⟨w1.heap.size, 8, none⟩ (.slice (some ⟨w2.heap.size + 1, 0, none⟩) 2 2)).alloc (.cells #[.int .i64 10, .int .i64 20, .int .i64 18, .int .i64 14, .int .i64 12] 3)).alloc (.cells #[.int .u32 1, .int .u32 2] 23)) := ((HB2.out.setCell HB1.out.size _).alloc (by have := HB2.out.size; simp; omega) _).alloc (by have := HB2.out.size; simp; omega) _
    have hA3 : AR (((w2.setCell ⟨w1.heap.size, 8, none⟩ (.slice (some ⟨w2.heap.size + 1, 0, none⟩) 2 2)).alloc (.cells #[.int .i64 10, .int .i64 20, .int .i64 18, .int .i64 14, .int .i64 12] 3)).alloc (.cells #[.int .u32 1, .int .u32 2] 23)) (some ⟨w2.heap.size + 1, 0, none⟩) 2 [1, 2] := AR_lit [1, 2] ZL2 _ (by rfl) (w2.heap.size + 1) 2 (by simp) rfl
    have hE3 := HE.out.below hB3
    generalize ((w2.setCell ⟨w1.heap.size, 8, none⟩ (.slice (some ⟨w2.heap.size + 1, 0, none⟩) 2 2)).alloc (.cells #[.int .i64 10, .int .i64 20, .int .i64 18, .int .i64 14, .int .i64 12] 3)).alloc (.cells #[.int .u32 1, .int .u32 2] 23) = W3 at *
    have HA3 := Lib.hid hA3
    clear hA3
    have W1 : wfm ⟨5, 5, 0, 0, G, 0, 0, false, [1, 2]⟩ := ⟨Z5, Z, Z, HGA.out, ZL2⟩
    have Y1 := fun W (hWW : Below W3.heap.size W3 W) hEW => wbytes_gen er ⟨5, 5, 0, 0, G, 0, 0, false, [1, 2]⟩ (some ⟨w2.heap.size + 1, 0, none⟩) 2 2 W hEW W1 (HA3.out.next hWW)
    have V1 := fun W (hWW : Below W3.heap.size W3 W) hEW => valid_any er ⟨5, 5, 0, 0, G, 0, 0, false, [1, 2]⟩ (some ⟨w2.heap.size + 1, 0, none⟩) 2 2 W hEW W1 (HA3.out.next hWW)
    rw [D5.out, HEK.out] at Y1 V1
    unfold mv at Y1 V1
    unfold ev at Y1 V1
    generalize mbx ⟨5, 5, 0, 0, G, 0, 0, false, [1, 2]⟩ = X1 at *
    have Y1 := Lib.hid Y1
    have V1 := Lib.hid V1
    have HM3 := Lib.hid hM3
    have HB3 := Lib.hid hB3
    have HE3 := Lib.hid hE3
    clear hM3 hB3 hE3 W1
    refine (Y1.out _ (Below.refl _ _) HE3.out).mono ?_
    rintro e w4 ⟨A4, n4, c4, rfl, hn4, hr4, hb4⟩
    have hM4 := HM3.out.next hb4
    have x0 : w4.cell? ⟨w1.heap.size, 0, none⟩ = _ := hM4.cell 0
    have x1 : w4.cell? ⟨w1.heap.size, 1, none⟩ = _ := hM4.cell 1
    have x2 : w4.cell? ⟨w1.heap.size, 2, none⟩ = _ := hM4.cell 2
    have x3 : w4.cell? ⟨w1.heap.size, 3, none⟩ = _ := hM4.cell 3
    have x4 : w4.cell? ⟨w1.heap.size, 4, none⟩ = _ := hM4.cell 4
    have x5 : w4.cell? ⟨w1.heap.size, 5, none⟩ = _ := hM4.cell 5
    have x6 : w4.cell? ⟨w1.heap.size, 6, none⟩ = _ := hM4.cell 6
    have x7 : w4.cell? ⟨w1.heap.size, 7, none⟩ = _ := hM4.cell 7
    have x8 : w4.cell? ⟨w1.heap.size, 8, none⟩ = _ := hM4.cell 8
    have HB4 := Lib.hid (below_next HB3.out hb4)
    have HE4 := Lib.hid (HE3.out.below hb4)
    have HW4 := Lib.hid hb4
    clear hn4 hr4 hb4 hM4
    go_wp2_with (go_at_call 13; refine (V1.out _ HW4.out HE4.out).mono ?_; rintro e w5 ⟨rfl, hb5⟩)
    go_ret
    exact ⟨rfl, below_next HB4.out hb5⟩
end Go.Proofs.YtfcfnfofihpegaaDoor
