/- Contract of the document's own MsgBytes, over the seat's program. -/
import Derived.Test.YtfcfnfofihpegaaDoorBref
import Derived.Test.YtfcfnfofihpegaaDoorW7
namespace Go.Proofs.YtfcfnfofihpegaaDoor
open Go.RowKit Sm
def rbytesOf (xs : List Int) (w : World) (e : Ending) (w' : World) : Prop := ∃ A n c, e = .returned (.slice A n c) ∧ BR w' A n xs ∧ n ≤ c ∧ Below w.heap.size w w'
def Grows (w : World) (v : Value) (n : Nat) (xs : List Int) : Prop := ∃ A' c', v = .slice A' n c' ∧ BR w A' n xs
section
variable (f t s g r c : Int) (o : Bool) (l : List Int) (A : Option Addr) (n c' : Nat) (w : World)
set_option maxHeartbeats 8000000 in
theorem rmb_1 (hw : wfm ⟨1, f, t, s, g, r, c, o, l⟩) (hc : mcode ⟨1, f, t, s, g, r, c, o, l⟩ = 0) :
    Calls Tryd.prog 17 #[mv ⟨1, f, t, s, g, r, c, o, l⟩ A n c'] w (rbytesOf (mbs ⟨1, f, t, s, g, r, c, o, l⟩) w) := by
  have hB : Below w.heap.size w (w.alloc (.cells #[.int .i64 1, .int .u32 f, .int .u32 t, .int .u32 s, .int .u32 g, .int .i64 r, .int .i64 c, .bool o, .slice A n c'] 28)) := (Below.refl _ _).alloc (Nat.le_refl _) _
  have hblk := Blk.new w 28 #[.int .i64 1, .int .u32 f, .int .u32 t, .int .u32 s, .int .u32 g, .int .i64 r, .int .i64 c, .bool o, .slice A n c']
  have HX := Lib.hid (mraw_b hw hc)
  obtain ⟨k1, k2, k3, k4, k5, k6, k7, k8⟩ := mcode_ok hc
  replace k4 : 0 ≤ r := k4
  replace k5 : r ≤ 65535 := k5
  replace k6 : 0 ≤ c := k6
  replace k7 : c ≤ 65535 := k7
  replace k3 : l.length ≤ 4 := k3
  have hf : isA f := hw.1
  have hlen : (mbs ⟨1, f, t, s, g, r, c, o, l⟩).length = _ := (mbs_len _).trans (mraw_len _)
  have HLEN := Lib.hid hlen
  have Hf := Lib.hid hf
  have HK := Lib.hid (show (0 ≤ r ∧ r ≤ 65535) ∧ 0 ≤ c ∧ c ≤ 65535 from ⟨⟨k4, k5⟩, k6, k7⟩)
  unfold mv
  clear hw hc k1 k2 k3 k4 k5 k6 k7 k8 hlen hf
  go_enter Tryd.func17, Tryd.ntmps17
  go_wp2_with fail
  generalize hW0 : w.alloc (.cells #[.int .i64 1, .int .u32 f, .int .u32 t, .int .u32 s, .int .u32 g, .int .i64 r, .int .i64 c, .bool o, .slice A n c'] 28) = W0 at *
  have q0 := fun W hW => keepc (w' := W) (w := W0) (hblk.cell 0) hW
  have q1 := fun W hW => keepc (w' := W) (w := W0) (hblk.cell 1) hW
  have q2 := fun W hW => keepc (w' := W) (w := W0) (hblk.cell 2) hW
  have q3 := fun W hW => keepc (w' := W) (w := W0) (hblk.cell 3) hW
  have q4 := fun W hW => keepc (w' := W) (w := W0) (hblk.cell 4) hW
  have q5 := fun W hW => keepc (w' := W) (w := W0) (hblk.cell 5) hW
  have q6 := fun W hW => keepc (w' := W) (w := W0) (hblk.cell 6) hW
  have q7 := fun W hW => keepc (w' := W) (w := W0) (hblk.cell 7) hW
  have q8 := fun W hW => keepc (w' := W) (w := W0) (hblk.cell 8) hW
  have HSZ := Lib.hid (show w.heap.size + 1 = W0.heap.size by rw [← hW0]; simp)
  have HB := Lib.hid hB
  clear hblk hB hW0
  have hbl : Below W0.heap.size W0 (W0.alloc (.cells #[.int .u8 33, .int .u8 0, .int .u8 0, .int .u8 0] 5)) := (Below.refl _ _).alloc (Nat.le_refl _) _
  have hib : IsB [33, 0, 0, 0] := by intro x hx; simp at hx; omega
  refine (four_any _ 4 4 [33, 0, 0, 0] f _ (BR_lit [33, 0, 0, 0] hib _ (by rfl) _ 4 HSZ.out (by rfl)) (by omega) Hf.out).mono ?_
  rintro e w2 ⟨A2, c2, rfl, hown2, hb2⟩
  have hX2 : IsB ([33, 0, 0, 0] ++ [f / 16777216, f / 65536 % 256, f / 256 % 256, f % 256]) := hib.append (isB4 Hf.out)
  have hr2 := (own_br hown2 hX2).1
  have hb2 := below_next hbl hb2
  have x0 := q0 _ hb2
  have x5 := q5 _ hb2
  clear hown2 hbl
  go_wp2_with fail
  refine (two_any _ 8 _ _ r _ hr2 (by omega) HK.out.1.1 HK.out.1.2).mono ?_
  rintro e w3 ⟨A3, c3, rfl, hown3, hb3⟩
  have hb3 := below_next hb2 hb3
  go_wp2_with fail
  have hX : [33, 0, 0, 0] ++ [f / 16777216, f / 65536 % 256, f / 256 % 256, f % 256] ++ [r / 256, r % 256] = mraw ⟨1, f, t, s, g, r, c, o, l⟩ := by simp [mraw, body, b4, b2]
  have hr3 := (own_br hown3 (by rw [hX]; exact HX.out)).1
  rw [hX] at hr3
  refine (rput_any _ 10 _ _ 2 _ hr3 (by omega)).mono ?_
  rintro e w9 ⟨A9, c9, rfl, hown9, hb9⟩
  have hr9 := own_br hown9 (put_b HX.out _)
  have hb10 := below_next HB.out (below_next hb3 hb9)
  go_wp2
  go_ret
  exact ⟨A9, _, c9, rfl, hr9.1, hr9.2, hb10⟩
set_option maxHeartbeats 8000000 in
theorem rmb_2 (hw : wfm ⟨2, f, t, s, g, r, c, o, l⟩) (hc : mcode ⟨2, f, t, s, g, r, c, o, l⟩ = 0) :
    Calls Tryd.prog 17 #[mv ⟨2, f, t, s, g, r, c, o, l⟩ A n c'] w (rbytesOf (mbs ⟨2, f, t, s, g, r, c, o, l⟩) w) := by
  have hB : Below w.heap.size w (w.alloc (.cells #[.int .i64 2, .int .u32 f, .int .u32 t, .int .u32 s, .int .u32 g, .int .i64 r, .int .i64 c, .bool o, .slice A n c'] 28)) := (Below.refl _ _).alloc (Nat.le_refl _) _
  have hblk := Blk.new w 28 #[.int .i64 2, .int .u32 f, .int .u32 t, .int .u32 s, .int .u32 g, .int .i64 r, .int .i64 c, .bool o, .slice A n c']
  have HX := Lib.hid (mraw_b hw hc)
  obtain ⟨k1, k2, k3, k4, k5, k6, k7, k8⟩ := mcode_ok hc
  replace k4 : 0 ≤ r := k4
  replace k5 : r ≤ 65535 := k5
  replace k6 : 0 ≤ c := k6
  replace k7 : c ≤ 65535 := k7
  replace k3 : l.length ≤ 4 := k3
  have hf : isA f := hw.1
  have ht : isA t := hw.2.1
  have hs : isA s := hw.2.2.1
  have hg : isA g := hw.2.2.2.1
  have hlen : (mbs ⟨2, f, t, s, g, r, c, o, l⟩).length = _ := (mbs_len _).trans (mraw_len _)
  have HLEN := Lib.hid hlen
  have Hf := Lib.hid hf
  have Ht := Lib.hid ht
  have Hs := Lib.hid hs
  have Hg := Lib.hid hg
  have HK := Lib.hid (show (0 ≤ r ∧ r ≤ 65535) ∧ 0 ≤ c ∧ c ≤ 65535 from ⟨⟨k4, k5⟩, k6, k7⟩)
  unfold mv
  clear hw hc k1 k2 k3 k4 k5 k6 k7 k8 hlen hf ht hs hg
  go_enter Tryd.func17, Tryd.ntmps17
  go_wp2_with fail
  generalize hW0 : w.alloc (.cells #[.int .i64 2, .int .u32 f, .int .u32 t, .int .u32 s, .int .u32 g, .int .i64 r, .int .i64 c, .bool o, .slice A n c'] 28) = W0 at *
  have q0 := fun W hW => keepc (w' := W) (w := W0) (hblk.cell 0) hW
  have q1 := fun W hW => keepc (w' := W) (w := W0) (hblk.cell 1) hW
  have q2 := fun W hW => keepc (w' := W) (w := W0) (hblk.cell 2) hW
  have q3 := fun W hW => keepc (w' := W) (w := W0) (hblk.cell 3) hW
  have q4 := fun W hW => keepc (w' := W) (w := W0) (hblk.cell 4) hW
  have q5 := fun W hW => keepc (w' := W) (w := W0) (hblk.cell 5) hW
  have q6 := fun W hW => keepc (w' := W) (w := W0) (hblk.cell 6) hW
  have q7 := fun W hW => keepc (w' := W) (w := W0) (hblk.cell 7) hW
  have q8 := fun W hW => keepc (w' := W) (w := W0) (hblk.cell 8) hW
  have HSZ := Lib.hid (show w.heap.size + 1 = W0.heap.size by rw [← hW0]; simp)
  have HB := Lib.hid hB
  clear hblk hB hW0
  have hbl : Below W0.heap.size W0 (W0.alloc (.cells #[.int .u8 34, .int .u8 0, .int .u8 0, .int .u8 0] 5)) := (Below.refl _ _).alloc (Nat.le_refl _) _
  have hib : IsB [34, 0, 0, 0] := by intro x hx; simp at hx; omega
  refine (four_any _ 4 4 [34, 0, 0, 0] f _ (BR_lit [34, 0, 0, 0] hib _ (by rfl) _ 4 HSZ.out (by rfl)) (by omega) Hf.out).mono ?_
  rintro e w2 ⟨A2, c2, rfl, hown2, hb2⟩
  have hX2 : IsB ([34, 0, 0, 0] ++ [f / 16777216, f / 65536 % 256, f / 256 % 256, f % 256]) := hib.append (isB4 Hf.out)
  have hr2 := (own_br hown2 hX2).1
  have hb2 := below_next hbl hb2
  have x0 := q0 _ hb2
  clear hown2 hbl
  go_wp2_with fail
  have d2 := fun W (hW : Below w2.heap.size w2 W) => q2 W (below_next hb2 hW)
  have d3 := fun W (hW : Below w2.heap.size w2 W) => q3 W (below_next hb2 hW)
  have d4 := fun W (hW : Below w2.heap.size w2 W) => q4 W (below_next hb2 hW)
  have d6 := fun W (hW : Below w2.heap.size w2 W) => q6 W (below_next hb2 hW)
  clear q0 q1 q2 q3 q4 q5 q6 q7 q8 x0
  have HB2 := Lib.hid hb2
  have HR2 := Lib.hid hr2
  have HX2 := Lib.hid hX2
  clear hb2 hr2 hX2 hib
  have ht := Ht.out
  have hs := Hs.out
  have hg := Hg.out
  have hk1 := HK.out.2.1
  have hk2 := HK.out.2.2
  skip
  go_region_held3 (fun w' => Below w2.heap.size w2 w')
    (first | with_reducible assumption | exact (Below.refl _ _).drew)
    (first
    | (go_at_call 38; refine (four_any _ _ _ _ _ _ (by first | with_reducible assumption | exact HR2.out.next (by with_reducible assumption)) (by omega) (by with_reducible assumption)).mono ?_; rintro e w3 ⟨A3, c3, rfl, hown3, hb3⟩; have hbr3 := (own_br hown3 (IsB.append (BR.isB (by first | with_reducible assumption | exact HR2.out)) (isB4 (by with_reducible assumption)))).1; have hb4 := below_next (by with_reducible assumption) hb3))
  have hb3 := below_next HB2.out hb4
  go_wp2_with fail
  have hX : [34, 0, 0, 0] ++ [f / 16777216, f / 65536 % 256, f / 256 % 256, f % 256] ++ [t / 16777216, t / 65536 % 256, t / 256 % 256, t % 256] ++ [s / 16777216, s / 65536 % 256, s / 256 % 256, s % 256] ++ [g / 16777216, g / 65536 % 256, g / 256 % 256, g % 256] = mraw ⟨2, f, t, s, g, r, c, o, l⟩ := by simp [mraw, body, b4]
  have hr3 := hbr3
  rw [hX] at hr3
  refine (rput_any _ 20 _ _ 2 _ hr3 (by omega)).mono ?_
  rintro e w9 ⟨A9, c9, rfl, hown9, hb9⟩
  have hr9 := own_br hown9 (put_b HX.out _)
  have hb10 := below_next HB.out (below_next hb3 hb9)
  go_wp2
  go_ret
  exact ⟨A9, _, c9, rfl, hr9.1, hr9.2, hb10⟩
set_option maxHeartbeats 8000000 in
theorem rmb_3 (hw : wfm ⟨3, f, t, s, g, r, c, o, l⟩) (hc : mcode ⟨3, f, t, s, g, r, c, o, l⟩ = 0) :
    Calls Tryd.prog 17 #[mv ⟨3, f, t, s, g, r, c, o, l⟩ A n c'] w (rbytesOf (mbs ⟨3, f, t, s, g, r, c, o, l⟩) w) := by
  have hB : Below w.heap.size w (w.alloc (.cells #[.int .i64 3, .int .u32 f, .int .u32 t, .int .u32 s, .int .u32 g, .int .i64 r, .int .i64 c, .bool o, .slice A n c'] 28)) := (Below.refl _ _).alloc (Nat.le_refl _) _
  have hblk := Blk.new w 28 #[.int .i64 3, .int .u32 f, .int .u32 t, .int .u32 s, .int .u32 g, .int .i64 r, .int .i64 c, .bool o, .slice A n c']
  have HX := Lib.hid (mraw_b hw hc)
  obtain ⟨k1, k2, k3, k4, k5, k6, k7, k8⟩ := mcode_ok hc
  replace k4 : 0 ≤ r := k4
  replace k5 : r ≤ 65535 := k5
  replace k6 : 0 ≤ c := k6
  replace k7 : c ≤ 65535 := k7
  replace k3 : l.length ≤ 4 := k3
  have hf : isA f := hw.1
  have hs : isA s := hw.2.2.1
  have hg : isA g := hw.2.2.2.1
  have hlen : (mbs ⟨3, f, t, s, g, r, c, o, l⟩).length = _ := (mbs_len _).trans (mraw_len _)
  have HLEN := Lib.hid hlen
  have Hf := Lib.hid hf
  have Hs := Lib.hid hs
  have Hg := Lib.hid hg
  have HK := Lib.hid (show (0 ≤ r ∧ r ≤ 65535) ∧ 0 ≤ c ∧ c ≤ 65535 from ⟨⟨k4, k5⟩, k6, k7⟩)
  unfold mv
  clear hw hc k1 k2 k3 k4 k5 k6 k7 k8 hlen hf hs hg
  go_enter Tryd.func17, Tryd.ntmps17
  go_wp2_with fail
  generalize hW0 : w.alloc (.cells #[.int .i64 3, .int .u32 f, .int .u32 t, .int .u32 s, .int .u32 g, .int .i64 r, .int .i64 c, .bool o, .slice A n c'] 28) = W0 at *
  have q0 := fun W hW => keepc (w' := W) (w := W0) (hblk.cell 0) hW
  have q1 := fun W hW => keepc (w' := W) (w := W0) (hblk.cell 1) hW
  have q2 := fun W hW => keepc (w' := W) (w := W0) (hblk.cell 2) hW
  have q3 := fun W hW => keepc (w' := W) (w := W0) (hblk.cell 3) hW
  have q4 := fun W hW => keepc (w' := W) (w := W0) (hblk.cell 4) hW
  have q5 := fun W hW => keepc (w' := W) (w := W0) (hblk.cell 5) hW
  have q6 := fun W hW => keepc (w' := W) (w := W0) (hblk.cell 6) hW
  have q7 := fun W hW => keepc (w' := W) (w := W0) (hblk.cell 7) hW
  have q8 := fun W hW => keepc (w' := W) (w := W0) (hblk.cell 8) hW
  have HSZ := Lib.hid (show w.heap.size + 1 = W0.heap.size by rw [← hW0]; simp)
  have HB := Lib.hid hB
  clear hblk hB hW0
  have hbl : Below W0.heap.size W0 (W0.alloc (.cells #[.int .u8 35, .int .u8 0, .int .u8 0, .int .u8 0] 5)) := (Below.refl _ _).alloc (Nat.le_refl _) _
  have hib : IsB [35, 0, 0, 0] := by intro x hx; simp at hx; omega
  refine (four_any _ 4 4 [35, 0, 0, 0] f _ (BR_lit [35, 0, 0, 0] hib _ (by rfl) _ 4 HSZ.out (by rfl)) (by omega) Hf.out).mono ?_
  rintro e w2 ⟨A2, c2, rfl, hown2, hb2⟩
  have hX2 : IsB ([35, 0, 0, 0] ++ [f / 16777216, f / 65536 % 256, f / 256 % 256, f % 256]) := hib.append (isB4 Hf.out)
  have hr2 := (own_br hown2 hX2).1
  have hb2 := below_next hbl hb2
  have x0 := q0 _ hb2
  clear hown2 hbl
  go_wp2_with fail
  have d2 := fun W (hW : Below w2.heap.size w2 W) => q2 W (below_next hb2 hW)
  have d3 := fun W (hW : Below w2.heap.size w2 W) => q3 W (below_next hb2 hW)
  have d4 := fun W (hW : Below w2.heap.size w2 W) => q4 W (below_next hb2 hW)
  have d6 := fun W (hW : Below w2.heap.size w2 W) => q6 W (below_next hb2 hW)
  clear q0 q1 q2 q3 q4 q5 q6 q7 q8 x0
  have HB2 := Lib.hid hb2
  have HR2 := Lib.hid hr2
  have HX2 := Lib.hid hX2
  clear hb2 hr2 hX2 hib
  have hs := Hs.out
  have hg := Hg.out
  have hk1 := HK.out.2.1
  have hk2 := HK.out.2.2
  skip
  go_region_held3 (fun w' => Below w2.heap.size w2 w')
    (first | with_reducible assumption | exact (Below.refl _ _).drew)
    (first
    | (go_at_call 38; refine (four_any _ _ _ _ _ _ (by first | with_reducible assumption | exact HR2.out.next (by with_reducible assumption)) (by omega) (by with_reducible assumption)).mono ?_; rintro e w3 ⟨A3, c3, rfl, hown3, hb3⟩; have hbr3 := (own_br hown3 (IsB.append (BR.isB (by first | with_reducible assumption | exact HR2.out)) (isB4 (by with_reducible assumption)))).1; have hb4 := below_next (by with_reducible assumption) hb3)
    | (go_at_call 39; refine (two_any _ _ _ _ _ _ (by with_reducible assumption) (by omega) (by with_reducible assumption) (by with_reducible assumption)).mono ?_; rintro e w3 ⟨A3, c3, rfl, hown3, hb3⟩; have hbr3 := (own_br hown3 (IsB.append (BR.isB (by with_reducible assumption)) (isB2 (by omega) (by omega)))).1; have hb4 := below_next (by with_reducible assumption) hb3))
  have hb3 := below_next HB2.out hb4
  go_wp2_with fail
  have hX : [35, 0, 0, 0] ++ [f / 16777216, f / 65536 % 256, f / 256 % 256, f % 256] ++ [s / 16777216, s / 65536 % 256, s / 256 % 256, s % 256] ++ [g / 16777216, g / 65536 % 256, g / 256 % 256, g % 256] ++ [c / 256, c % 256] = mraw ⟨3, f, t, s, g, r, c, o, l⟩ := by simp [mraw, body, b4, b2]
  have hr3 := hbr3
  rw [hX] at hr3
  refine (rput_any _ 18 _ _ 2 _ hr3 (by omega)).mono ?_
  rintro e w9 ⟨A9, c9, rfl, hown9, hb9⟩
  have hr9 := own_br hown9 (put_b HX.out _)
  have hb10 := below_next HB.out (below_next hb3 hb9)
  go_wp2
  go_ret
  exact ⟨A9, _, c9, rfl, hr9.1, hr9.2, hb10⟩
set_option maxHeartbeats 8000000 in
theorem rmb_4 (hw : wfm ⟨4, f, t, s, g, r, c, o, l⟩) (hA : AR w A n l) (hc : mcode ⟨4, f, t, s, g, r, c, o, l⟩ = 0) :
    Calls Tryd.prog 17 #[mv ⟨4, f, t, s, g, r, c, o, l⟩ A n c'] w (rbytesOf (mbs ⟨4, f, t, s, g, r, c, o, l⟩) w) := by
  have hB : Below w.heap.size w (w.alloc (.cells #[.int .i64 4, .int .u32 f, .int .u32 t, .int .u32 s, .int .u32 g, .int .i64 r, .int .i64 c, .bool o, .slice A n c'] 28)) := (Below.refl _ _).alloc (Nat.le_refl _) _
  have hblk := Blk.new w 28 #[.int .i64 4, .int .u32 f, .int .u32 t, .int .u32 s, .int .u32 g, .int .i64 r, .int .i64 c, .bool o, .slice A n c']
  have HX := Lib.hid (mraw_b hw hc)
  obtain ⟨k1, k2, k3, k4, k5, k6, k7, k8⟩ := mcode_ok hc
  replace k4 : 0 ≤ r := k4
  replace k5 : r ≤ 65535 := k5
  replace k6 : 0 ≤ c := k6
  replace k7 : c ≤ 65535 := k7
  replace k3 : l.length ≤ 4 := k3
  have hf : isA f := hw.1
  have hg : isA g := hw.2.2.2.1
  have hlen : (mbs ⟨4, f, t, s, g, r, c, o, l⟩).length = _ := (mbs_len _).trans (mraw_len _)
  have HLEN := Lib.hid hlen
  have hln := hA.len
  have hn4 : n ≤ 4 := by omega
  have HA := Lib.hid (hA.next hB)
  have HLN := Lib.hid hln
  have Hf := Lib.hid hf
  have Hg := Lib.hid hg
  have HK := Lib.hid (show (0 ≤ r ∧ r ≤ 65535) ∧ 0 ≤ c ∧ c ≤ 65535 from ⟨⟨k4, k5⟩, k6, k7⟩)
  unfold mv
  clear hw hA hc k1 k2 k3 k4 k5 k6 k7 k8 hlen hf hg hln
  go_enter Tryd.func17, Tryd.ntmps17
  go_wp2_with fail
  generalize hW0 : w.alloc (.cells #[.int .i64 4, .int .u32 f, .int .u32 t, .int .u32 s, .int .u32 g, .int .i64 r, .int .i64 c, .bool o, .slice A n c'] 28) = W0 at *
  have q0 := fun W hW => keepc (w' := W) (w := W0) (hblk.cell 0) hW
  have q1 := fun W hW => keepc (w' := W) (w := W0) (hblk.cell 1) hW
  have q2 := fun W hW => keepc (w' := W) (w := W0) (hblk.cell 2) hW
  have q3 := fun W hW => keepc (w' := W) (w := W0) (hblk.cell 3) hW
  have q4 := fun W hW => keepc (w' := W) (w := W0) (hblk.cell 4) hW
  have q5 := fun W hW => keepc (w' := W) (w := W0) (hblk.cell 5) hW
  have q6 := fun W hW => keepc (w' := W) (w := W0) (hblk.cell 6) hW
  have q7 := fun W hW => keepc (w' := W) (w := W0) (hblk.cell 7) hW
  have q8 := fun W hW => keepc (w' := W) (w := W0) (hblk.cell 8) hW
  have HSZ := Lib.hid (show w.heap.size + 1 = W0.heap.size by rw [← hW0]; simp)
  have HB := Lib.hid hB
  clear hblk hB hW0
  have hbl : Below W0.heap.size W0 (W0.alloc (.cells #[.int .u8 36, .int .u8 0, .int .u8 0, .int .u8 0] 5)) := (Below.refl _ _).alloc (Nat.le_refl _) _
  have hib : IsB [36, 0, 0, 0] := by intro x hx; simp at hx; omega
  refine (four_any _ 4 4 [36, 0, 0, 0] f _ (BR_lit [36, 0, 0, 0] hib _ (by rfl) _ 4 HSZ.out (by rfl)) (by omega) Hf.out).mono ?_
  rintro e w2 ⟨A2, c2, rfl, hown2, hb2⟩
  have hX2 : IsB ([36, 0, 0, 0] ++ [f / 16777216, f / 65536 % 256, f / 256 % 256, f % 256]) := hib.append (isB4 Hf.out)
  have hr2 := (own_br hown2 hX2).1
  have hb2 := below_next hbl hb2
  have x0 := q0 _ hb2
  have x4 := q4 _ hb2
  clear hown2 hbl
  go_wp2_with fail
  refine (four_any _ 8 _ _ g _ hr2 (by omega) Hg.out).mono ?_
  rintro e w3 ⟨A3, c3, rfl, hown3, hb3⟩
  have hX3 := hX2.append (isB4 Hg.out)
  have hown3 := own_up hown3 hb2.size
  have hb3 := below_next hb2 hb3
  have hsz3 := hb3.size
  have hx3 := own_slicea hown3
  have x7 := q7 _ hb3
  have x8 := q8 _ hb3
  have hfo : IsB [(if o = true then (1 : Int) else 0), (n : Int)] := by
    intro x hx; simp only [List.mem_cons, List.not_mem_nil, or_false] at hx
    rcases hx with rfl | rfl
    · cases o <;> simp
    · omega
  have hnb : IntKind.u8.wrap (n : Int) = (n : Int) := by simp [IntKind.wrap, IntKind.bits, IntKind.signed]; omega
  obtain ⟨i0, hi, hz0, hz1, hz2⟩ := info_parts info_u8
  have HOW := Lib.hid hown3
  have HX3 := Lib.hid hX3
  have HFO := Lib.hid hfo
  have HB3 := Lib.hid hb3
  clear hown3 hX3 hfo hx3 hb2 hr2 hX2 hib
  have HP : Hid (∀ o' : Int, o' = (if o = true then 1 else 0) → True) := Lib.hid (fun _ _ => trivial)
  clear HP
  cases o
  · skip
    have HFO : Hid (IsB [0, (n : Int)]) := HFO
    go_wp2_with (at_builtin; refine wpList_append_br rfl _ _ 29 rfl W0.heap.size 5 i0 Tryd.underlying29 hi hz0 hz1 hz2 _ 12 _ rfl (HOW.out.alloc _) _ 2 2 [0, (n : Int)] rfl (BR_lit [0, (n : Int)] HFO.out _ (by rfl) _ 2 (by simp) (by rfl)) (by omega) (by omega) (by simp; omega) ?_; intro v4 w4 hown4 hb4)
    obtain ⟨A4, c4, rfl⟩ := own_slicea hown4
    have hr4 := (own_br hown4 (HX3.out.append HFO.out)).1
    have hb4 := (HB3.out.alloc HB3.out.size (.cells #[.int .u8 0, .int .u8 (n : Int)] 5)).trans hb4
    have HB4 := Lib.hid hb4
    have HR4 := Lib.hid hr4
    have HX4 := Lib.hid (HX3.out.append HFO.out)
    generalize hPP : [36, 0, 0, 0] ++ [f / 16777216, f / 65536 % 256, f / 256 % 256, f % 256] ++ [g / 16777216, g / 65536 % 256, g / 256 % 256, g % 256] ++ [0, (n : Int)] = PP at *
    have HPP := Lib.hid hPP
    clear hb4 hr4 hown4 x7 x8 hPP HOW
    go_loopw [3, 5] (fun v i wr => ∃ j : Nat, j ≤ n ∧ i = .int .i64 j ∧ Grows wr v (14 + 4 * j) (PP ++ flat (l.take j)) ∧ Below W0.heap.size W0 wr) (fun _ i _ => n - (intOf i).toNat)
    case atStart => exact ⟨0, Nat.zero_le _, rfl, ⟨_, _, rfl, by simpa [flat] using HR4.out⟩, HB4.out⟩
    case round =>
      obtain ⟨j, hj, rfl, ⟨A5, c5, rfl, hr5⟩, hbw⟩ := hrel
      clear HR4 HB4
      have y8 := q8 _ hbw
      rcases Nat.lt_or_ge j n with hlt | hge
      · obtain ⟨bb, oo, rfl, _, hca⟩ := (HA.out.next hbw).at_ hlt
        have hia := IsAs.at_ HA.out.isAs j
        have HFT := Lib.hid (flat_take l j (by have := HLN.out; omega))
        have hi0 : (j : Int) < n := by omega
        have HIA := Lib.hid hia
        have HR5 := Lib.hid hr5
        have HBW := Lib.hid hbw
        clear hr5 hbw hia q0 q1 q2 q3 q4 q5 q6 q7
        generalize l.getD j 0 = u at *
        generalize flat (l.take j) = Q at *
        go_wp2_with fail
        refine (four_any _ (14 + 4 * j) _ _ u _ HR5.out (by omega) HIA.out).mono ?_
        rintro e w6 ⟨A6, c6, rfl, hown6, hb6⟩
        have hr6 := (own_br hown6 (HR5.out.isB.append (isB4 HIA.out))).1
        have HR6 := Lib.hid hr6
        have HB6 := Lib.hid (below_next HBW.out hb6)
        clear hown6 hb6 hr6
        go_wp2
        go_roundw
        case rel => exact ⟨_, _, _, _, _, _, _, _, _, _, _, _, _, _, _, _, ⟨j + 1, by omega, rfl, ⟨A6, c6, rfl, by rw [HFT.out, ← List.append_assoc]; exact HR6.out⟩, HB6.out⟩, rfl⟩
        case measure => simp [intOf]; omega
      · obtain rfl : j = n := by omega
        rw [List.take_of_length_le (by have := HLN.out; omega)] at hr5
        have hX : PP ++ flat l = mraw ⟨4, f, t, s, g, r, c, false, l⟩ := by rw [← HPP.out, ← HLN.out]; simp [mraw, body, b4]
        rw [hX] at hr5
        have HBW := Lib.hid hbw
        clear hbw
        go_wp2_with fail
        refine (rput_any _ (14 + 4 * j) _ _ 2 _ hr5 (by omega)).mono ?_
        rintro e w9 ⟨A9, c9, rfl, hown9, hb9⟩
        have hr9 := own_br hown9 (put_b HX.out _)
        have hb10 := below_next HB.out (below_next HBW.out hb9)
        go_wp2
        go_ret
        exact ⟨A9, _, c9, rfl, hr9.1, hr9.2, hb10⟩
  · skip
    have HFO : Hid (IsB [1, (n : Int)]) := HFO
    go_wp2_with (at_builtin; refine wpList_append_br rfl _ _ 29 rfl W0.heap.size 5 i0 Tryd.underlying29 hi hz0 hz1 hz2 _ 12 _ rfl (HOW.out.alloc _) _ 2 2 [1, (n : Int)] rfl (BR_lit [1, (n : Int)] HFO.out _ (by rfl) _ 2 (by simp) (by rfl)) (by omega) (by omega) (by simp; omega) ?_; intro v4 w4 hown4 hb4)
    obtain ⟨A4, c4, rfl⟩ := own_slicea hown4
    have hr4 := (own_br hown4 (HX3.out.append HFO.out)).1
    have hb4 := (HB3.out.alloc HB3.out.size (.cells #[.int .u8 1, .int .u8 (n : Int)] 5)).trans hb4
    have HB4 := Lib.hid hb4
    have HR4 := Lib.hid hr4
    have HX4 := Lib.hid (HX3.out.append HFO.out)
    generalize hPP : [36, 0, 0, 0] ++ [f / 16777216, f / 65536 % 256, f / 256 % 256, f % 256] ++ [g / 16777216, g / 65536 % 256, g / 256 % 256, g % 256] ++ [1, (n : Int)] = PP at *
    have HPP := Lib.hid hPP
    clear hb4 hr4 hown4 x7 x8 hPP HOW
    go_loopw [3, 5] (fun v i wr => ∃ j : Nat, j ≤ n ∧ i = .int .i64 j ∧ Grows wr v (14 + 4 * j) (PP ++ flat (l.take j)) ∧ Below W0.heap.size W0 wr) (fun _ i _ => n - (intOf i).toNat)
    case atStart => exact ⟨0, Nat.zero_le _, rfl, ⟨_, _, rfl, by simpa [flat] using HR4.out⟩, HB4.out⟩
    case round =>
      obtain ⟨j, hj, rfl, ⟨A5, c5, rfl, hr5⟩, hbw⟩ := hrel
      clear HR4 HB4
      have y8 := q8 _ hbw
      rcases Nat.lt_or_ge j n with hlt | hge
      · obtain ⟨bb, oo, rfl, _, hca⟩ := (HA.out.next hbw).at_ hlt
        have hia := IsAs.at_ HA.out.isAs j
        have HFT := Lib.hid (flat_take l j (by have := HLN.out; omega))
        have hi0 : (j : Int) < n := by omega
        have HIA := Lib.hid hia
        have HR5 := Lib.hid hr5
        have HBW := Lib.hid hbw
        clear hr5 hbw hia q0 q1 q2 q3 q4 q5 q6 q7
        generalize l.getD j 0 = u at *
        generalize flat (l.take j) = Q at *
        go_wp2_with fail
        refine (four_any _ (14 + 4 * j) _ _ u _ HR5.out (by omega) HIA.out).mono ?_
        rintro e w6 ⟨A6, c6, rfl, hown6, hb6⟩
        have hr6 := (own_br hown6 (HR5.out.isB.append (isB4 HIA.out))).1
        have HR6 := Lib.hid hr6
        have HB6 := Lib.hid (below_next HBW.out hb6)
        clear hown6 hb6 hr6
        go_wp2
        go_roundw
        case rel => exact ⟨_, _, _, _, _, _, _, _, _, _, _, _, _, _, _, _, ⟨j + 1, by omega, rfl, ⟨A6, c6, rfl, by rw [HFT.out, ← List.append_assoc]; exact HR6.out⟩, HB6.out⟩, rfl⟩
        case measure => simp [intOf]; omega
      · obtain rfl : j = n := by omega
        rw [List.take_of_length_le (by have := HLN.out; omega)] at hr5
        have hX : PP ++ flat l = mraw ⟨4, f, t, s, g, r, c, true, l⟩ := by rw [← HPP.out, ← HLN.out]; simp [mraw, body, b4]
        rw [hX] at hr5
        have HBW := Lib.hid hbw
        clear hbw
        go_wp2_with fail
        refine (rput_any _ (14 + 4 * j) _ _ 2 _ hr5 (by omega)).mono ?_
        rintro e w9 ⟨A9, c9, rfl, hown9, hb9⟩
        have hr9 := own_br hown9 (put_b HX.out _)
        have hb10 := below_next HB.out (below_next HBW.out hb9)
        go_wp2
        go_ret
        exact ⟨A9, _, c9, rfl, hr9.1, hr9.2, hb10⟩
set_option maxHeartbeats 8000000 in
theorem rmb_5 (hw : wfm ⟨5, f, t, s, g, r, c, o, l⟩) (hc : mcode ⟨5, f, t, s, g, r, c, o, l⟩ = 0) :
    Calls Tryd.prog 17 #[mv ⟨5, f, t, s, g, r, c, o, l⟩ A n c'] w (rbytesOf (mbs ⟨5, f, t, s, g, r, c, o, l⟩) w) := by
  have hB : Below w.heap.size w (w.alloc (.cells #[.int .i64 5, .int .u32 f, .int .u32 t, .int .u32 s, .int .u32 g, .int .i64 r, .int .i64 c, .bool o, .slice A n c'] 28)) := (Below.refl _ _).alloc (Nat.le_refl _) _
  have hblk := Blk.new w 28 #[.int .i64 5, .int .u32 f, .int .u32 t, .int .u32 s, .int .u32 g, .int .i64 r, .int .i64 c, .bool o, .slice A n c']
  have HX := Lib.hid (mraw_b hw hc)
  obtain ⟨k1, k2, k3, k4, k5, k6, k7, k8⟩ := mcode_ok hc
  replace k4 : 0 ≤ r := k4
  replace k5 : r ≤ 65535 := k5
  replace k6 : 0 ≤ c := k6
  replace k7 : c ≤ 65535 := k7
  replace k3 : l.length ≤ 4 := k3
  have hf : isA f := hw.1
  have hg : isA g := hw.2.2.2.1
  have hlen : (mbs ⟨5, f, t, s, g, r, c, o, l⟩).length = _ := (mbs_len _).trans (mraw_len _)
  have HLEN := Lib.hid hlen
  have Hf := Lib.hid hf
  have Hg := Lib.hid hg
  have HK := Lib.hid (show (0 ≤ r ∧ r ≤ 65535) ∧ 0 ≤ c ∧ c ≤ 65535 from ⟨⟨k4, k5⟩, k6, k7⟩)
  unfold mv
  clear hw hc k1 k2 k3 k4 k5 k6 k7 k8 hlen hf hg
  go_enter Tryd.func17, Tryd.ntmps17
  go_wp2_with fail
  generalize hW0 : w.alloc (.cells #[.int .i64 5, .int .u32 f, .int .u32 t, .int .u32 s, .int .u32 g, .int .i64 r, .int .i64 c, .bool o, .slice A n c'] 28) = W0 at *
  have q0 := fun W hW => keepc (w' := W) (w := W0) (hblk.cell 0) hW
  have q1 := fun W hW => keepc (w' := W) (w := W0) (hblk.cell 1) hW
  have q2 := fun W hW => keepc (w' := W) (w := W0) (hblk.cell 2) hW
  have q3 := fun W hW => keepc (w' := W) (w := W0) (hblk.cell 3) hW
  have q4 := fun W hW => keepc (w' := W) (w := W0) (hblk.cell 4) hW
  have q5 := fun W hW => keepc (w' := W) (w := W0) (hblk.cell 5) hW
  have q6 := fun W hW => keepc (w' := W) (w := W0) (hblk.cell 6) hW
  have q7 := fun W hW => keepc (w' := W) (w := W0) (hblk.cell 7) hW
  have q8 := fun W hW => keepc (w' := W) (w := W0) (hblk.cell 8) hW
  have HSZ := Lib.hid (show w.heap.size + 1 = W0.heap.size by rw [← hW0]; simp)
  have HB := Lib.hid hB
  clear hblk hB hW0
  have hbl : Below W0.heap.size W0 (W0.alloc (.cells #[.int .u8 37, .int .u8 0, .int .u8 0, .int .u8 0] 5)) := (Below.refl _ _).alloc (Nat.le_refl _) _
  have hib : IsB [37, 0, 0, 0] := by intro x hx; simp at hx; omega
  refine (four_any _ 4 4 [37, 0, 0, 0] f _ (BR_lit [37, 0, 0, 0] hib _ (by rfl) _ 4 HSZ.out (by rfl)) (by omega) Hf.out).mono ?_
  rintro e w2 ⟨A2, c2, rfl, hown2, hb2⟩
  have hX2 : IsB ([37, 0, 0, 0] ++ [f / 16777216, f / 65536 % 256, f / 256 % 256, f % 256]) := hib.append (isB4 Hf.out)
  have hr2 := (own_br hown2 hX2).1
  have hb2 := below_next hbl hb2
  have x0 := q0 _ hb2
  have x4 := q4 _ hb2
  clear hown2 hbl
  go_wp2_with fail
  refine (four_any _ 8 _ _ g _ hr2 (by omega) Hg.out).mono ?_
  rintro e w3 ⟨A3, c3, rfl, hown3, hb3⟩
  have hb3 := below_next hb2 hb3
  go_wp2_with fail
  have hX : [37, 0, 0, 0] ++ [f / 16777216, f / 65536 % 256, f / 256 % 256, f % 256] ++ [g / 16777216, g / 65536 % 256, g / 256 % 256, g % 256] = mraw ⟨5, f, t, s, g, r, c, o, l⟩ := by simp [mraw, body, b4]
  have hr3 := (own_br hown3 (by rw [hX]; exact HX.out)).1
  rw [hX] at hr3
  refine (rput_any _ 12 _ _ 2 _ hr3 (by omega)).mono ?_
  rintro e w9 ⟨A9, c9, rfl, hown9, hb9⟩
  have hr9 := own_br hown9 (put_b HX.out _)
  have hb10 := below_next HB.out (below_next hb3 hb9)
  go_wp2
  go_ret
  exact ⟨A9, _, c9, rfl, hr9.1, hr9.2, hb10⟩
end
theorem rmb_any (m : Ms) (A : Option Addr) (n c : Nat) (w : World) (hw : wfm m) (hA : AR w A n m.l) (hc : mcode m = 0) :
    Calls Tryd.prog 17 #[mv m A n c] w (rbytesOf (mbs m) w) := by
  obtain ⟨k, f, t, s, g, r, c', o, l⟩ := m
  have hk := mcode_ok hc
  have hK : k = 1 ∨ k = 2 ∨ k = 3 ∨ k = 4 ∨ k = 5 := by
    have h1 : 1 ≤ k := hk.1
    have h2 : k ≤ 5 := hk.2.1
    omega
  rcases hK with rfl | rfl | rfl | rfl | rfl
  · exact rmb_1 f t s g r c' o l A n c w hw hc
  · exact rmb_2 f t s g r c' o l A n c w hw hc
  · exact rmb_3 f t s g r c' o l A n c w hw hc
  · exact rmb_4 f t s g r c' o l A n c w hw hA hc
  · exact rmb_5 f t s g r c' o l A n c w hw hc
end Go.Proofs.YtfcfnfofihpegaaDoor
