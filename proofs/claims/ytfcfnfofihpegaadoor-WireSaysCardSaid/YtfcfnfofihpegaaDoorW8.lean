/- Contract of wire.Bytes, over the seat's program: what may not be. Condition: three errors of the project lie in their variables. -/
import Derived.Test.YtfcfnfofihpegaaDoorW5
import Derived.Test.YtfcfnfofihpegaaDoorW7
import Derived.Laws.OwnMore
namespace Go.Proofs.YtfcfnfofihpegaaDoor
open Go.RowKit Sm
set_option maxHeartbeats 2000000 in
theorem wbytes_no (er : Int → Value) (m : Ms) (A : Option Addr) (n c : Nat) (w : World) (hE : EnvV er w) (hw : wfm m) (hA : AR w A n m.l) (hc : mcode m ≠ 0) :
    Calls Tryd.prog 11 #[mv m A n c] w fun e w' => e = .returned (.tuple #[.slice none 0 0, er (mcode m)]) ∧ Below w.heap.size w w' := by
  obtain ⟨a, ha⟩ := hE.2.1 (mcode m) (by have := mcode_cases m; omega)
  have hB : Below w.heap.size w (w.alloc (.cells #[.int .i64 m.k, .int .u32 m.f, .int .u32 m.t, .int .u32 m.s, .int .u32 m.g, .int .i64 m.r, .int .i64 m.c, .bool m.o, .slice A n c] 28)) := (Below.refl _ _).alloc (Nat.le_refl _) _
  have HV := valid_any er m A n c _ (hE.below hB) hw (hA.next hB)
  rw [ha] at HV ⊢
  have HB := Lib.hid hB
  unfold mv ev at *
  clear hE hw hA hc ha hB
  go_enter Tryd.func11, Tryd.ntmps11
  go_wp2_with (go_at_call 13; refine HV.mono ?_; rintro e w1 ⟨rfl, hb⟩; have HB1 := Lib.hid (below_next HB.out hb); clear hb)
  go_ret2
  exact ⟨rfl, HB1.out⟩
def bytesOf (xs : List Int) (w : World) (e : Ending) (w' : World) : Prop := ∃ A' c', e = .returned (.tuple #[.slice A' xs.length c', .nilIface]) ∧ w'.ownsRow w.heap.size 5 1 (.slice A' xs.length c') xs.length (B8 xs) ∧ Below w.heap.size w w'
theorem safe_new (base : Nat) (w : World) (cs : Array Value) (H m : Nat) (h : H = w.heap.size) : Safe base (w.alloc (.cells cs 23)) (some ⟨H, 0, none⟩) m := by
  subst h
  intro _ b o e
  cases e
  exact .inr ⟨cs, Blk.new _ _ _⟩
theorem own_n {w : World} {base n k : Nat} {v : Value} {ys : List Value} (h : w.ownsRow base 5 1 v n ys) (e : n = k) : w.ownsRow base 5 1 v k ys := e ▸ h
section
variable (er : Int → Value) (f t s g r c : Int) (o : Bool) (l : List Int) (A : Option Addr) (n c' : Nat) (w : World)
set_option maxHeartbeats 4000000 in
theorem wb_1 (hE : EnvV er w) (hw : wfm ⟨1, f, t, s, g, r, c, o, l⟩) (hA : AR w A n l) (hc : mcode ⟨1, f, t, s, g, r, c, o, l⟩ = 0) :
    Calls Tryd.prog 11 #[mv ⟨1, f, t, s, g, r, c, o, l⟩ A n c'] w (bytesOf (mbs ⟨1, f, t, s, g, r, c, o, l⟩) w) := by
  have hB : Below w.heap.size w (w.alloc (.cells #[.int .i64 1, .int .u32 f, .int .u32 t, .int .u32 s, .int .u32 g, .int .i64 r, .int .i64 c, .bool o, .slice A n c'] 28)) := (Below.refl _ _).alloc (Nat.le_refl _) _
  have hblk := Blk.new w 28 #[.int .i64 1, .int .u32 f, .int .u32 t, .int .u32 s, .int .u32 g, .int .i64 r, .int .i64 c, .bool o, .slice A n c']
  have HV := valid_any er ⟨1, f, t, s, g, r, c, o, l⟩ A n c' _ (hE.below hB) hw (hA.next hB)
  rw [hc, hE.1] at HV
  have HX := Lib.hid (mraw_b hw hc)
  obtain ⟨k1, k2, k3, k4, k5, k6, k7, k8⟩ := mcode_ok hc
  replace k4 : 0 ≤ r := k4
  replace k5 : r ≤ 65535 := k5
  replace k6 : 0 ≤ c := k6
  replace k7 : c ≤ 65535 := k7
  replace k3 : l.length ≤ 4 := k3
  have Hf := Lib.hid hw.1
  unfold mv at *
  clear hE hw hA hc k1 k2 k3 k8 k6 k7
  go_enter Tryd.func11, Tryd.ntmps11
  go_wp2_with fail
  generalize hW0 : w.alloc (.cells #[.int .i64 1, .int .u32 f, .int .u32 t, .int .u32 s, .int .u32 g, .int .i64 r, .int .i64 c, .bool o, .slice A n c'] 28) = W0 at *
  have c0 := fun W hW => keepc (w' := W) (w := W0) (hblk.cell 0) hW
  have c1 := fun W hW => keepc (w' := W) (w := W0) (hblk.cell 1) hW
  have c5 := fun W hW => keepc (w' := W) (w := W0) (hblk.cell 5) hW
  have HB := Lib.hid hB
  have HZ := Lib.hid (show w.heap.size < W0.heap.size by rw [← hW0]; simp)
  clear hblk hB hW0
  refine HV.mono ?_
  rintro e w1 ⟨rfl, hb1⟩
  have x0 := c0 _ hb1
  have x1 := c1 _ hb1
  have hn1 : w.heap.size ≠ w1.heap.size := by have := hb1.size; have := HZ.out; omega
  have hn1' : w1.heap.size ≠ w.heap.size := hn1.symm
  have hn2 : w.heap.size < w1.heap.size := by have := hb1.size; have := HZ.out; omega
  go_wp2_with fail
  have hown1 : (w1.alloc (.cells #[.int .u8 33, .int .u8 0, .int .u8 0, .int .u8 0] 5)).ownsRow W0.heap.size 5 1 (.slice (some ⟨w1.heap.size, 0, none⟩) 4 4) 4 (B8 [33, 0, 0, 0]) := World.ownsRow_lit w1 #[.int .u8 33, .int .u8 0, .int .u8 0, .int .u8 0] 4 hb1.size (by unfold maxLen; omega) rfl
  have hbl := hb1.alloc hb1.size (.cells #[.int .u8 33, .int .u8 0, .int .u8 0, .int .u8 0] 5)
  refine (putAddrs_any W0.heap.size 4 _ _ _ 1 1 [f] _ (hown1.alloc _) (by omega) (by have := hbl.size; simp at this ⊢; omega) (AR_lit [f] (by have hf := Hf.out; intro x hx; simp at hx; rcases hx with rfl <;> assumption) _ (by rfl) _ 1 (by simp) rfl) (by omega) (safe_new _ _ _ _ _ (by simp))).mono ?_
  rintro e w2 ⟨A2, c2', rfl, hown2, hb2⟩
  have hb2 := (hbl.alloc hbl.size _).trans hb2
  have x0 := c0 _ hb2
  have x5 := c5 _ hb2
  have hn1 : w.heap.size ≠ w2.heap.size := by have := hb2.size; have := HZ.out; omega
  have hn1' : w2.heap.size ≠ w.heap.size := hn1.symm
  have hn2 : w.heap.size < w2.heap.size := by have := hb2.size; have := HZ.out; omega
  go_wp2_with fail
  refine (putNumber_any W0.heap.size 8 _ _ r _ hown2 (by omega) hb2.size k4 k5).mono ?_
  rintro e w3 ⟨A3, c3', rfl, hown3, hb3⟩
  have hb3 := hb2.trans hb3
  go_wp2_with fail
  have hX : [33, 0, 0, 0] ++ flat [f] ++ b2 r = mraw ⟨1, f, t, s, g, r, c, o, l⟩ := by simp [mraw, body, flat]
  rw [hX] at hown3
  have hlen : (mbs ⟨1, f, t, s, g, r, c, o, l⟩).length = 10 := by rw [mbs_len, mraw_len]; rfl
  refine (put_any A3 10 c3' (mraw ⟨1, f, t, s, g, r, c, o, l⟩) 2 _ (own_br hown3 HX.out).1 (by omega)).mono ?_
  rintro e w9 ⟨A9, c9, rfl, hown9, hb9⟩
  have hb10 := below_next HB.out (below_next hb3 hb9)
  go_wp2
  go_ret2
  exact ⟨A9, c9, by rw [hlen]; rfl, by rw [hlen]; exact own_up hown9 (by have := hb3.size; have := HZ.out; omega), hb10⟩
set_option maxHeartbeats 4000000 in
theorem wb_2 (hE : EnvV er w) (hw : wfm ⟨2, f, t, s, g, r, c, o, l⟩) (hA : AR w A n l) (hc : mcode ⟨2, f, t, s, g, r, c, o, l⟩ = 0) :
    Calls Tryd.prog 11 #[mv ⟨2, f, t, s, g, r, c, o, l⟩ A n c'] w (bytesOf (mbs ⟨2, f, t, s, g, r, c, o, l⟩) w) := by
  have hB : Below w.heap.size w (w.alloc (.cells #[.int .i64 2, .int .u32 f, .int .u32 t, .int .u32 s, .int .u32 g, .int .i64 r, .int .i64 c, .bool o, .slice A n c'] 28)) := (Below.refl _ _).alloc (Nat.le_refl _) _
  have hblk := Blk.new w 28 #[.int .i64 2, .int .u32 f, .int .u32 t, .int .u32 s, .int .u32 g, .int .i64 r, .int .i64 c, .bool o, .slice A n c']
  have HV := valid_any er ⟨2, f, t, s, g, r, c, o, l⟩ A n c' _ (hE.below hB) hw (hA.next hB)
  rw [hc, hE.1] at HV
  have HX := Lib.hid (mraw_b hw hc)
  obtain ⟨k1, k2, k3, k4, k5, k6, k7, k8⟩ := mcode_ok hc
  replace k4 : 0 ≤ r := k4
  replace k5 : r ≤ 65535 := k5
  replace k6 : 0 ≤ c := k6
  replace k7 : c ≤ 65535 := k7
  replace k3 : l.length ≤ 4 := k3
  have Hf := Lib.hid hw.1
  have Hg := Lib.hid hw.2.2.2.1
  have Hs := Lib.hid hw.2.2.1
  have Ht := Lib.hid hw.2.1
  unfold mv at *
  clear hE hw hA hc k1 k2 k3 k8 k6 k7 k4 k5
  go_enter Tryd.func11, Tryd.ntmps11
  go_wp2_with fail
  generalize hW0 : w.alloc (.cells #[.int .i64 2, .int .u32 f, .int .u32 t, .int .u32 s, .int .u32 g, .int .i64 r, .int .i64 c, .bool o, .slice A n c'] 28) = W0 at *
  have c0 := fun W hW => keepc (w' := W) (w := W0) (hblk.cell 0) hW
  have c1 := fun W hW => keepc (w' := W) (w := W0) (hblk.cell 1) hW
  have c4 := fun W hW => keepc (w' := W) (w := W0) (hblk.cell 4) hW
  have c3 := fun W hW => keepc (w' := W) (w := W0) (hblk.cell 3) hW
  have c2 := fun W hW => keepc (w' := W) (w := W0) (hblk.cell 2) hW
  have HB := Lib.hid hB
  have HZ := Lib.hid (show w.heap.size < W0.heap.size by rw [← hW0]; simp)
  clear hblk hB hW0
  refine HV.mono ?_
  rintro e w1 ⟨rfl, hb1⟩
  have x0 := c0 _ hb1
  have x1 := c1 _ hb1
  have hn1 : w.heap.size ≠ w1.heap.size := by have := hb1.size; have := HZ.out; omega
  have hn1' : w1.heap.size ≠ w.heap.size := hn1.symm
  have hn2 : w.heap.size < w1.heap.size := by have := hb1.size; have := HZ.out; omega
  go_wp2_with fail
  have hown1 : (w1.alloc (.cells #[.int .u8 34, .int .u8 0, .int .u8 0, .int .u8 0] 5)).ownsRow W0.heap.size 5 1 (.slice (some ⟨w1.heap.size, 0, none⟩) 4 4) 4 (B8 [34, 0, 0, 0]) := World.ownsRow_lit w1 #[.int .u8 34, .int .u8 0, .int .u8 0, .int .u8 0] 4 hb1.size (by unfold maxLen; omega) rfl
  have hbl := hb1.alloc hb1.size (.cells #[.int .u8 34, .int .u8 0, .int .u8 0, .int .u8 0] 5)
  refine (putAddrs_any W0.heap.size 4 _ _ _ 1 1 [f] _ (hown1.alloc _) (by omega) (by have := hbl.size; simp at this ⊢; omega) (AR_lit [f] (by have hf := Hf.out; intro x hx; simp at hx; rcases hx with rfl <;> assumption) _ (by rfl) _ 1 (by simp) rfl) (by omega) (safe_new _ _ _ _ _ (by simp))).mono ?_
  rintro e w2 ⟨A2, c2', rfl, hown2, hb2⟩
  have hb2 := (hbl.alloc hbl.size _).trans hb2
  have x0 := c0 _ hb2
  have x2 := c2 _ hb2
  have x3 := c3 _ hb2
  have x4 := c4 _ hb2
  have hn1 : w.heap.size ≠ w2.heap.size := by have := hb2.size; have := HZ.out; omega
  have hn1' : w2.heap.size ≠ w.heap.size := hn1.symm
  have hn2 : w.heap.size < w2.heap.size := by have := hb2.size; have := HZ.out; omega
  go_wp2_with fail
  refine (putAddrs_any W0.heap.size 8 _ _ _ 3 3 [t, s, g] _ (hown2.alloc _) (by omega) (by have := hb2.size; simp at this ⊢; omega) (AR_lit [t, s, g] (by have ht := Ht.out; have hs := Hs.out; have hg := Hg.out; intro x hx; simp at hx; rcases hx with rfl | rfl | rfl <;> assumption) _ (by rfl) _ 3 (by simp) rfl) (by omega) (safe_new _ _ _ _ _ (by simp))).mono ?_
  rintro e w3 ⟨A3, c3', rfl, hown3, hb3⟩
  have hb3 := (hb2.alloc hb2.size _).trans hb3
  go_wp2_with fail
  have hX : [34, 0, 0, 0] ++ flat [f] ++ flat [t, s, g] = mraw ⟨2, f, t, s, g, r, c, o, l⟩ := by simp [mraw, body, flat]
  rw [hX] at hown3
  have hlen : (mbs ⟨2, f, t, s, g, r, c, o, l⟩).length = 20 := by rw [mbs_len, mraw_len]; rfl
  refine (put_any A3 20 c3' (mraw ⟨2, f, t, s, g, r, c, o, l⟩) 2 _ (own_br hown3 HX.out).1 (by omega)).mono ?_
  rintro e w9 ⟨A9, c9, rfl, hown9, hb9⟩
  have hb10 := below_next HB.out (below_next hb3 hb9)
  go_wp2
  go_ret2
  exact ⟨A9, c9, by rw [hlen]; rfl, by rw [hlen]; exact own_up hown9 (by have := hb3.size; have := HZ.out; omega), hb10⟩
set_option maxHeartbeats 4000000 in
theorem wb_3 (hE : EnvV er w) (hw : wfm ⟨3, f, t, s, g, r, c, o, l⟩) (hA : AR w A n l) (hc : mcode ⟨3, f, t, s, g, r, c, o, l⟩ = 0) :
    Calls Tryd.prog 11 #[mv ⟨3, f, t, s, g, r, c, o, l⟩ A n c'] w (bytesOf (mbs ⟨3, f, t, s, g, r, c, o, l⟩) w) := by
  have hB : Below w.heap.size w (w.alloc (.cells #[.int .i64 3, .int .u32 f, .int .u32 t, .int .u32 s, .int .u32 g, .int .i64 r, .int .i64 c, .bool o, .slice A n c'] 28)) := (Below.refl _ _).alloc (Nat.le_refl _) _
  have hblk := Blk.new w 28 #[.int .i64 3, .int .u32 f, .int .u32 t, .int .u32 s, .int .u32 g, .int .i64 r, .int .i64 c, .bool o, .slice A n c']
  have HV := valid_any er ⟨3, f, t, s, g, r, c, o, l⟩ A n c' _ (hE.below hB) hw (hA.next hB)
  rw [hc, hE.1] at HV
  have HX := Lib.hid (mraw_b hw hc)
  obtain ⟨k1, k2, k3, k4, k5, k6, k7, k8⟩ := mcode_ok hc
  replace k4 : 0 ≤ r := k4
  replace k5 : r ≤ 65535 := k5
  replace k6 : 0 ≤ c := k6
  replace k7 : c ≤ 65535 := k7
  replace k3 : l.length ≤ 4 := k3
  have Hf := Lib.hid hw.1
  have Hg := Lib.hid hw.2.2.2.1
  have Hs := Lib.hid hw.2.2.1
  unfold mv at *
  clear hE hw hA hc k1 k2 k3 k8 k4 k5
  go_enter Tryd.func11, Tryd.ntmps11
  go_wp2_with fail
  generalize hW0 : w.alloc (.cells #[.int .i64 3, .int .u32 f, .int .u32 t, .int .u32 s, .int .u32 g, .int .i64 r, .int .i64 c, .bool o, .slice A n c'] 28) = W0 at *
  have c0 := fun W hW => keepc (w' := W) (w := W0) (hblk.cell 0) hW
  have c6 := fun W hW => keepc (w' := W) (w := W0) (hblk.cell 6) hW
  have c1 := fun W hW => keepc (w' := W) (w := W0) (hblk.cell 1) hW
  have c4 := fun W hW => keepc (w' := W) (w := W0) (hblk.cell 4) hW
  have c3 := fun W hW => keepc (w' := W) (w := W0) (hblk.cell 3) hW
  have HB := Lib.hid hB
  have HZ := Lib.hid (show w.heap.size < W0.heap.size by rw [← hW0]; simp)
  clear hblk hB hW0
  refine HV.mono ?_
  rintro e w1 ⟨rfl, hb1⟩
  have x0 := c0 _ hb1
  have x1 := c1 _ hb1
  have hn1 : w.heap.size ≠ w1.heap.size := by have := hb1.size; have := HZ.out; omega
  have hn1' : w1.heap.size ≠ w.heap.size := hn1.symm
  have hn2 : w.heap.size < w1.heap.size := by have := hb1.size; have := HZ.out; omega
  go_wp2_with fail
  have hown1 : (w1.alloc (.cells #[.int .u8 35, .int .u8 0, .int .u8 0, .int .u8 0] 5)).ownsRow W0.heap.size 5 1 (.slice (some ⟨w1.heap.size, 0, none⟩) 4 4) 4 (B8 [35, 0, 0, 0]) := World.ownsRow_lit w1 #[.int .u8 35, .int .u8 0, .int .u8 0, .int .u8 0] 4 hb1.size (by unfold maxLen; omega) rfl
  have hbl := hb1.alloc hb1.size (.cells #[.int .u8 35, .int .u8 0, .int .u8 0, .int .u8 0] 5)
  refine (putAddrs_any W0.heap.size 4 _ _ _ 1 1 [f] _ (hown1.alloc _) (by omega) (by have := hbl.size; simp at this ⊢; omega) (AR_lit [f] (by have hf := Hf.out; intro x hx; simp at hx; rcases hx with rfl <;> assumption) _ (by rfl) _ 1 (by simp) rfl) (by omega) (safe_new _ _ _ _ _ (by simp))).mono ?_
  rintro e w2 ⟨A2, c2', rfl, hown2, hb2⟩
  have hb2 := (hbl.alloc hbl.size _).trans hb2
  have x0 := c0 _ hb2
  have x3 := c3 _ hb2
  have x4 := c4 _ hb2
  have hn1 : w.heap.size ≠ w2.heap.size := by have := hb2.size; have := HZ.out; omega
  have hn1' : w2.heap.size ≠ w.heap.size := hn1.symm
  have hn2 : w.heap.size < w2.heap.size := by have := hb2.size; have := HZ.out; omega
  go_wp2_with fail
  refine (putAddrs_any W0.heap.size 8 _ _ _ 2 2 [s, g] _ (hown2.alloc _) (by omega) (by have := hb2.size; simp at this ⊢; omega) (AR_lit [s, g] (by have hs := Hs.out; have hg := Hg.out; intro x hx; simp at hx; rcases hx with rfl | rfl <;> assumption) _ (by rfl) _ 2 (by simp) rfl) (by omega) (safe_new _ _ _ _ _ (by simp))).mono ?_
  rintro e w3 ⟨A3, c3', rfl, hown3, hb3⟩
  have hb3 := (hb2.alloc hb2.size _).trans hb3
  have x6 := c6 _ hb3
  have hn1 : w.heap.size ≠ w3.heap.size := by have := hb3.size; have := HZ.out; omega
  have hn1' : w3.heap.size ≠ w.heap.size := hn1.symm
  have hn2 : w.heap.size < w3.heap.size := by have := hb3.size; have := HZ.out; omega
  go_wp2_with fail
  refine (putNumber_any W0.heap.size 16 _ _ c _ hown3 (by omega) hb3.size k6 k7).mono ?_
  rintro e w4 ⟨A4, c4', rfl, hown4, hb4⟩
  have hb4 := hb3.trans hb4
  go_wp2_with fail
  have hX : [35, 0, 0, 0] ++ flat [f] ++ flat [s, g] ++ b2 c = mraw ⟨3, f, t, s, g, r, c, o, l⟩ := by simp [mraw, body, flat]
  rw [hX] at hown4
  have hlen : (mbs ⟨3, f, t, s, g, r, c, o, l⟩).length = 18 := by rw [mbs_len, mraw_len]; rfl
  refine (put_any A4 18 c4' (mraw ⟨3, f, t, s, g, r, c, o, l⟩) 2 _ (own_br hown4 HX.out).1 (by omega)).mono ?_
  rintro e w9 ⟨A9, c9, rfl, hown9, hb9⟩
  have hb10 := below_next HB.out (below_next hb4 hb9)
  go_wp2
  go_ret2
  exact ⟨A9, c9, by rw [hlen]; rfl, by rw [hlen]; exact own_up hown9 (by have := hb4.size; have := HZ.out; omega), hb10⟩
set_option maxHeartbeats 4000000 in
theorem wb_5 (hE : EnvV er w) (hw : wfm ⟨5, f, t, s, g, r, c, o, l⟩) (hA : AR w A n l) (hc : mcode ⟨5, f, t, s, g, r, c, o, l⟩ = 0) :
    Calls Tryd.prog 11 #[mv ⟨5, f, t, s, g, r, c, o, l⟩ A n c'] w (bytesOf (mbs ⟨5, f, t, s, g, r, c, o, l⟩) w) := by
  have hB : Below w.heap.size w (w.alloc (.cells #[.int .i64 5, .int .u32 f, .int .u32 t, .int .u32 s, .int .u32 g, .int .i64 r, .int .i64 c, .bool o, .slice A n c'] 28)) := (Below.refl _ _).alloc (Nat.le_refl _) _
  have hblk := Blk.new w 28 #[.int .i64 5, .int .u32 f, .int .u32 t, .int .u32 s, .int .u32 g, .int .i64 r, .int .i64 c, .bool o, .slice A n c']
  have HV := valid_any er ⟨5, f, t, s, g, r, c, o, l⟩ A n c' _ (hE.below hB) hw (hA.next hB)
  rw [hc, hE.1] at HV
  have HX := Lib.hid (mraw_b hw hc)
  obtain ⟨k1, k2, k3, k4, k5, k6, k7, k8⟩ := mcode_ok hc
  replace k4 : 0 ≤ r := k4
  replace k5 : r ≤ 65535 := k5
  replace k6 : 0 ≤ c := k6
  replace k7 : c ≤ 65535 := k7
  replace k3 : l.length ≤ 4 := k3
  have Hf := Lib.hid hw.1
  have Hg := Lib.hid hw.2.2.2.1
  unfold mv at *
  clear hE hw hA hc k1 k2 k3 k8 k6 k7 k4 k5
  go_enter Tryd.func11, Tryd.ntmps11
  go_wp2_with fail
  generalize hW0 : w.alloc (.cells #[.int .i64 5, .int .u32 f, .int .u32 t, .int .u32 s, .int .u32 g, .int .i64 r, .int .i64 c, .bool o, .slice A n c'] 28) = W0 at *
  have c0 := fun W hW => keepc (w' := W) (w := W0) (hblk.cell 0) hW
  have c1 := fun W hW => keepc (w' := W) (w := W0) (hblk.cell 1) hW
  have c4 := fun W hW => keepc (w' := W) (w := W0) (hblk.cell 4) hW
  have HB := Lib.hid hB
  have HZ := Lib.hid (show w.heap.size < W0.heap.size by rw [← hW0]; simp)
  clear hblk hB hW0
  refine HV.mono ?_
  rintro e w1 ⟨rfl, hb1⟩
  have x0 := c0 _ hb1
  have x1 := c1 _ hb1
  have hn1 : w.heap.size ≠ w1.heap.size := by have := hb1.size; have := HZ.out; omega
  have hn1' : w1.heap.size ≠ w.heap.size := hn1.symm
  have hn2 : w.heap.size < w1.heap.size := by have := hb1.size; have := HZ.out; omega
  go_wp2_with fail
  have hown1 : (w1.alloc (.cells #[.int .u8 37, .int .u8 0, .int .u8 0, .int .u8 0] 5)).ownsRow W0.heap.size 5 1 (.slice (some ⟨w1.heap.size, 0, none⟩) 4 4) 4 (B8 [37, 0, 0, 0]) := World.ownsRow_lit w1 #[.int .u8 37, .int .u8 0, .int .u8 0, .int .u8 0] 4 hb1.size (by unfold maxLen; omega) rfl
  have hbl := hb1.alloc hb1.size (.cells #[.int .u8 37, .int .u8 0, .int .u8 0, .int .u8 0] 5)
  refine (putAddrs_any W0.heap.size 4 _ _ _ 1 1 [f] _ (hown1.alloc _) (by omega) (by have := hbl.size; simp at this ⊢; omega) (AR_lit [f] (by have hf := Hf.out; intro x hx; simp at hx; rcases hx with rfl <;> assumption) _ (by rfl) _ 1 (by simp) rfl) (by omega) (safe_new _ _ _ _ _ (by simp))).mono ?_
  rintro e w2 ⟨A2, c2', rfl, hown2, hb2⟩
  have hb2 := (hbl.alloc hbl.size _).trans hb2
  have x0 := c0 _ hb2
  have x4 := c4 _ hb2
  have hn1 : w.heap.size ≠ w2.heap.size := by have := hb2.size; have := HZ.out; omega
  have hn1' : w2.heap.size ≠ w.heap.size := hn1.symm
  have hn2 : w.heap.size < w2.heap.size := by have := hb2.size; have := HZ.out; omega
  go_wp2_with fail
  refine (putAddrs_any W0.heap.size 8 _ _ _ 1 1 [g] _ (hown2.alloc _) (by omega) (by have := hb2.size; simp at this ⊢; omega) (AR_lit [g] (by have hg := Hg.out; intro x hx; simp at hx; rcases hx with rfl <;> assumption) _ (by rfl) _ 1 (by simp) rfl) (by omega) (safe_new _ _ _ _ _ (by simp))).mono ?_
  rintro e w3 ⟨A3, c3', rfl, hown3, hb3⟩
  have hb3 := (hb2.alloc hb2.size _).trans hb3
  go_wp2_with fail
  have hX : [37, 0, 0, 0] ++ flat [f] ++ flat [g] = mraw ⟨5, f, t, s, g, r, c, o, l⟩ := by simp [mraw, body, flat]
  rw [hX] at hown3
  have hlen : (mbs ⟨5, f, t, s, g, r, c, o, l⟩).length = 12 := by rw [mbs_len, mraw_len]; rfl
  refine (put_any A3 12 c3' (mraw ⟨5, f, t, s, g, r, c, o, l⟩) 2 _ (own_br hown3 HX.out).1 (by omega)).mono ?_
  rintro e w9 ⟨A9, c9, rfl, hown9, hb9⟩
  have hb10 := below_next HB.out (below_next hb3 hb9)
  go_wp2
  go_ret2
  exact ⟨A9, c9, by rw [hlen]; rfl, by rw [hlen]; exact own_up hown9 (by have := hb3.size; have := HZ.out; omega), hb10⟩
end
end Go.Proofs.YtfcfnfofihpegaaDoor
