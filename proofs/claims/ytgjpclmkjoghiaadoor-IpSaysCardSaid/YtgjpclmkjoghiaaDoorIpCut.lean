/- The statement on headers cut off, walked. -/
import Derived.Test.YtgjpclmkjoghiaaDoorIpL
import Derived.Test.YtgjpclmkjoghiaaDoorAppB
namespace Go.Proofs.YtgjpclmkjoghiaaDoor
open Go.RowKit Sm
theorem below_al {w w' : World} (h : Below w.heap.size w w') (o : Obj) : Below w.heap.size w (w'.alloc o) := h.alloc h.size o
theorem own_slice {w : World} {base : Nat} {e : TypeId} {v : Value} {n : Nat} {ys : List Value} (h : w.ownsRow base e 1 v n ys) (hn : 0 < n) : ∃ A c, v = .slice A n c := by
  rcases h.2 with ⟨_, h0⟩ | ⟨g, cap, cur, rfl, _⟩
  · omega
  · exact ⟨_, _, rfl⟩
theorem same_self (l i t p f o : Int) (w : World) :
    Calls Tryd.prog 17 #[hv l i t p f o, hv l i t p f o] w fun e w' => e = .returned (.bool true) ∧ Below w.heap.size w w' := by
  refine (same_hdr l i t p f o l i t p f o w).mono ?_
  rintro e w' ⟨rfl, hb⟩
  exact ⟨ret_bool (by simp), hb⟩
section
variable (er : Int → Value) (l i t p f o k : Int) (A : Option Addr) (n c : Nat) (ys : List Int) (w : World)
set_option maxHeartbeats 2000000 in
theorem cut_no (hE : EnvE er w) (h : hfit l i t p = false) (hf : isA f) (ho : isA o) :
    Calls Tryd.prog 6 #[hv l i t p f o, .int .i64 k, .slice A n c] w fun e w' => e = .returned (.bool true) ∧ Below w.heap.size w w' := by
  obtain ⟨a, ha⟩ := hE.2.1 103 (by omega)
  have E1 := Lib.hid (show er (bcode l i t p) = ev a by unfold bcode; rw [if_neg (by rw [h]; simp), ha])
  have X1 := Lib.hid (show bxs l i t p f o = [] by unfold bxs; rw [if_neg (by rw [h]; simp)])
  have HE := Lib.hid hE
  have hB0 : Below w.heap.size w (w.alloc (.cells #[.int .i64 l, .int .i64 i, .int .i64 t, .int .i64 p, .int .u32 f, .int .u32 o] 25)) := (Below.refl _ _).alloc (Nat.le_refl _) _
  have hk : Blk (w.alloc (.cells #[.int .i64 l, .int .i64 i, .int .i64 t, .int .i64 p, .int .u32 f, .int .u32 o] 25)) w.heap.size 25 #[.int .i64 l, .int .i64 i, .int .i64 t, .int .i64 p, .int .u32 f, .int .u32 o] := Blk.new _ _ _
  have HK := Lib.hid hk
  unfold ev hv at *
  clear hE ha h hk
  go_enter Tryd.func6, Tryd.ntmps6
  go_wp2_with (first
    | (go_at_call 7; refine (first_any er _ (HE.out.below hB0)).mono ?_; rintro e w1 ⟨rfl, hb⟩
       have hB1 := below_next hB0 hb
       have hkk := HK.out.next hb
       have a0 : ∀ W : World, Below w1.heap.size w1 W → W.cell? ⟨w.heap.size, 0, none⟩ = some (.int .i64 l) := fun W hW => keepc (hkk.cell 0) hW
       have a1 : ∀ W : World, Below w1.heap.size w1 W → W.cell? ⟨w.heap.size, 1, none⟩ = some (.int .i64 i) := fun W hW => keepc (hkk.cell 1) hW
       have a2 : ∀ W : World, Below w1.heap.size w1 W → W.cell? ⟨w.heap.size, 2, none⟩ = some (.int .i64 t) := fun W hW => keepc (hkk.cell 2) hW
       have a3 : ∀ W : World, Below w1.heap.size w1 W → W.cell? ⟨w.heap.size, 3, none⟩ = some (.int .i64 p) := fun W hW => keepc (hkk.cell 3) hW
       have a4 : ∀ W : World, Below w1.heap.size w1 W → W.cell? ⟨w.heap.size, 4, none⟩ = some (.int .u32 f) := fun W hW => keepc (hkk.cell 4) hW
       have a5 : ∀ W : World, Below w1.heap.size w1 W → W.cell? ⟨w.heap.size, 5, none⟩ = some (.int .u32 o) := fun W hW => keepc (hkk.cell 5) hW
       have hS1 : Below w1.heap.size w1 w1 := Below.refl _ _
       clear hb hkk)
    | (go_at_call 8; refine (ibytes_gen er _ _ _ _ _ _ _ (HE.out.below hB1) hf ho).mono ?_; rintro e w2 ⟨A2, n2, c2, rfl, hc2, hbr2, hb⟩
       rw [E1.out]; rw [X1.out] at hbr2
       have hB2 : Below w.heap.size w w2 := below_next hB1 hb
       have hS2 : Below w1.heap.size w1 w2 := hb
       clear hb))
  go_ret
  exact ⟨rfl, hB2⟩
set_option maxHeartbeats 2000000 in
theorem cut_big (hE : EnvE er w) (h : hfit l i t p = true) (hf : isA f) (ho : isA o) (hn : 40 < n) :
    Calls Tryd.prog 6 #[hv l i t p f o, .int .i64 k, .slice A n c] w fun e w' => e = .returned (.bool true) ∧ Below w.heap.size w w' := by
  have E1 := Lib.hid (show er (bcode l i t p) = .nilIface by unfold bcode; rw [if_pos h, hE.1])
  have X1 := Lib.hid (show bxs l i t p f o = hbs l i t p f o by unfold bxs; rw [if_pos h])
  have hd : decide ((40 : Int) < (n : Int)) = true := by simp; omega
  have HE := Lib.hid hE
  have hB0 : Below w.heap.size w (w.alloc (.cells #[.int .i64 l, .int .i64 i, .int .i64 t, .int .i64 p, .int .u32 f, .int .u32 o] 25)) := (Below.refl _ _).alloc (Nat.le_refl _) _
  have hk : Blk (w.alloc (.cells #[.int .i64 l, .int .i64 i, .int .i64 t, .int .i64 p, .int .u32 f, .int .u32 o] 25)) w.heap.size 25 #[.int .i64 l, .int .i64 i, .int .i64 t, .int .i64 p, .int .u32 f, .int .u32 o] := Blk.new _ _ _
  have HK := Lib.hid hk
  unfold hv at *
  clear hE h hk
  go_enter Tryd.func6, Tryd.ntmps6
  go_wp2_with (first
    | (go_at_call 7; refine (first_any er _ (HE.out.below hB0)).mono ?_; rintro e w1 ⟨rfl, hb⟩
       have hB1 := below_next hB0 hb
       have hkk := HK.out.next hb
       have a0 : ∀ W : World, Below w1.heap.size w1 W → W.cell? ⟨w.heap.size, 0, none⟩ = some (.int .i64 l) := fun W hW => keepc (hkk.cell 0) hW
       have a1 : ∀ W : World, Below w1.heap.size w1 W → W.cell? ⟨w.heap.size, 1, none⟩ = some (.int .i64 i) := fun W hW => keepc (hkk.cell 1) hW
       have a2 : ∀ W : World, Below w1.heap.size w1 W → W.cell? ⟨w.heap.size, 2, none⟩ = some (.int .i64 t) := fun W hW => keepc (hkk.cell 2) hW
       have a3 : ∀ W : World, Below w1.heap.size w1 W → W.cell? ⟨w.heap.size, 3, none⟩ = some (.int .i64 p) := fun W hW => keepc (hkk.cell 3) hW
       have a4 : ∀ W : World, Below w1.heap.size w1 W → W.cell? ⟨w.heap.size, 4, none⟩ = some (.int .u32 f) := fun W hW => keepc (hkk.cell 4) hW
       have a5 : ∀ W : World, Below w1.heap.size w1 W → W.cell? ⟨w.heap.size, 5, none⟩ = some (.int .u32 o) := fun W hW => keepc (hkk.cell 5) hW
       have hS1 : Below w1.heap.size w1 w1 := Below.refl _ _
       clear hb hkk)
    | (go_at_call 8; refine (ibytes_gen er _ _ _ _ _ _ _ (HE.out.below hB1) hf ho).mono ?_; rintro e w2 ⟨A2, n2, c2, rfl, hc2, hbr2, hb⟩
       rw [E1.out]; rw [X1.out] at hbr2
       have hB2 : Below w.heap.size w w2 := below_next hB1 hb
       have hS2 : Below w1.heap.size w1 w2 := hb
       clear hb))
  go_ret
  exact ⟨rfl, hB2⟩
set_option maxHeartbeats 8000000 in
theorem cut_end (hE : EnvE er w) (h : hfit l i t p = true) (hf : isA f) (ho : isA o) (hn : n ≤ 40) (hbr : BR w A n ys) (ht : t = 0) :
    Calls Tryd.prog 6 #[hv l i t p f o, .int .i64 k, .slice A n c] w fun e w' => e = .returned (.bool true) ∧ Below w.heap.size w w' := by
  have E1 := Lib.hid (show er (bcode l i t p) = .nilIface by unfold bcode; rw [if_pos h, hE.1])
  have X1 := Lib.hid (show bxs l i t p f o = hbs l i t p f o by unfold bxs; rw [if_pos h])
  obtain ⟨e1, ha1⟩ := hE.2.1 101 (by omega)
  obtain ⟨e3, ha3⟩ := hE.2.1 103 (by omega)
  have hd : decide ((40 : Int) < (n : Int)) = false := by simp; omega
  have dt : decide ((0 : Int) < t) = false := by simp; omega
  obtain ⟨m, hm, hm20⟩ : ∃ m : Nat, k % 20 = m ∧ m < 20 := ⟨(k % 20).toNat, by omega, by omega⟩
  have N1 := fun W => number_any k 20 W (by omega) (by omega)
  rw [hm] at N1
  have hr0 := (rback h hf ho ys).1
  have hr1 := rv_back h hf ho ys
  have hhop : er (hcode (hbs l i t p f o ++ ys)) = ev e3 ∧ hops (hbs l i t p f o ++ ys) = [] := by
    subst ht
    obtain ⟨q1, q2⟩ := hop_none h hf ho ys
    exact ⟨by rw [q1, ha3], q2⟩
  clear ht
  have hXl := hbs_len l i t p f o
  have hXb := hbs_b h hf ho
  generalize hbs l i t p f o = X at *
  have hcut : rcode (X.take m) = 101 := by unfold rcode; rw [if_pos (by simp; omega)]
  have hcutv : rv (X.take m) = hv 0 0 0 0 0 0 := by unfold rv; rw [hcut, if_neg (by omega)]
  have HC1 := Lib.hid hcutv
  have HC2 := Lib.hid (show er (rcode (X.take m)) = ev e1 by rw [hcut, ha1])
  have HR1 := Lib.hid hr1
  have HR2 := Lib.hid (show er (rcode (X ++ ys)) = .nilIface by rw [hr0, hE.1])
  have HH := Lib.hid hhop
  have HY := Lib.hid hbr
  obtain ⟨i0, hi, hz0, hz1, hz2⟩ := info_parts info_u8
  have HE := Lib.hid hE
  have hB0 : Below w.heap.size w (w.alloc (.cells #[.int .i64 l, .int .i64 i, .int .i64 t, .int .i64 p, .int .u32 f, .int .u32 o] 25)) := (Below.refl _ _).alloc (Nat.le_refl _) _
  have hk : Blk (w.alloc (.cells #[.int .i64 l, .int .i64 i, .int .i64 t, .int .i64 p, .int .u32 f, .int .u32 o] 25)) w.heap.size 25 #[.int .i64 l, .int .i64 i, .int .i64 t, .int .i64 p, .int .u32 f, .int .u32 o] := Blk.new _ _ _
  have HK := Lib.hid hk
  unfold ev hv at *
  clear hE h hk hm hr0 hr1 hcut hcutv hhop ha1 ha3 hbr
  go_enter Tryd.func6, Tryd.ntmps6
  go_wp2_with (first
    | (go_at_call 7; refine (first_any er _ (HE.out.below hB0)).mono ?_; rintro e w1 ⟨rfl, hb⟩
       have hB1 := below_next hB0 hb
       have hkk := HK.out.next hb
       have a0 : ∀ W : World, Below w1.heap.size w1 W → W.cell? ⟨w.heap.size, 0, none⟩ = some (.int .i64 l) := fun W hW => keepc (hkk.cell 0) hW
       have a1 : ∀ W : World, Below w1.heap.size w1 W → W.cell? ⟨w.heap.size, 1, none⟩ = some (.int .i64 i) := fun W hW => keepc (hkk.cell 1) hW
       have a2 : ∀ W : World, Below w1.heap.size w1 W → W.cell? ⟨w.heap.size, 2, none⟩ = some (.int .i64 t) := fun W hW => keepc (hkk.cell 2) hW
       have a3 : ∀ W : World, Below w1.heap.size w1 W → W.cell? ⟨w.heap.size, 3, none⟩ = some (.int .i64 p) := fun W hW => keepc (hkk.cell 3) hW
       have a4 : ∀ W : World, Below w1.heap.size w1 W → W.cell? ⟨w.heap.size, 4, none⟩ = some (.int .u32 f) := fun W hW => keepc (hkk.cell 4) hW
       have a5 : ∀ W : World, Below w1.heap.size w1 W → W.cell? ⟨w.heap.size, 5, none⟩ = some (.int .u32 o) := fun W hW => keepc (hkk.cell 5) hW
       have hS1 : Below w1.heap.size w1 w1 := Below.refl _ _
       clear hb hkk)
    | (go_at_call 8; refine (ibytes_gen er _ _ _ _ _ _ _ (HE.out.below hB1) hf ho).mono ?_; rintro e w2 ⟨A2, n2, c2, rfl, hc2, hbr2, hb⟩
       rw [E1.out]; rw [X1.out] at hbr2
       obtain rfl : n2 = 20 := hbr2.len.symm.trans hXl
       obtain ⟨q, z, rfl, _, _⟩ := hbr2.2.2 (by omega)
       have hm0 : (0 : Int) ≤ (m : Int) := by omega
       have hm1 : (m : Int) ≤ (c2 : Int) := by omega
       have hB2 : Below w.heap.size w w2 := below_next hB1 hb
       have hS2 : Below w1.heap.size w1 w2 := hb
       have hSr : Below w2.heap.size w2 w2 := Below.refl _ _
       clear hb)
    | (go_at_call 19; refine (N1 _).mono ?_; rintro e w3 ⟨rfl, rfl⟩)
    | (go_at_call 18; refine (rbytes_any _ 20 _ X _ (hbr2.next (by first | with_reducible assumption | with_reducible exact below_al (by with_reducible assumption) _)) (by omega)).mono ?_; rintro e w5 ⟨g5, c5, rfl, hown5, hb5⟩)
    | (at_builtin; refine wpList_append_br rfl _ _ 26 rfl _ 5 i0 Tryd.underlying26 hi hz0 hz1 hz2 _ 20 X rfl hown5 A n c ys rfl (((HY.out.next hB2).next (by first | with_reducible assumption | with_reducible exact below_al (by with_reducible assumption) _)).next hb5) (by omega) (by omega) hb5.size ?_
       intro v6 w6 hown6 hb6
       obtain ⟨A6, c6, rfl⟩ := own_slice hown6 (by omega)
       have hbr6 := own_br hown6 (hXb.append HY.out.isB)
       have hW6 := hb5.trans hb6
       have hS6 : Below w2.heap.size w2 w6 := below_next (by first | with_reducible assumption | with_reducible exact below_al (by with_reducible assumption) _) hW6
       try have hx := hx.next hW6
       clear hown6 hb6 hown5 hb5)
    | (go_at_call 11; refine (read_any er _ _ _ _ _ (HE.out.below (below_next hB2 (by with_reducible assumption))) (by first | with_reducible exact hbr6.1 | exact hbr2.upto (by omega)) (by first | exact hbr6.2 | omega)).mono ?_; rintro e w7 ⟨rfl, hb⟩
       have hS7 : Below w2.heap.size w2 w7 := below_next (by with_reducible assumption) hb
       first
       | rw [HC1.out, HC2.out]
       | (rw [HR1.out, HR2.out]
          have hx := Blk.new w7 25 #[.int .i64 l, .int .i64 i, .int .i64 t, .int .i64 p, .int .u32 f, .int .u32 o])
       clear hb)
    | (go_at_call 13; refine (hop_any er _ _ _ _ _ (HE.out.below (below_next hB2 hS6)) hbr6.1 hbr6.2).mono ?_; rintro e w9 ⟨A9, m9, c9, rfl, hm9, hbr9, hb9⟩
       rw [HH.out.1]; rw [HH.out.2] at hbr9
       have hx9 := hx.next hb9
       have hS9 : Below w2.heap.size w2 w9 := below_next hS6 hb9))

  have A0 : ∀ W : World, Below w9.heap.size w9 W → W.cell? ⟨w.heap.size, 0, none⟩ = some (.int .i64 l) := fun W hW => a0 W (below_next (below_next hS2 hS9) hW)
  have A1 : ∀ W : World, Below w9.heap.size w9 W → W.cell? ⟨w.heap.size, 1, none⟩ = some (.int .i64 i) := fun W hW => a1 W (below_next (below_next hS2 hS9) hW)
  have A2 : ∀ W : World, Below w9.heap.size w9 W → W.cell? ⟨w.heap.size, 2, none⟩ = some (.int .i64 t) := fun W hW => a2 W (below_next (below_next hS2 hS9) hW)
  have A3 : ∀ W : World, Below w9.heap.size w9 W → W.cell? ⟨w.heap.size, 3, none⟩ = some (.int .i64 p) := fun W hW => a3 W (below_next (below_next hS2 hS9) hW)
  have A4 : ∀ W : World, Below w9.heap.size w9 W → W.cell? ⟨w.heap.size, 4, none⟩ = some (.int .u32 f) := fun W hW => a4 W (below_next (below_next hS2 hS9) hW)
  have A5 : ∀ W : World, Below w9.heap.size w9 W → W.cell? ⟨w.heap.size, 5, none⟩ = some (.int .u32 o) := fun W hW => a5 W (below_next (below_next hS2 hS9) hW)
  have X0 : ∀ W : World, Below w9.heap.size w9 W → W.cell? ⟨w7.heap.size, 0, none⟩ = some (.int .i64 l) := fun W hW => keepc (hx9.cell 0) hW
  have X1 : ∀ W : World, Below w9.heap.size w9 W → W.cell? ⟨w7.heap.size, 1, none⟩ = some (.int .i64 i) := fun W hW => keepc (hx9.cell 1) hW
  have X2 : ∀ W : World, Below w9.heap.size w9 W → W.cell? ⟨w7.heap.size, 2, none⟩ = some (.int .i64 t) := fun W hW => keepc (hx9.cell 2) hW
  have X3 : ∀ W : World, Below w9.heap.size w9 W → W.cell? ⟨w7.heap.size, 3, none⟩ = some (.int .i64 p) := fun W hW => keepc (hx9.cell 3) hW
  have X4 : ∀ W : World, Below w9.heap.size w9 W → W.cell? ⟨w7.heap.size, 4, none⟩ = some (.int .u32 f) := fun W hW => keepc (hx9.cell 4) hW
  have X5 : ∀ W : World, Below w9.heap.size w9 W → W.cell? ⟨w7.heap.size, 5, none⟩ = some (.int .u32 o) := fun W hW => keepc (hx9.cell 5) hW
  have hB9 := below_next hB2 hS9
  have HB9 := Lib.hid hB9
  clear a0 a1 a2 a3 a4 a5 hS2 hS9 hB9
  have hS0 : Below w9.heap.size w9 w9.drew := (Below.refl _ _).drew
  refine wp_region_held_drew (S := fun w' => Below w9.heap.size w9 w') (by kernel_rfl) hS0 (fun hHeld => ?_)
  have hH : Below w9.heap.size w9 w9.drew := hHeld
  clear hHeld hS0
  refine wpAnyH_take (i := 0) (v := .bool true) rfl (by kernel_rfl) (by kernel_rfl) (by kernel_rfl) (fun _ _ _ h => h) (Or.inl ⟨by rfl, fun w' hSw => by (try dsimp only at hSw); go_simp⟩) hH ?_
  try go_simp
  refine wpAnyH_take (i := 1) (v := .bool true) rfl (by kernel_rfl) (by kernel_rfl) (by kernel_rfl) (fun _ _ _ h => h) (Or.inl ⟨by rfl, fun w' hSw => by (try dsimp only at hSw); go_simp⟩) hH ?_
  try go_simp
  refine wpAnyH_take (i := 2) (v := .iface 85 (.pointer (some e1))) rfl (by kernel_rfl) (by kernel_rfl) (by kernel_rfl) (fun _ _ _ h => h) (Or.inl ⟨by rfl, fun w' hSw => by (try dsimp only at hSw); go_simp⟩) hH ?_
  try go_simp
  refine wpAnyH_take (i := 3) (v := .bool true) rfl (by kernel_rfl) (by kernel_rfl) (by kernel_rfl) (fun _ _ _ h => h) (Or.inl ⟨by rfl, fun w' hSw => by (try dsimp only at hSw); go_simp⟩) hH ?_
  try go_simp
  refine wpAnyH_take (i := 4) (v := .bool true) rfl (by kernel_rfl) (by kernel_rfl) (by kernel_rfl) (fun _ _ _ h => h) (Or.inl ⟨by rfl, fun w' hSw => by (try dsimp only at hSw); go_simp⟩) hH ?_
  try go_simp
  refine wpAnyH_take (i := 5) (v := .bool true) rfl (by kernel_rfl) (by kernel_rfl) (by kernel_rfl) (fun _ _ _ h => h) (Or.inl ⟨by rfl, fun w' hSw => by (try dsimp only at hSw); go_simp⟩) hH ?_
  try go_simp
  refine wpAnyH_take (i := 6) (v := .nilIface) rfl (by kernel_rfl) (by kernel_rfl) (by kernel_rfl) (fun _ _ _ h => h) (Or.inl ⟨by rfl, fun w' hSw => by (try dsimp only at hSw); go_simp⟩) hH ?_
  try go_simp
  refine wpAnyH_take (i := 7) (v := .bool true) rfl (by kernel_rfl) (by kernel_rfl) (by kernel_rfl) (fun _ _ _ h => h) (Or.inl ⟨by rfl, fun w' hSw => by (try dsimp only at hSw); go_simp⟩) hH ?_
  try go_simp
  refine wpAnyH_take (i := 8) (v := .bool true) rfl (by kernel_rfl) (by kernel_rfl) (by kernel_rfl) (fun _ _ _ h => h) (Or.inl ⟨by rfl, fun w' hSw => by (try dsimp only at hSw); go_simp⟩) hH ?_
  try go_simp
  refine wpAnyH_take (i := 9) (v := .bool true) rfl (by kernel_rfl) (by kernel_rfl) (by kernel_rfl) (fun _ _ _ h => h) (Or.inl ⟨by rfl, fun w' hSw => by (try dsimp only at hSw); go_simp⟩) hH ?_
  try go_simp
  refine wpAnyH_take (i := 10) (v := .agg #[.int .i64 l, .int .i64 i, .int .i64 t, .int .i64 p, .int .u32 f, .int .u32 o]) rfl (by kernel_rfl) (by kernel_rfl) (by kernel_rfl) (fun _ _ _ h => h) (Or.inl ⟨by rfl, fun w' hSw => by (try dsimp only at hSw); go_simp⟩) hH ?_
  try go_simp
  refine wpAnyH_take (i := 11) (v := .agg #[.int .i64 l, .int .i64 i, .int .i64 t, .int .i64 p, .int .u32 f, .int .u32 o]) rfl (by kernel_rfl) (by kernel_rfl) (by kernel_rfl) (fun _ _ _ h => h) (Or.inl ⟨by rfl, fun w' hSw => by (try dsimp only at hSw); go_simp⟩) hH ?_
  try go_simp
  refine wpAnyH_ready (rs := [12]) (by kernel_rfl) (by simp) ?_
  refine AllReadyH.cons rfl (fun K hK => ?_) AllReadyH.nil
  go_simp
  refine (other_any _ _ _ _ _ _ _).mono ?_
  rintro e wa ⟨rfl, hb⟩
  have hb' := below_next (w := w9) hH hb
  refine hK.out _ _ hb' (fun hHeld => ?_)
  clear hK K hH hb hHeld
  have hH := hb'
  clear hb'
  try go_simp
  refine wpAnyH_ready (rs := [13]) (by kernel_rfl) (by simp) ?_
  refine AllReadyH.cons rfl (fun K hK => ?_) AllReadyH.nil
  go_simp
  refine (same_self _ _ _ _ _ _ _).mono ?_
  rintro e wa ⟨rfl, hb⟩
  have hb' := below_next (w := w9) hH hb
  refine hK.out _ _ hb' (fun hHeld => ?_)
  clear hK K hH hb hHeld
  have hH := hb'
  clear hb'
  try go_simp
  refine wpAnyH_take (i := 14) (v := .bool true) rfl (by kernel_rfl) (by kernel_rfl) (by kernel_rfl) (fun _ _ _ h => h) (Or.inl ⟨by rfl, fun w' hSw => by (try dsimp only at hSw); go_simp⟩) hH ?_
  try go_simp
  refine wpAnyH_take (i := 15) (v := .bool true) rfl (by kernel_rfl) (by kernel_rfl) (by kernel_rfl) (fun _ _ _ h => h) (Or.inl ⟨by rfl, fun w' hSw => by (try dsimp only at hSw); go_simp⟩) hH ?_
  try go_simp
  refine wpAnyH_take (i := 16) (v := .iface 85 (.pointer (some e3))) rfl (by kernel_rfl) (by kernel_rfl) (by kernel_rfl) (fun _ _ _ h => h) (Or.inl ⟨by rfl, fun w' hSw => by (try dsimp only at hSw); go_simp⟩) hH ?_
  try go_simp
  refine wpAnyH_take (i := 17) (v := .bool false) rfl (by kernel_rfl) (by kernel_rfl) (by kernel_rfl) (fun _ _ _ h => h) (Or.inl ⟨by rfl, fun w' hSw => by (try dsimp only at hSw); go_simp⟩) hH ?_
  try go_simp
  refine wpAnyH_take (i := 18) (v := .pointer (some ⟨w.heap.size, 2, none⟩)) rfl (by kernel_rfl) (by kernel_rfl) (by kernel_rfl) (fun _ _ _ h => h) (Or.inl ⟨by rfl, fun w' hSw => by (try dsimp only at hSw); go_simp⟩) hH ?_
  try go_simp
  refine wpAnyH_take (i := 19) (v := .int .i64 t) rfl (by kernel_rfl) (by kernel_rfl) (by kernel_rfl) (fun _ _ _ h => h) (Or.inl ⟨by rfl, fun w' hSw => by (try dsimp only at hSw); go_simp⟩) hH ?_
  try go_simp
  refine wpAnyH_take (i := 20) (v := .bool false) rfl (by kernel_rfl) (by kernel_rfl) (by kernel_rfl) (fun _ _ _ h => h) (Or.inl ⟨by rfl, fun w' hSw => by (try dsimp only at hSw); go_simp⟩) hH ?_
  try go_simp
  refine wpAnyH_take (i := 21) (v := .bool true) rfl (by kernel_rfl) (by kernel_rfl) (by kernel_rfl) (fun _ _ _ h => h) (Or.inl ⟨by rfl, fun w' hSw => by (try dsimp only at hSw); go_simp⟩) hH ?_
  try go_simp
  refine wpAnyH_take (i := 22) (v := .bool true) rfl (by kernel_rfl) (by kernel_rfl) (by kernel_rfl) (fun _ _ _ h => h) (Or.inl ⟨by rfl, fun w' hSw => by (try dsimp only at hSw); go_simp⟩) hH ?_
  try go_simp
  refine wpAnyH_take (i := 23) (v := .bool true) rfl (by kernel_rfl) (by kernel_rfl) (by kernel_rfl) (fun _ _ _ h => h) (Or.inl ⟨by rfl, fun w' hSw => by (try dsimp only at hSw); go_simp⟩) hH ?_
  try go_simp
  refine wpAnyH_take (i := 24) (v := .iface 85 (.pointer (some e3))) rfl (by kernel_rfl) (by kernel_rfl) (by kernel_rfl) (fun _ _ _ h => h) (Or.inl ⟨by rfl, fun w' hSw => by (try dsimp only at hSw); go_simp⟩) hH ?_
  try go_simp
  refine wpAnyH_take (i := 25) (v := .bool true) rfl (by kernel_rfl) (by kernel_rfl) (by kernel_rfl) (fun _ _ _ h => h) (Or.inl ⟨by rfl, fun w' hSw => by (try dsimp only at hSw); go_simp⟩) hH ?_
  try go_simp
  refine wpAnyH_take (i := 26) (v := .bool true) rfl (by kernel_rfl) (by kernel_rfl) (by kernel_rfl) (fun _ _ _ h => h) (Or.inl ⟨by rfl, fun w' hSw => by (try dsimp only at hSw); go_simp⟩) hH ?_
  try go_simp
  refine wpAnyH_take (i := 27) (v := undef) rfl (by kernel_rfl) (by kernel_rfl) (by kernel_rfl) (fun _ _ _ h => h) (Or.inr ⟨by rfl, rfl⟩) hH ?_
  try go_simp
  refine wpAnyH_take (i := 28) (v := undef) rfl (by kernel_rfl) (by kernel_rfl) (by kernel_rfl) (fun _ _ _ h => h) (Or.inr ⟨by rfl, rfl⟩) hH ?_
  try go_simp
  refine wpAnyH_take (i := 29) (v := undef) rfl (by kernel_rfl) (by kernel_rfl) (by kernel_rfl) (fun _ _ _ h => h) (Or.inr ⟨by rfl, rfl⟩) hH ?_
  try go_simp
  refine wpAnyH_take (i := 30) (v := .bool true) rfl (by kernel_rfl) (by kernel_rfl) (by kernel_rfl) (fun _ _ _ h => h) (Or.inl ⟨by rfl, fun w' hSw => by (try dsimp only at hSw); go_simp⟩) hH ?_
  try go_simp
  refine wpAnyH_take (i := 31) (v := .bool true) rfl (by kernel_rfl) (by kernel_rfl) (by kernel_rfl) (fun _ _ _ h => h) (Or.inl ⟨by rfl, fun w' hSw => by (try dsimp only at hSw); go_simp⟩) hH ?_
  try go_simp
  refine wpAnyH_take (i := 32) (v := .bool true) rfl (by kernel_rfl) (by kernel_rfl) (by kernel_rfl) (fun _ _ _ h => h) (Or.inl ⟨by rfl, fun w' hSw => by (try dsimp only at hSw); go_simp⟩) hH ?_
  try go_simp
  refine wpAnyH_done (by kernel_rfl) ?_ _
  go_wp2
  go_ret
  exact ⟨rfl, below_next HB9.out hH⟩
set_option maxHeartbeats 8000000 in
theorem cut_hop (hE : EnvE er w) (h : hfit l i t p = true) (hf : isA f) (ho : isA o) (hn : n ≤ 40) (hbr : BR w A n ys) (ht : t ≠ 0) :
    Calls Tryd.prog 6 #[hv l i t p f o, .int .i64 k, .slice A n c] w fun e w' => e = .returned (.bool true) ∧ Below w.heap.size w w' := by
  have E1 := Lib.hid (show er (bcode l i t p) = .nilIface by unfold bcode; rw [if_pos h, hE.1])
  have X1 := Lib.hid (show bxs l i t p f o = hbs l i t p f o by unfold bxs; rw [if_pos h])
  obtain ⟨e1, ha1⟩ := hE.2.1 101 (by omega)
  have hd : decide ((40 : Int) < (n : Int)) = false := by simp; omega
  have dt : decide ((0 : Int) < t) = true := by simp only [hfit, decide_eq_true_eq] at h; simp; omega
  obtain ⟨m, hm, hm20⟩ : ∃ m : Nat, k % 20 = m ∧ m < 20 := ⟨(k % 20).toNat, by omega, by omega⟩
  have N1 := fun W => number_any k 20 W (by omega) (by omega)
  rw [hm] at N1
  have hr0 := (rback h hf ho ys).1
  have hr1 := rv_back h hf ho ys
  have hhop : er (hcode (hbs l i t p f o ++ ys)) = .nilIface ∧ hops (hbs l i t p f o ++ ys) = hbs l i (t - 1) p f o := by
    obtain ⟨q1, q2⟩ := hop_back h hf ho ys ht
    exact ⟨by rw [q1, hE.1], q2⟩
  clear ht
  have hXl := hbs_len l i t p f o
  have hXb := hbs_b h hf ho
  generalize hbs l i t p f o = X at *
  have hcut : rcode (X.take m) = 101 := by unfold rcode; rw [if_pos (by simp; omega)]
  have hcutv : rv (X.take m) = hv 0 0 0 0 0 0 := by unfold rv; rw [hcut, if_neg (by omega)]
  have HC1 := Lib.hid hcutv
  have HC2 := Lib.hid (show er (rcode (X.take m)) = ev e1 by rw [hcut, ha1])
  have HR1 := Lib.hid hr1
  have HR2 := Lib.hid (show er (rcode (X ++ ys)) = .nilIface by rw [hr0, hE.1])
  have HH := Lib.hid hhop
  have HY := Lib.hid hbr
  obtain ⟨i0, hi, hz0, hz1, hz2⟩ := info_parts info_u8
  have HE := Lib.hid hE
  have hB0 : Below w.heap.size w (w.alloc (.cells #[.int .i64 l, .int .i64 i, .int .i64 t, .int .i64 p, .int .u32 f, .int .u32 o] 25)) := (Below.refl _ _).alloc (Nat.le_refl _) _
  have hk : Blk (w.alloc (.cells #[.int .i64 l, .int .i64 i, .int .i64 t, .int .i64 p, .int .u32 f, .int .u32 o] 25)) w.heap.size 25 #[.int .i64 l, .int .i64 i, .int .i64 t, .int .i64 p, .int .u32 f, .int .u32 o] := Blk.new _ _ _
  have HK := Lib.hid hk
  unfold ev hv at *
  clear hE h hk hm hr0 hr1 hcut hcutv hhop ha1 hbr
  go_enter Tryd.func6, Tryd.ntmps6
  go_wp2_with (first
    | (go_at_call 7; refine (first_any er _ (HE.out.below hB0)).mono ?_; rintro e w1 ⟨rfl, hb⟩
       have hB1 := below_next hB0 hb
       have hkk := HK.out.next hb
       have a0 : ∀ W : World, Below w1.heap.size w1 W → W.cell? ⟨w.heap.size, 0, none⟩ = some (.int .i64 l) := fun W hW => keepc (hkk.cell 0) hW
       have a1 : ∀ W : World, Below w1.heap.size w1 W → W.cell? ⟨w.heap.size, 1, none⟩ = some (.int .i64 i) := fun W hW => keepc (hkk.cell 1) hW
       have a2 : ∀ W : World, Below w1.heap.size w1 W → W.cell? ⟨w.heap.size, 2, none⟩ = some (.int .i64 t) := fun W hW => keepc (hkk.cell 2) hW
       have a3 : ∀ W : World, Below w1.heap.size w1 W → W.cell? ⟨w.heap.size, 3, none⟩ = some (.int .i64 p) := fun W hW => keepc (hkk.cell 3) hW
       have a4 : ∀ W : World, Below w1.heap.size w1 W → W.cell? ⟨w.heap.size, 4, none⟩ = some (.int .u32 f) := fun W hW => keepc (hkk.cell 4) hW
       have a5 : ∀ W : World, Below w1.heap.size w1 W → W.cell? ⟨w.heap.size, 5, none⟩ = some (.int .u32 o) := fun W hW => keepc (hkk.cell 5) hW
       have hS1 : Below w1.heap.size w1 w1 := Below.refl _ _
       clear hb hkk)
    | (go_at_call 8; refine (ibytes_gen er _ _ _ _ _ _ _ (HE.out.below hB1) hf ho).mono ?_; rintro e w2 ⟨A2, n2, c2, rfl, hc2, hbr2, hb⟩
       rw [E1.out]; rw [X1.out] at hbr2
       obtain rfl : n2 = 20 := hbr2.len.symm.trans hXl
       obtain ⟨q, z, rfl, _, _⟩ := hbr2.2.2 (by omega)
       have hm0 : (0 : Int) ≤ (m : Int) := by omega
       have hm1 : (m : Int) ≤ (c2 : Int) := by omega
       have hB2 : Below w.heap.size w w2 := below_next hB1 hb
       have hS2 : Below w1.heap.size w1 w2 := hb
       have hSr : Below w2.heap.size w2 w2 := Below.refl _ _
       clear hb)
    | (go_at_call 19; refine (N1 _).mono ?_; rintro e w3 ⟨rfl, rfl⟩)
    | (go_at_call 18; refine (rbytes_any _ 20 _ X _ (hbr2.next (by first | with_reducible assumption | with_reducible exact below_al (by with_reducible assumption) _)) (by omega)).mono ?_; rintro e w5 ⟨g5, c5, rfl, hown5, hb5⟩)
    | (at_builtin; refine wpList_append_br rfl _ _ 26 rfl _ 5 i0 Tryd.underlying26 hi hz0 hz1 hz2 _ 20 X rfl hown5 A n c ys rfl (((HY.out.next hB2).next (by first | with_reducible assumption | with_reducible exact below_al (by with_reducible assumption) _)).next hb5) (by omega) (by omega) hb5.size ?_
       intro v6 w6 hown6 hb6
       obtain ⟨A6, c6, rfl⟩ := own_slice hown6 (by omega)
       have hbr6 := own_br hown6 (hXb.append HY.out.isB)
       have hW6 := hb5.trans hb6
       have hS6 : Below w2.heap.size w2 w6 := below_next (by first | with_reducible assumption | with_reducible exact below_al (by with_reducible assumption) _) hW6
       try have hx := hx.next hW6
       clear hown6 hb6 hown5 hb5)
    | (go_at_call 11; refine (read_any er _ _ _ _ _ (HE.out.below (below_next hB2 (by with_reducible assumption))) (by first | with_reducible exact hbr6.1 | exact hbr2.upto (by omega)) (by first | exact hbr6.2 | omega)).mono ?_; rintro e w7 ⟨rfl, hb⟩
       have hS7 : Below w2.heap.size w2 w7 := below_next (by with_reducible assumption) hb
       first
       | rw [HC1.out, HC2.out]
       | (rw [HR1.out, HR2.out]
          have hx := Blk.new w7 25 #[.int .i64 l, .int .i64 i, .int .i64 t, .int .i64 p, .int .u32 f, .int .u32 o])
       clear hb)
    | (go_at_call 13; refine (hop_any er _ _ _ _ _ (HE.out.below (below_next hB2 hS6)) hbr6.1 hbr6.2).mono ?_; rintro e w9 ⟨A9, m9, c9, rfl, hm9, hbr9, hb9⟩
       rw [HH.out.1]; rw [HH.out.2] at hbr9
       obtain rfl : m9 = 20 := hbr9.len.symm.trans (hbs_len _ _ _ _ _ _)
       have hx9 := hx.next hb9
       have hS9 : Below w2.heap.size w2 w9 := below_next hS6 hb9))

  have A0 : ∀ W : World, Below w9.heap.size w9 W → W.cell? ⟨w.heap.size, 0, none⟩ = some (.int .i64 l) := fun W hW => a0 W (below_next (below_next hS2 hS9) hW)
  have A1 : ∀ W : World, Below w9.heap.size w9 W → W.cell? ⟨w.heap.size, 1, none⟩ = some (.int .i64 i) := fun W hW => a1 W (below_next (below_next hS2 hS9) hW)
  have A2 : ∀ W : World, Below w9.heap.size w9 W → W.cell? ⟨w.heap.size, 2, none⟩ = some (.int .i64 t) := fun W hW => a2 W (below_next (below_next hS2 hS9) hW)
  have A3 : ∀ W : World, Below w9.heap.size w9 W → W.cell? ⟨w.heap.size, 3, none⟩ = some (.int .i64 p) := fun W hW => a3 W (below_next (below_next hS2 hS9) hW)
  have A4 : ∀ W : World, Below w9.heap.size w9 W → W.cell? ⟨w.heap.size, 4, none⟩ = some (.int .u32 f) := fun W hW => a4 W (below_next (below_next hS2 hS9) hW)
  have A5 : ∀ W : World, Below w9.heap.size w9 W → W.cell? ⟨w.heap.size, 5, none⟩ = some (.int .u32 o) := fun W hW => a5 W (below_next (below_next hS2 hS9) hW)
  have X0 : ∀ W : World, Below w9.heap.size w9 W → W.cell? ⟨w7.heap.size, 0, none⟩ = some (.int .i64 l) := fun W hW => keepc (hx9.cell 0) hW
  have X1 : ∀ W : World, Below w9.heap.size w9 W → W.cell? ⟨w7.heap.size, 1, none⟩ = some (.int .i64 i) := fun W hW => keepc (hx9.cell 1) hW
  have X2 : ∀ W : World, Below w9.heap.size w9 W → W.cell? ⟨w7.heap.size, 2, none⟩ = some (.int .i64 t) := fun W hW => keepc (hx9.cell 2) hW
  have X3 : ∀ W : World, Below w9.heap.size w9 W → W.cell? ⟨w7.heap.size, 3, none⟩ = some (.int .i64 p) := fun W hW => keepc (hx9.cell 3) hW
  have X4 : ∀ W : World, Below w9.heap.size w9 W → W.cell? ⟨w7.heap.size, 4, none⟩ = some (.int .u32 f) := fun W hW => keepc (hx9.cell 4) hW
  have X5 : ∀ W : World, Below w9.heap.size w9 W → W.cell? ⟨w7.heap.size, 5, none⟩ = some (.int .u32 o) := fun W hW => keepc (hx9.cell 5) hW
  have hB9 := below_next hB2 hS9
  have HB9 := Lib.hid hB9
  clear a0 a1 a2 a3 a4 a5 hS2 hS9 hB9
  go_region_held3 (fun w' => Below w9.heap.size w9 w')
    (first | with_reducible assumption | with_reducible exact (Below.refl _ _).drew)
    (first
    | (go_at_call 10; refine (other_any _ _ _ _ _ _ _).mono ?_; rintro e wa ⟨rfl, hb7⟩; have hb8 := below_next (w := w9) (by with_reducible assumption) hb7)
    | (go_at_call 17; refine (same_hdr _ _ _ _ _ _ _ _ _ _ _ _ _).mono ?_; rintro e wa ⟨rfl, hb7⟩; have hb8 := below_next (w := w9) (by with_reducible assumption) hb7))
  go_wp2
  go_ret
  exact ⟨ret_bool (by simp), below_next HB9.out hb8⟩
theorem law_cut (hE : EnvE er w) (hf : isA f) (ho : isA o) (hbr : BR w A n ys) :
    Calls Tryd.prog 6 #[hv l i t p f o, .int .i64 k, .slice A n c] w fun e w' => e = .returned (.bool true) ∧ Below w.heap.size w w' := by
  by_cases h : hfit l i t p = true
  · rcases Nat.lt_or_ge 40 n with hn | hn
    · exact cut_big er l i t p f o k A n c w hE h hf ho hn
    · by_cases ht : t = 0
      · exact cut_end er l i t p f o k A n c ys w hE h hf ho hn hbr ht
      · exact cut_hop er l i t p f o k A n c ys w hE h hf ho hn hbr ht
  · exact cut_no er l i t p f o k A n c w hE (by simpa using h) hf ho
end
end Go.Proofs.YtgjpclmkjoghiaaDoor
