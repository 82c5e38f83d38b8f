/- The statement on any header, any bytes, walked. -/
import Derived.Test.YtgjpclmkjoghiaaDoorIpBack
import Derived.Test.YtgjpclmkjoghiaaDoorIpR5
import Derived.Test.YtgjpclmkjoghiaaDoorSeeN
namespace Go.Proofs.YtgjpclmkjoghiaaDoor
open Go.RowKit Sm
theorem rbytes_gen (l i t p f o : Int) (w : World) (hf : isA f) (ho : isA o) :
    Calls Tryd.prog 9 #[hv l i t p f o] w fun e w' => ∃ A n c, e = .returned (.tuple #[.slice A n c, .int .i64 (bcode l i t p)]) ∧ n ≤ c ∧ BR w' A n (bxs l i t p f o) ∧ Below w.heap.size w w' := by
  by_cases h : hfit l i t p = true
  · have e1 : bcode l i t p = 0 := if_pos h
    have e2 : bxs l i t p f o = hbs l i t p f o := if_pos h
    rw [e1, e2]
    refine (rbytes_yes l i t p f o w h hf ho).mono ?_
    rintro e w1 ⟨A, c, rfl, hown, hb⟩
    have := own_br hown (hbs_b h hf ho)
    exact ⟨A, 20, c, rfl, this.2, this.1, hb⟩
  · have e1 : bcode l i t p = 103 := if_neg h
    have e2 : bxs l i t p f o = [] := if_neg h
    rw [e1, e2]
    refine (rbytes_no l i t p f o w (by simpa using h)).mono ?_
    rintro e w1 ⟨rfl, hb⟩
    exact ⟨none, 0, 0, rfl, Nat.le_refl _, BR.none_ _ _, hb⟩
theorem bxs_le (l i t p f o : Int) : (bxs l i t p f o).length ≤ 20 := by unfold bxs; split <;> simp [hbs_len]
theorem hops_le (xs : List Int) : (hops xs).length ≤ 20 := by unfold hops; split <;> simp [hbs_len]
theorem rv_form (xs : List Int) : ∃ r0 r1 r2 r3 r4 r5, rv xs = hv r0 r1 r2 r3 r4 r5 := by unfold rv; split <;> exact ⟨_, _, _, _, _, _, rfl⟩
def IsC (c : Int) : Prop := c = 0 ∨ ∃ j : Nat, j < 14 ∧ c = 101 + (j : Int)
theorem isC_b (l i t p : Int) : IsC (bcode l i t p) := by unfold bcode; split; exact .inl rfl; exact .inr ⟨2, by omega, by omega⟩
theorem isC_r (xs : List Int) : IsC (rcode xs) := by
  rcases rcode_cases xs with h | h | h | h | h
  · exact .inr ⟨0, by omega, by omega⟩
  · exact .inr ⟨1, by omega, by omega⟩
  · exact .inr ⟨4, by omega, by omega⟩
  · exact .inr ⟨2, by omega, by omega⟩
  · exact .inl h
theorem isC_h (xs : List Int) : IsC (hcode xs) := by
  unfold hcode
  split
  · split; exact .inr ⟨2, by omega, by omega⟩; exact .inl rfl
  · exact isC_r xs
theorem is_code (ads : List Addr) (er : Int → Value) (he : ∀ (j : Nat) (b : Addr), j < 14 → ads[j]? = some b → er (101 + (j : Int)) = ev b) (h0 : er 0 = .nilIface) (c : Int) (hc : IsC c) (w : World) (hS : EnvS ads w) :
    Calls Tryd.prog 15 #[er c, .int .i64 c] w fun e w' => e = .returned (.bool true) ∧ Below w.heap.size w w' := by
  rcases hc with rfl | ⟨j, hj, rfl⟩
  · rw [h0]
    exact is_nil 0 w
  · have h3 : ads[j]? = some (ads[j]'(by rw [hS.1]; omega)) := by simp [hS.1, hj]
    rw [he j _ hj h3]
    refine (is_any ads j _ _ w hS hj h3).mono ?_
    rintro e w' ⟨rfl, hb⟩
    exact ⟨ret_bool (by simp), hb⟩
theorem same_eq (A B : Option Addr) (n m c d : Nat) (xs : List Int) (w : World) (h : BR w A n xs) (g : BR w B m xs) (hn : n ≤ 1048576) (hm : m ≤ 1048576) :
    Calls Tryd.prog 16 #[.slice A n c, .slice B m d] w fun e w' => e = .returned (.bool true) ∧ Below w.heap.size w w' := by
  refine (same_any A B n m c d xs xs w h g hn hm).mono ?_
  rintro e w' ⟨rfl, hb⟩
  exact ⟨ret_bool (by simp), hb⟩
set_option maxRecDepth 100000 in
set_option maxHeartbeats 8000000 in
theorem says_small (ads : List Addr) (er : Int → Value) (l i t p f o : Int) (A : Option Addr) (n c : Nat) (xs : List Int) (w : World) (hE : EnvE er w) (hS : EnvS ads w) (he : ∀ (j : Nat) (b : Addr), j < 14 → ads[j]? = some b → er (101 + (j : Int)) = ev b) (hf : isA f) (ho : isA o) (h : BR w A n xs) (hc : n ≤ c) (hn : n ≤ 60) :
    Calls Tryd.prog 3 #[hv l i t p f o, .slice A n c] w fun e w' => e = .returned (.bool true) ∧ Below w.heap.size w w' := by
  have hd : decide ((60 : Int) < (n : Int)) = false := by simp; omega
  have HE := Lib.hid hE
  have HS := Lib.hid hS
  have HI := Lib.hid (fun c hc w hS => is_code ads er he hE.1 c hc w hS)
  have HX := Lib.hid h
  have hB0 : Below w.heap.size w (w.alloc (.cells #[.int .i64 l, .int .i64 i, .int .i64 t, .int .i64 p, .int .u32 f, .int .u32 o] 25)) := (Below.refl _ _).alloc (Nat.le_refl _) _
  have hk : Blk (w.alloc (.cells #[.int .i64 l, .int .i64 i, .int .i64 t, .int .i64 p, .int .u32 f, .int .u32 o] 25)) w.heap.size 25 #[.int .i64 l, .int .i64 i, .int .i64 t, .int .i64 p, .int .u32 f, .int .u32 o] := Blk.new _ _ _
  have HK := Lib.hid hk
  obtain ⟨r0, r1, r2, r3, r4, r5, hrv⟩ := rv_form xs
  have HV := Lib.hid hrv
  have hl1 := bxs_le l i t p f o
  have hl2 := hops_le xs
  unfold hv at *
  clear hE hS he hk hrv h
  go_enter Tryd.func3, Tryd.ntmps3
  go_wp2_with (first
    | (go_at_call 7; refine (first_any er _ (HE.out.below hB0)).mono ?_; rintro e w1 ⟨rfl, hb⟩
       have hB1 := below_next hB0 hb
       have hkk := HK.out.next hb
       have a0 : ∀ W : World, Below w1.heap.size w1 W → W.cell? ⟨w.heap.size, 0, none⟩ = some (.int .i64 l) := fun W hW => keepc (hkk.cell 0) hW
       have a1 : ∀ W : World, Below w1.heap.size w1 W → W.cell? ⟨w.heap.size, 1, none⟩ = some (.int .i64 i) := fun W hW => keepc (hkk.cell 1) hW
       have a2 : ∀ W : World, Below w1.heap.size w1 W → W.cell? ⟨w.heap.size, 2, none⟩ = some (.int .i64 t) := fun W hW => keepc (hkk.cell 2) hW
       have a3 : ∀ W : World, Below w1.heap.size w1 W → W.cell? ⟨w.heap.size, 3, none⟩ = some (.int .i64 p) := fun W hW => keepc (hkk.cell 3) hW
       have a4 : ∀ W : World, Below w1.heap.size w1 W → W.cell? ⟨w.heap.size, 4, none⟩ = some (.int .u32 f) := fun W hW => keepc (hkk.cell 4) hW
       have a5 : ∀ W : World, Below w1.heap.size w1 W → W.cell? ⟨w.heap.size, 5, none⟩ = some (.int .u32 o) := fun W hW => keepc (hkk.cell 5) hW
       have hS1 : Below w1.heap.size w1 w1 := Below.refl _ _
       clear hb hkk)
    | (go_at_call 8; refine (ibytes_gen er _ _ _ _ _ _ _ (HE.out.below hB1) hf ho).mono ?_; rintro e w2 ⟨A2, n2, c2, rfl, hc2, hbr2, hb⟩
       have hS2 : Below w1.heap.size w1 w2 := hb
       clear hb)
    | (go_at_call 10; refine (other_any _ _ _ _ _ _ _).mono ?_; rintro e wo ⟨rfl, hb⟩
       have hSo : Below w1.heap.size w1 wo := below_next hS2 hb
       have hbro := hbr2.next hb
       clear hb)
    | (go_at_call 9; refine (rbytes_gen _ _ _ _ _ _ _ hf ho).mono ?_; rintro e w3 ⟨A3, n3, c3, rfl, hc3, hbr3, hb⟩
       have hS3 : Below w1.heap.size w1 w3 := below_next hSo hb
       have hbr23 := hbro.next hb
       clear hb)
    | (go_at_call 11; refine (read_any er _ _ _ _ _ (HE.out.below (below_next hB1 hS3)) ((HX.out.next hB1).next hS3) hc).mono ?_; rintro e w4 ⟨rfl, hb⟩
       rw [HV.out]
       have hb4 : Below w3.heap.size w3 w4 := hb
       have hz4 := below_al hb4 (.cells #[.int .i64 r0, .int .i64 r1, .int .i64 r2, .int .i64 r3, .int .u32 r4, .int .u32 r5] 25)
       have hx4 := Blk.new w4 25 #[.int .i64 r0, .int .i64 r1, .int .i64 r2, .int .i64 r3, .int .u32 r4, .int .u32 r5]
       clear hb)
    | (go_at_call 12; refine (rread_any _ _ _ _ _ (((HX.out.next hB1).next hS3).next hz4) hc).mono ?_; rintro e w5 ⟨rfl, hb⟩
       rw [HV.out]
       have hz5 := below_al (below_next hz4 hb) (.cells #[.int .i64 r0, .int .i64 r1, .int .i64 r2, .int .i64 r3, .int .u32 r4, .int .u32 r5] 34)
       have hx45 := (hx4.next hb).alloc (.cells #[.int .i64 r0, .int .i64 r1, .int .i64 r2, .int .i64 r3, .int .u32 r4, .int .u32 r5] 34)
       have hx5 := Blk.new w5 34 #[.int .i64 r0, .int .i64 r1, .int .i64 r2, .int .i64 r3, .int .u32 r4, .int .u32 r5]
       clear hb hx4)
    | (go_at_call 13; refine (hop_any er _ _ _ _ _ (HE.out.below (below_next (below_next hB1 hS3) hz5)) (((HX.out.next hB1).next hS3).next hz5) hc).mono ?_; rintro e w6 ⟨A6, m6, c6, rfl, hm6, hbr6, hb⟩
       have hz6 := below_next hz5 hb
       have hx46 := hx45.next hb
       have hx56 := hx5.next hb
       clear hb hx45 hx5)
    | (go_at_call 14; refine (rhop_any _ _ _ _ _ (((HX.out.next hB1).next hS3).next hz6) hc).mono ?_; rintro e wz ⟨Az, mz, cz, rfl, hmz, hbrz, hb⟩
       have hz7 := below_next hz6 hb
       have hx4 := hx46.next hb
       have hx5 := hx56.next hb
       have hbr6z := hbr6.next hb
       clear hb hx46 hx56))
  have hBz := below_next (below_next hB1 hS3) hz7
  have hb2z := hbr23.next hz7
  have hb3z := hbr3.next hz7
  have e2 := hb2z.len
  have e3 := hb3z.len
  have e6 := hbr6z.len
  have ez := hbrz.len
  have x0 : ∀ W : World, Below wz.heap.size wz W → W.cell? ⟨w4.heap.size, 0, none⟩ = some (.int .i64 r0) := fun W hW => keepc (hx4.cell 0) hW
  have x1 : ∀ W : World, Below wz.heap.size wz W → W.cell? ⟨w4.heap.size, 1, none⟩ = some (.int .i64 r1) := fun W hW => keepc (hx4.cell 1) hW
  have x2 : ∀ W : World, Below wz.heap.size wz W → W.cell? ⟨w4.heap.size, 2, none⟩ = some (.int .i64 r2) := fun W hW => keepc (hx4.cell 2) hW
  have x3 : ∀ W : World, Below wz.heap.size wz W → W.cell? ⟨w4.heap.size, 3, none⟩ = some (.int .i64 r3) := fun W hW => keepc (hx4.cell 3) hW
  have x4 : ∀ W : World, Below wz.heap.size wz W → W.cell? ⟨w4.heap.size, 4, none⟩ = some (.int .u32 r4) := fun W hW => keepc (hx4.cell 4) hW
  have x5 : ∀ W : World, Below wz.heap.size wz W → W.cell? ⟨w4.heap.size, 5, none⟩ = some (.int .u32 r5) := fun W hW => keepc (hx4.cell 5) hW
  have y0 : ∀ W : World, Below wz.heap.size wz W → W.cell? ⟨w5.heap.size, 0, none⟩ = some (.int .i64 r0) := fun W hW => keepc (hx5.cell 0) hW
  have y1 : ∀ W : World, Below wz.heap.size wz W → W.cell? ⟨w5.heap.size, 1, none⟩ = some (.int .i64 r1) := fun W hW => keepc (hx5.cell 1) hW
  have y2 : ∀ W : World, Below wz.heap.size wz W → W.cell? ⟨w5.heap.size, 2, none⟩ = some (.int .i64 r2) := fun W hW => keepc (hx5.cell 2) hW
  have y3 : ∀ W : World, Below wz.heap.size wz W → W.cell? ⟨w5.heap.size, 3, none⟩ = some (.int .i64 r3) := fun W hW => keepc (hx5.cell 3) hW
  have y4 : ∀ W : World, Below wz.heap.size wz W → W.cell? ⟨w5.heap.size, 4, none⟩ = some (.int .u32 r4) := fun W hW => keepc (hx5.cell 4) hW
  have y5 : ∀ W : World, Below wz.heap.size wz W → W.cell? ⟨w5.heap.size, 5, none⟩ = some (.int .u32 r5) := fun W hW => keepc (hx5.cell 5) hW
  have HBz := Lib.hid hBz
  have hzz : Below wz.heap.size wz wz := Below.refl _ _
  go_wp2_with (first
    | (go_at_call 15; refine (HI.out _ (by first | exact isC_b _ _ _ _ | exact isC_r _ | exact isC_h _) _ (HS.out.below (below_next hBz (by with_reducible assumption)))).mono ?_; rintro e wa ⟨rfl, hb7⟩
       have hb8 : Below wz.heap.size wz wa := below_next (by with_reducible assumption) hb7)
    | (go_at_call 16; refine (same_eq _ _ _ _ _ _ _ _ (by first | with_reducible exact hb2z.next (by assumption) | with_reducible exact hbr6z.next (by assumption)) (by first | with_reducible exact hb3z.next (by assumption) | with_reducible exact hbrz.next (by assumption)) (by omega) (by omega)).mono ?_; rintro e wa ⟨rfl, hb7⟩
       have hb8 : Below wz.heap.size wz wa := below_next (by with_reducible assumption) hb7)
    | (go_at_call 17; refine (same_self _ _ _ _ _ _ _).mono ?_; rintro e wa ⟨rfl, hb7⟩
       have hb8 : Below wz.heap.size wz wa := below_next (by with_reducible assumption) hb7))
  go_ret
  exact ⟨rfl, below_next HBz.out hb8⟩
set_option maxHeartbeats 2000000 in
theorem says_big (er : Int → Value) (l i t p f o : Int) (A : Option Addr) (n c : Nat) (w : World) (hE : EnvE er w) (hn : 60 < n) :
    Calls Tryd.prog 3 #[hv l i t p f o, .slice A n c] w fun e w' => e = .returned (.bool true) ∧ Below w.heap.size w w' := by
  have hd : decide ((60 : Int) < (n : Int)) = true := by simp; omega
  have HE := Lib.hid hE
  have hB0 : Below w.heap.size w (w.alloc (.cells #[.int .i64 l, .int .i64 i, .int .i64 t, .int .i64 p, .int .u32 f, .int .u32 o] 25)) := (Below.refl _ _).alloc (Nat.le_refl _) _
  unfold hv
  clear hE
  go_enter Tryd.func3, Tryd.ntmps3
  go_wp2_with (go_at_call 7; refine (first_any er _ (HE.out.below hB0)).mono ?_; rintro e w1 ⟨rfl, hb⟩; have hB1 := below_next hB0 hb)
  go_ret
  exact ⟨rfl, hB1⟩
theorem law_says (ads : List Addr) (l i t p f o : Int) (A : Option Addr) (n c : Nat) (xs : List Int) (w : World) (hS : EnvS ads w) (hf : isA f) (ho : isA o) (h : BR w A n xs) (hc : n ≤ c) :
    Calls Tryd.prog 3 #[hv l i t p f o, .slice A n c] w fun e w' => e = .returned (.bool true) ∧ Below w.heap.size w w' := by
  obtain ⟨er, hE, he⟩ := envE_of_S hS
  rcases Nat.lt_or_ge 60 n with hn | hn
  · exact says_big er l i t p f o A n c w hE hn
  · exact says_small ads er l i t p f o A n c xs w hE hS he hf ho h hc hn
end Go.Proofs.YtgjpclmkjoghiaaDoor
