/- The statement on headers read back, walked. -/
import Derived.Test.YtgjpclmkjoghiaaDoorIpL
import Derived.Test.YtgjpclmkjoghiaaDoorAppB
import Derived.Test.YtgjpclmkjoghiaaDoorIpCut
namespace Go.Proofs.YtgjpclmkjoghiaaDoor
open Go.RowKit Sm
theorem envE_of_S {ads : List Addr} {w : World} (h : EnvS ads w) : ∃ er, EnvE er w ∧ ∀ (j : Nat) (b : Addr), j < 14 → ads[j]? = some b → er (101 + (j : Int)) = ev b := by
  obtain ⟨h1, _, h3, _⟩ := h
  have hx : ∀ j, j < 14 → ∃ b, ads[j]? = some b := fun j hj => ⟨ads[j]'(by omega), by simp [h1, hj]⟩
  have he : ∀ (j : Nat) (b : Addr), j < 14 → ads[j]? = some b → (fun c : Int => if c = 0 then Value.nilIface else ev (ads.getD (c - 101).toNat ⟨0, 0, none⟩)) (101 + (j : Int)) = ev b := by
    intro j b hj hb
    show (if _ then _ else _) = _
    rw [if_neg (by omega), show (101 + (j : Int) - 101).toNat = j by omega]
    simp [List.getD, hb]
  obtain ⟨b0, g0⟩ := hx 0 (by omega)
  obtain ⟨b1, g1⟩ := hx 1 (by omega)
  obtain ⟨b2, g2⟩ := hx 2 (by omega)
  obtain ⟨b4, g4⟩ := hx 4 (by omega)
  have e0 := he 0 b0 (by omega) g0
  have e1 := he 1 b1 (by omega) g1
  have e2 := he 2 b2 (by omega) g2
  have e4 := he 4 b4 (by omega) g4
  refine ⟨fun c : Int => if c = 0 then Value.nilIface else ev (ads.getD (c - 101).toNat ⟨0, 0, none⟩), ⟨rfl, ?_, ?_, ?_, ?_, ?_⟩, he⟩
  · rintro c (rfl | rfl | rfl | rfl)
    · exact ⟨b0, e0⟩
    · exact ⟨b1, e1⟩
    · exact ⟨b4, e4⟩
    · exact ⟨b2, e2⟩
  · exact (h3 0 _ b0 rfl g0).trans (congrArg some e0.symm)
  · exact (h3 1 _ b1 rfl g1).trans (congrArg some e1.symm)
  · exact (h3 2 _ b2 rfl g2).trans (congrArg some e2.symm)
  · exact (h3 4 _ b4 rfl g4).trans (congrArg some e4.symm)
theorem fit_x {l i t p x : Int} (h : hfit l i t p = true) (h0 : 0 ≤ x) (h1 : x ≤ t) : hfit l i x p = true := by
  simp only [hfit, decide_eq_true_eq] at h ⊢
  omega
section
variable (er : Int → Value) (l i t p f o k : Int) (A : Option Addr) (n c : Nat) (ys : List Int) (w : World)
set_option maxHeartbeats 2000000 in
theorem back_no (hE : EnvE er w) (h : hfit l i t p = false) (hf : isA f) (ho : isA o) (hn : n ≤ 40) :
    Calls Tryd.prog 4 #[hv l i t p f o, .int .i64 k, .slice A n c] w fun e w' => e = .returned (.bool true) ∧ Below w.heap.size w w' := by
  obtain ⟨a, ha⟩ := hE.2.1 103 (by omega)
  have E1 := Lib.hid (show er (bcode l i t p) = ev a by unfold bcode; rw [if_neg (by rw [h]; simp), ha])
  have X1 := Lib.hid (show bxs l i t p f o = [] by unfold bxs; rw [if_neg (by rw [h]; simp)])
  have hd : decide ((40 : Int) < (n : Int)) = false := by simp; omega
  have HE := Lib.hid hE
  have hB0 : Below w.heap.size w (w.alloc (.cells #[.int .i64 l, .int .i64 i, .int .i64 t, .int .i64 p, .int .u32 f, .int .u32 o] 25)) := (Below.refl _ _).alloc (Nat.le_refl _) _
  have hk : Blk (w.alloc (.cells #[.int .i64 l, .int .i64 i, .int .i64 t, .int .i64 p, .int .u32 f, .int .u32 o] 25)) w.heap.size 25 #[.int .i64 l, .int .i64 i, .int .i64 t, .int .i64 p, .int .u32 f, .int .u32 o] := Blk.new _ _ _
  have HK := Lib.hid hk
  unfold ev hv at *
  clear hE ha h hk
  go_enter Tryd.func4, Tryd.ntmps4
  go_wp2_with (first
    | (go_at_call 7; refine (first_any er _ (HE.out.below hB0)).mono ?_; rintro e w1 ⟨rfl, hb⟩
       have hB1 := below_next hB0 hb
       have hkk := HK.out.next hb
       have a0 : ∀ W : World, Below w1.heap.size w1 W → W.cell? ⟨w.heap.size, 0, none⟩ = some (.int .i64 l) := fun W hW => keepc (hkk.cell 0) hW
       have a1 : ∀ W : World, Below w1.heap.size w1 W → W.cell? ⟨w.heap.size, 1, none⟩ = some (.int .i64 i) := fun W hW => keepc (hkk.cell 1) hW
       have a2 : ∀ W : World, Below w1.heap.size w1 W → W.cell? ⟨w.heap.size, 2, none⟩ = some (.int .i64 t) := fun W hW => keepc (hkk.cell 2) hW
       have a3 : ∀ W : World, Below w1.heap.size w1 W → W.cell? ⟨w.heap.size, 3, none⟩ = some (.int .i64 p) := fun W hW => keepc (hkk.cell 3) hW
       have a4 : ∀ W : World, Below w1.heap.size w1 W → W.cell? ⟨w.heap.size, 4, none⟩ = some (.int .u32 f) := fun W hW => keepc (hkk.cell 4) hW
       have a5 : ∀ W : World, Below w1.heap.size w1 W → W.cell? ⟨w.heap.size, 5, none⟩ = some (.int .u32 o) := fun W hW => keepc (hkk.cell 5) hW
       have hS1 : Below w1.heap.size w1 w1 := Below.refl _ _
       clear hb hkk)
    | (go_at_call 8; refine (ibytes_gen er _ _ _ _ _ _ _ (HE.out.below hB1) hf ho).mono ?_; rintro e w2 ⟨A2, n2, c2, rfl, hc2, hbr2, hb⟩
       rw [E1.out]; rw [X1.out] at hbr2
       obtain rfl : n2 = 0 := hbr2.len.symm
       have hB2 : Below w.heap.size w w2 := below_next hB1 hb
       have hS2 : Below w1.heap.size w1 w2 := hb
       have hSr : Below w2.heap.size w2 w2 := Below.refl _ _
       clear hb))
  go_ret
  exact ⟨rfl, hB2⟩
set_option maxHeartbeats 2000000 in
theorem back_big (hE : EnvE er w) (hf : isA f) (ho : isA o) (hn : 40 < n) (E : Value) (hEe : er (bcode l i t p) = E) (hEn : E = .nilIface ∨ ∃ a, E = ev a) :
    Calls Tryd.prog 4 #[hv l i t p f o, .int .i64 k, .slice A n c] w fun e w' => e = .returned (.bool true) ∧ Below w.heap.size w w' := by
  have E1 := Lib.hid hEe
  have X1 := Lib.hid (rfl : bxs l i t p f o = bxs l i t p f o)
  have hd : decide ((40 : Int) < (n : Int)) = true := by simp; omega
  have HE := Lib.hid hE
  have hB0 : Below w.heap.size w (w.alloc (.cells #[.int .i64 l, .int .i64 i, .int .i64 t, .int .i64 p, .int .u32 f, .int .u32 o] 25)) := (Below.refl _ _).alloc (Nat.le_refl _) _
  have hk : Blk (w.alloc (.cells #[.int .i64 l, .int .i64 i, .int .i64 t, .int .i64 p, .int .u32 f, .int .u32 o] 25)) w.heap.size 25 #[.int .i64 l, .int .i64 i, .int .i64 t, .int .i64 p, .int .u32 f, .int .u32 o] := Blk.new _ _ _
  have HK := Lib.hid hk
  rcases hEn with rfl | ⟨a, rfl⟩
  all_goals
    unfold hv at *
    try unfold ev at *
    clear hE hk hEe
    go_enter Tryd.func4, Tryd.ntmps4
    go_wp2_with (first
      | (go_at_call 7; refine (first_any er _ (HE.out.below hB0)).mono ?_; rintro e w1 ⟨rfl, hb⟩
         have hB1 := below_next hB0 hb
         have hkk := HK.out.next hb
         have a0 : ∀ W : World, Below w1.heap.size w1 W → W.cell? ⟨w.heap.size, 0, none⟩ = some (.int .i64 l) := fun W hW => keepc (hkk.cell 0) hW
         have a1 : ∀ W : World, Below w1.heap.size w1 W → W.cell? ⟨w.heap.size, 1, none⟩ = some (.int .i64 i) := fun W hW => keepc (hkk.cell 1) hW
         have a2 : ∀ W : World, Below w1.heap.size w1 W → W.cell? ⟨w.heap.size, 2, none⟩ = some (.int .i64 t) := fun W hW => keepc (hkk.cell 2) hW
         have a3 : ∀ W : World, Below w1.heap.size w1 W → W.cell? ⟨w.heap.size, 3, none⟩ = some (.int .i64 p) := fun W hW => keepc (hkk.cell 3) hW
         have a4 : ∀ W : World, Below w1.heap.size w1 W → W.cell? ⟨w.heap.size, 4, none⟩ = some (.int .u32 f) := fun W hW => keepc (hkk.cell 4) hW
         have a5 : ∀ W : World, Below w1.heap.size w1 W → W.cell? ⟨w.heap.size, 5, none⟩ = some (.int .u32 o) := fun W hW => keepc (hkk.cell 5) hW
         have hS1 : Below w1.heap.size w1 w1 := Below.refl _ _
         clear hb hkk)
      | (go_at_call 8; refine (ibytes_gen er _ _ _ _ _ _ _ (HE.out.below hB1) hf ho).mono ?_; rintro e w2 ⟨A2, n2, c2, rfl, hc2, hbr2, hb⟩
         rw [E1.out]; skip
         have hB2 : Below w.heap.size w w2 := below_next hB1 hb
         have hS2 : Below w1.heap.size w1 w2 := hb
         have hSr : Below w2.heap.size w2 w2 := Below.refl _ _
         clear hb))
    go_ret
    exact ⟨rfl, hB2⟩
set_option maxRecDepth 100000 in
set_option maxHeartbeats 8000000 in
theorem back_yes (ads : List Addr) (b3 : Addr) (hE : EnvE er w) (hS : EnvS ads w) (hb3 : ads[2]? = some b3) (hb3' : er 103 = ev b3) (h : hfit l i t p = true) (hf : isA f) (ho : isA o) (hn : n ≤ 40) (hbr : BR w A n ys) :
    Calls Tryd.prog 4 #[hv l i t p f o, .int .i64 k, .slice A n c] w fun e w' => e = .returned (.bool true) ∧ Below w.heap.size w w' := by
  have E1 := Lib.hid (show er (bcode l i t p) = .nilIface by unfold bcode; rw [if_pos h, hE.1])
  have X1 := Lib.hid (show bxs l i t p f o = hbs l i t p f o by unfold bxs; rw [if_pos h])
  have hd : decide ((40 : Int) < (n : Int)) = false := by simp; omega
  obtain ⟨m, hm, hm160⟩ : ∃ m : Nat, k % 160 = m ∧ m < 160 := ⟨(k % 160).toNat, by omega, by omega⟩
  have N1 := fun W => number_any k 160 W (by omega) (by omega)
  rw [hm] at N1
  have hr0 := (rback h hf ho ys).1
  have hr1 := rv_back h hf ho ys
  have hXl := hbs_len l i t p f o
  have hXb := hbs_b h hf ho
  have hXs := hbs_sum h hf ho
  have HFI := Lib.hid h
  have HE0 := Lib.hid hE.1
  have ht0 : 0 ≤ t ∧ t ≤ 255 := by simp only [hfit, decide_eq_true_eq] at h; omega
  have HX0 := Lib.hid (show hbs l i t p f o = hbs l i t p f o from rfl)
  have HR1 := Lib.hid hr1
  have HR2 := Lib.hid (show er (rcode (hbs l i t p f o ++ ys)) = .nilIface by rw [hr0, hE.1])
  generalize hXe : hbs l i t p f o = X at *
  have HXe := Lib.hid hXe
  have hi8 : m / 8 < 20 := by omega
  have hj8 : m % 8 < 8 := by omega
  have htu := turned hXb hXs (show m / 8 < X.length by omega) hj8
  have htb := turned_b hXb (m / 8) hj8
  have hU := hXb.at_ (m / 8)
  have hUU : X.getD (m / 8) 0 = X.getD (m / 8) 0 := rfl
  obtain ⟨U, hUe⟩ : ∃ U, X.getD (m / 8) 0 = U := ⟨_, rfl⟩
  rw [hUe] at htu htb hU
  have HUe := Lib.hid hUe
  generalize hV : bits .xor .u8 U (2 ^ (m % 8)) = V at *
  obtain ⟨T, hT⟩ : ∃ T, X.set (m / 8) V = T := ⟨_, rfl⟩
  rw [hT] at htu htb
  have hTl : T.length = 20 := by rw [← hT]; simp [hXl]
  have hTn : rcode T ≠ 0 := fun h0 => htu (by
    have := (rcode_ok h0).2.2.1
    rwa [List.take_of_length_le (by omega)] at this)
  obtain ⟨aT, haT⟩ := hE.2.1 (rcode T) (by have := rcode_cases T; omega)
  have HT1 := Lib.hid (show rv T = hv 0 0 0 0 0 0 by unfold rv; rw [if_neg hTn])
  have HT2 := Lib.hid haT
  have HT := Lib.hid hT
  have HTB := Lib.hid htb
  have HTL := Lib.hid hTl
  have HY := Lib.hid hbr
  have HS := Lib.hid hS
  have HB3 := Lib.hid hb3
  have HB3' := Lib.hid hb3'
  have HXL := Lib.hid hXl
  have HXB := Lib.hid hXb
  have h2p := two8_mod hj8
  obtain ⟨i0, hi, hz0, hz1, hz2⟩ := info_parts info_u8
  have hm0 : (0 : Int) ≤ (m : Int) := by omega
  have q0 : ((m / 8 : Nat) : Int) < 20 := by omega
  have q1 : (m : Int) / 8 < 20 := by omega
  have q2 : (0 : Int) ≤ (m : Int) / 8 := by omega
  have q3 : ((m : Int) / 8).toNat = m / 8 := by omega
  have HE := Lib.hid hE
  have hB0 : Below w.heap.size w (w.alloc (.cells #[.int .i64 l, .int .i64 i, .int .i64 t, .int .i64 p, .int .u32 f, .int .u32 o] 25)) := (Below.refl _ _).alloc (Nat.le_refl _) _
  have hk : Blk (w.alloc (.cells #[.int .i64 l, .int .i64 i, .int .i64 t, .int .i64 p, .int .u32 f, .int .u32 o] 25)) w.heap.size 25 #[.int .i64 l, .int .i64 i, .int .i64 t, .int .i64 p, .int .u32 f, .int .u32 o] := Blk.new _ _ _
  have HK := Lib.hid hk
  unfold ev hv at *
  clear hE h hk hm hr0 hr1 hbr hXe hXs htu htb hTn hTl haT hT hUe hUU hS hb3 hb3' hXl hXb
  go_enter Tryd.func4, Tryd.ntmps4
  go_wp2_with (first
    | (go_at_call 7; refine (first_any er _ (HE.out.below hB0)).mono ?_; rintro e w1 ⟨rfl, hb⟩
       have hB1 := below_next hB0 hb
       have hkk := HK.out.next hb
       have a0 : ∀ W : World, Below w1.heap.size w1 W → W.cell? ⟨w.heap.size, 0, none⟩ = some (.int .i64 l) := fun W hW => keepc (hkk.cell 0) hW
       have a1 : ∀ W : World, Below w1.heap.size w1 W → W.cell? ⟨w.heap.size, 1, none⟩ = some (.int .i64 i) := fun W hW => keepc (hkk.cell 1) hW
       have a2 : ∀ W : World, Below w1.heap.size w1 W → W.cell? ⟨w.heap.size, 2, none⟩ = some (.int .i64 t) := fun W hW => keepc (hkk.cell 2) hW
       have a3 : ∀ W : World, Below w1.heap.size w1 W → W.cell? ⟨w.heap.size, 3, none⟩ = some (.int .i64 p) := fun W hW => keepc (hkk.cell 3) hW
       have a4 : ∀ W : World, Below w1.heap.size w1 W → W.cell? ⟨w.heap.size, 4, none⟩ = some (.int .u32 f) := fun W hW => keepc (hkk.cell 4) hW
       have a5 : ∀ W : World, Below w1.heap.size w1 W → W.cell? ⟨w.heap.size, 5, none⟩ = some (.int .u32 o) := fun W hW => keepc (hkk.cell 5) hW
       have hS1 : Below w1.heap.size w1 w1 := Below.refl _ _
       clear hb hkk)
    | (go_at_call 8; refine (ibytes_gen er _ _ _ _ _ _ _ (HE.out.below hB1) hf ho).mono ?_; rintro e w2 ⟨A2, n2, c2, rfl, hc2, hbr2, hb⟩
       rw [E1.out]; rw [X1.out] at hbr2
       obtain rfl : n2 = 20 := hbr2.len.symm.trans HXL.out
       obtain ⟨q, z, rfl, _, _⟩ := hbr2.2.2 (by omega)
       have hB2 : Below w.heap.size w w2 := below_next hB1 hb
       have hS2 : Below w1.heap.size w1 w2 := hb
       have hSr : Below w2.heap.size w2 w2 := Below.refl _ _
       clear hb)
    | (go_at_call 18; refine (rbytes_any _ 20 _ X _ (hbr2.next (by first | with_reducible assumption | with_reducible exact below_al (by with_reducible assumption) _)) (by omega)).mono ?_; rintro e w5 ⟨g5, c5, rfl, hown5, hb5⟩)
    | (at_builtin; refine wpList_append_br rfl _ _ 26 rfl _ 5 i0 Tryd.underlying26 hi hz0 hz1 hz2 _ 20 X rfl hown5 A n c ys rfl (((HY.out.next hB2).next (by first | with_reducible assumption | with_reducible exact below_al (by with_reducible assumption) _)).next hb5) (by omega) (by omega) hb5.size ?_
       intro v6 w6 hown6 hb6
       obtain ⟨A6, c6, rfl⟩ := own_slice hown6 (by omega)
       have hbr6 := own_br hown6 (HXB.out.append HY.out.isB)
       have hW6 := hb5.trans hb6
       have hS6 : Below w2.heap.size w2 w6 := below_next (by first | with_reducible assumption | with_reducible exact below_al (by with_reducible assumption) _) hW6
       clear hown6 hb6 hown5 hb5)
    | (go_at_call 11; refine (read_any er _ _ _ _ _ (HE.out.below (below_next hB2 (by with_reducible assumption))) hbr6.1 hbr6.2).mono ?_; rintro e w7 ⟨rfl, hb⟩
       have hS7 : Below w2.heap.size w2 w7 := below_next (by with_reducible assumption) hb
       rw [HR1.out, HR2.out]
       have hx := Blk.new w7 25 #[.int .i64 l, .int .i64 i, .int .i64 t, .int .i64 p, .int .u32 f, .int .u32 o]
       clear hb))
  have hS8 := below_al hS7 (.cells #[.int .i64 l, .int .i64 i, .int .i64 t, .int .i64 p, .int .u32 f, .int .u32 o] 25)
  generalize w7.alloc (.cells #[.int .i64 l, .int .i64 i, .int .i64 t, .int .i64 p, .int .u32 f, .int .u32 o] 25) = w8 at *
  have A0 : ∀ W : World, Below w8.heap.size w8 W → W.cell? ⟨w.heap.size, 0, none⟩ = some (.int .i64 l) := fun W hW => a0 W (below_next (below_next hS2 hS8) hW)
  have A1 : ∀ W : World, Below w8.heap.size w8 W → W.cell? ⟨w.heap.size, 1, none⟩ = some (.int .i64 i) := fun W hW => a1 W (below_next (below_next hS2 hS8) hW)
  have A2 : ∀ W : World, Below w8.heap.size w8 W → W.cell? ⟨w.heap.size, 2, none⟩ = some (.int .i64 t) := fun W hW => a2 W (below_next (below_next hS2 hS8) hW)
  have A3 : ∀ W : World, Below w8.heap.size w8 W → W.cell? ⟨w.heap.size, 3, none⟩ = some (.int .i64 p) := fun W hW => a3 W (below_next (below_next hS2 hS8) hW)
  have A4 : ∀ W : World, Below w8.heap.size w8 W → W.cell? ⟨w.heap.size, 4, none⟩ = some (.int .u32 f) := fun W hW => a4 W (below_next (below_next hS2 hS8) hW)
  have A5 : ∀ W : World, Below w8.heap.size w8 W → W.cell? ⟨w.heap.size, 5, none⟩ = some (.int .u32 o) := fun W hW => a5 W (below_next (below_next hS2 hS8) hW)
  have X0 : ∀ W : World, Below w8.heap.size w8 W → W.cell? ⟨w7.heap.size, 0, none⟩ = some (.int .i64 l) := fun W hW => keepc (hx.cell 0) hW
  have X1 : ∀ W : World, Below w8.heap.size w8 W → W.cell? ⟨w7.heap.size, 1, none⟩ = some (.int .i64 i) := fun W hW => keepc (hx.cell 1) hW
  have X2 : ∀ W : World, Below w8.heap.size w8 W → W.cell? ⟨w7.heap.size, 2, none⟩ = some (.int .i64 t) := fun W hW => keepc (hx.cell 2) hW
  have X3 : ∀ W : World, Below w8.heap.size w8 W → W.cell? ⟨w7.heap.size, 3, none⟩ = some (.int .i64 p) := fun W hW => keepc (hx.cell 3) hW
  have X4 : ∀ W : World, Below w8.heap.size w8 W → W.cell? ⟨w7.heap.size, 4, none⟩ = some (.int .u32 f) := fun W hW => keepc (hx.cell 4) hW
  have X5 : ∀ W : World, Below w8.heap.size w8 W → W.cell? ⟨w7.heap.size, 5, none⟩ = some (.int .u32 o) := fun W hW => keepc (hx.cell 5) hW
  go_region_held3 (fun w' => Below w8.heap.size w8 w')
    (first | with_reducible assumption | with_reducible exact (Below.refl _ _).drew)
    (first
    | (go_at_call 10; refine (other_any _ _ _ _ _ _ _).mono ?_; rintro e w9 ⟨rfl, hb7⟩; have hb8 := below_next (w := w8) (by with_reducible assumption) hb7)
    | (go_at_call 17; refine (same_self _ _ _ _ _ _ _).mono ?_; rintro e w9 ⟨rfl, hb7⟩; have hb8 := below_next (w := w8) (by with_reducible assumption) hb7))
  have hS29 : Below w2.heap.size w2 w9 := below_next hS8 hb8
  have hS19 : Below w1.heap.size w1 w9 := below_next hS2 hS29
  have hB9 : Below w.heap.size w w9 := below_next hB2 hS29
  have hbr9 := hbr2.next hS29
  clear A0 A1 A2 A3 A4 A5 X0 X1 X2 X3 X4 X5 hb8 hS8 hS7 hSr
  go_wp2_with (first
    | (go_at_call 19; refine (N1 _).mono ?_; rintro e w3 ⟨rfl, rfl⟩)
    | (go_at_call 18; refine (rbytes_any _ 20 _ X _ hbr9 (by omega)).mono ?_; rintro e wa ⟨g5, c5, rfl, hown5, hba⟩
       have ca : wa.cell? ⟨g5, m / 8, none⟩ = some (.int .u8 U) := (hown5.cellAt (m / 8) (by omega)).trans ((B8_at (by have := HXL.out; omega)).trans (by rw [HUe.out]))
       have fa : wa.frozen? ⟨g5, m / 8, none⟩ = false := hown5.frozenAt (m / 8)
       have hownT := own_set hown5 (m / 8) V
       rw [HT.out] at hownT
       have hbrT := own_br hownT HTB.out
       have hg5 := own_base hown5
       have hWT : Below w9.heap.size w9 (wa.setCell ⟨g5, m / 8, none⟩ (.int .u8 V)) := below_store hba hg5 _
       have hBT := below_next hB9 hWT
       clear hown5 hba hownT)
    | (go_at_call 11; refine (read_any er _ _ _ _ _ (HE.out.below hBT) hbrT.1 hbrT.2).mono ?_; rintro e wb ⟨rfl, hb⟩
       rw [HT1.out, HT2.out]
       have hWb := below_al (below_next hWT hb) (.cells #[.int .i64 0, .int .i64 0, .int .i64 0, .int .i64 0, .int .u32 0, .int .u32 0] 25)
       have hSb := below_next hS19 hWb
       clear hb))
  have hbc := hbr9.next hWb
  clear hBT hWT hbrT ca fa hbr6 hbr2 hS2 hS6 hS19 hS29 hW6 hg5
  generalize wb.alloc (.cells #[.int .i64 0, .int .i64 0, .int .i64 0, .int .i64 0, .int .u32 0, .int .u32 0] 25) = wc at *
  have hBc := below_next hB9 hWb
  clear hWb hB9 hB2 hB1 hB0
  go_loopw [8, 15] (fun v y wr => ∃ (A : Option Addr) (m c : Nat) (x : Int), v = .slice A m c ∧ m ≤ c ∧ y = .int .i64 x ∧ 0 ≤ x ∧ x ≤ t ∧ BR wr A m (hbs l i x p f o) ∧ Below wc.heap.size wc wr) (fun _ y _ => (intOf y).toNat)
  case atStart => exact ⟨_, 20, c2, t, rfl, hc2, rfl, ht0.1, Int.le_refl _, by rw [HXe.out]; exact hbc, Below.refl _ _⟩
  case round =>
    obtain ⟨A', m', c', x, rfl, hmc, rfl, hx0, hx1, hbx, hW⟩ := hrel
    have hfx := fit_x HFI.out hx0 hx1
    clear hbc
    rcases Int.lt_or_le 0 x with hp | hp
    · have hfy := fit_x (x := x - 1) HFI.out (by omega) (by omega)
      have p1 := hop_back hfx hf ho [] (by omega)
      have p2 := (rback hfy hf ho []).1
      have p3 := rv_back hfy hf ho []
      rw [List.append_nil] at p1 p2 p3
      unfold hv at p3
      have P1 := Lib.hid (show er (hcode (hbs l i x p f o)) = .nilIface by rw [p1.1, HE0.out])
      have P2 := Lib.hid p1.2
      have P3 := Lib.hid p3
      have P4 := Lib.hid (show er (rcode (hbs l i (x - 1) p f o)) = .nilIface by rw [p2, HE0.out])
      have wx : IntKind.i64.wrap (x - 1) = x - 1 := IntWalk.i64_in _ (by omega)
      clear p1 p2 p3 hfx hfy
      go_wp2_with (first
        | (go_at_call 13; refine (hop_any er _ _ _ _ _ (HE.out.below (below_next hBc hW)) hbx hmc).mono ?_; rintro e wd ⟨Ad, md, cd, rfl, hmd, hbd, hb⟩
           rw [P1.out]; rw [P2.out] at hbd
           have hWd := below_next hW hb
           clear hb)
        | (go_at_call 11; refine (read_any er _ _ _ _ _ (HE.out.below (below_next hBc hWd)) hbd hmd).mono ?_; rintro e we ⟨rfl, hb⟩
           rw [P3.out, P4.out]
           have hWe := below_al (below_next hWd hb) (.cells #[.int .i64 l, .int .i64 i, .int .i64 (x - 1), .int .i64 p, .int .u32 f, .int .u32 o] 25)
           have hbe := hbd.next (below_al hb (.cells #[.int .i64 l, .int .i64 i, .int .i64 (x - 1), .int .i64 p, .int .u32 f, .int .u32 o] 25))
           have hSe := below_next hSb hWe
           clear hb))
      go_roundw
      case rel => exact ⟨Ad, md, cd, x - 1, rfl, hmd, by go_num, by omega, by omega, hbe, hWe⟩
      case measure => simp [intOf]; omega
    · obtain rfl : x = 0 := by omega
      have p1 := hop_none hfx hf ho []
      rw [List.append_nil] at p1
      have P1 := Lib.hid (show er (hcode (hbs l i 0 p f o)) = _ by rw [p1.1, HB3'.out])
      clear p1 hfx hp
      go_wp2_with (first
        | (go_at_call 13; refine (hop_any er _ _ _ _ _ (HE.out.below (below_next hBc hW)) hbx hmc).mono ?_; rintro e wd ⟨Ad, md, cd, rfl, hmd, hbd, hb⟩
           rw [P1.out]
           have hWd := below_next hBc (below_next hW hb)
           clear hb)
        | (go_at_call 15; refine (is_any ads 2 b3 103 _ (HS.out.below hWd) (by omega) HB3.out).mono ?_; rintro e we ⟨rfl, hb⟩
           have hWe := below_next hWd hb
           clear hb))
      go_ret
      exact ⟨rfl, hWe⟩
end
theorem law_back (ads : List Addr) (l i t p f o k : Int) (A : Option Addr) (n c : Nat) (ys : List Int) (w : World) (hS : EnvS ads w) (hf : isA f) (ho : isA o) (hbr : BR w A n ys) :
    Calls Tryd.prog 4 #[hv l i t p f o, .int .i64 k, .slice A n c] w fun e w' => e = .returned (.bool true) ∧ Below w.heap.size w w' := by
  obtain ⟨er, hE, he⟩ := envE_of_S hS
  have h3 : ads[2]? = some (ads[2]'(by rw [hS.1]; omega)) := by simp [hS.1]
  have e3 : er 103 = ev (ads[2]'(by rw [hS.1]; omega)) := he 2 _ (by omega) h3
  rcases Nat.lt_or_ge 40 n with hn | hn
  · refine back_big er l i t p f o k A n c w hE hf ho hn _ rfl ?_
    unfold bcode
    split
    · exact .inl hE.1
    · exact .inr ⟨_, e3⟩
  · by_cases h : hfit l i t p = true
    · exact back_yes er l i t p f o k A n c ys w ads _ hE hS h3 e3 h hf ho hn hbr
    · exact back_no er l i t p f o k A n c w hE (by simpa using h) hf ho hn
end Go.Proofs.YtgjpclmkjoghiaaDoor
