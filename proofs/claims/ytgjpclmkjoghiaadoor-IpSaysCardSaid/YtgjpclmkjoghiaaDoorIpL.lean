/- The statements of chapter 3: their helpers, walked. -/
import Derived.Test.YtgjpclmkjoghiaaDoorIpR2
namespace Go.Proofs.YtgjpclmkjoghiaaDoor
open Go.RowKit Sm
theorem other_any (l i t p f o : Int) (w : World) :
    Calls Tryd.prog 10 #[hv l i t p f o] w fun e w' => e = .returned (hv l i t p f o) ∧ Below w.heap.size w w' := by
  unfold hv
  go_enter Tryd.func10, Tryd.ntmps10
  go_wp2
  exact bodyPost_ret (v := .agg #[.int .i64 l, .int .i64 i, .int .i64 t, .int .i64 p, .int .u32 f, .int .u32 o]) (by simp [results, Tryd.results10, go_sem]) rfl ⟨rfl, ((Below.refl _ _).alloc (Nat.le_refl _) _).alloc (by simp) _⟩
set_option maxHeartbeats 1000000 in
theorem same_hdr (l i t p f o l' i' t' p' f' o' : Int) (w : World) :
    Calls Tryd.prog 17 #[hv l i t p f o, hv l' i' t' p' f' o'] w fun e w' => e = .returned (.bool (decide (l = l' ∧ i = i' ∧ t = t' ∧ p = p' ∧ f = f' ∧ o = o'))) ∧ Below w.heap.size w w' := by
  have HH : decide (l = l' ∧ i = i' ∧ t = t' ∧ p = p' ∧ f = f' ∧ o = o') = ((l == l') && ((i == i') && ((t == t') && ((p == p') && ((f == f') && (o == o')))))) := by
    rw [Bool.eq_iff_iff]; simp
  rw [HH]
  clear HH
  obtain ⟨b1, e1⟩ : ∃ b, (l == l') = b := ⟨_, rfl⟩
  obtain ⟨b2, e2⟩ : ∃ b, (i == i') = b := ⟨_, rfl⟩
  obtain ⟨b3, e3⟩ : ∃ b, (t == t') = b := ⟨_, rfl⟩
  obtain ⟨b4, e4⟩ : ∃ b, (p == p') = b := ⟨_, rfl⟩
  obtain ⟨b5, e5⟩ : ∃ b, (f == f') = b := ⟨_, rfl⟩
  obtain ⟨b6, e6⟩ : ∃ b, (o == o') = b := ⟨_, rfl⟩
  rw [e1, e2, e3, e4, e5, e6]
  have hc : b1 = false ∨ b1 = true ∧ (b2 = false ∨ b2 = true ∧ (b3 = false ∨ b3 = true ∧ (b4 = false ∨ b4 = true ∧ (b5 = false ∨ b5 = true)))) := by
    cases b1 <;> cases b2 <;> cases b3 <;> cases b4 <;> cases b5 <;> simp
  unfold hv
  rcases hc with rfl | ⟨rfl, rfl | ⟨rfl, rfl | ⟨rfl, rfl | ⟨rfl, rfl | rfl⟩⟩⟩⟩
  all_goals
    go_enter Tryd.func17, Tryd.ntmps17
    go_wp2
    go_ret
    exact ⟨ret_bool (by simp), ((Below.refl _ _).alloc (Nat.le_refl _) _).alloc (by simp) _⟩
def bcode (l i t p : Int) : Int := if hfit l i t p = true then 0 else 103
def bxs (l i t p f o : Int) : List Int := if hfit l i t p = true then hbs l i t p f o else []
theorem ibytes_gen (er : Int → Value) (l i t p f o : Int) (w : World) (hE : EnvE er w) (hf : isA f) (ho : isA o) :
    Calls Tryd.prog 8 #[hv l i t p f o] w fun e w' => ∃ A n c, e = .returned (.tuple #[.slice A n c, er (bcode l i t p)]) ∧ n ≤ c ∧ BR w' A n (bxs l i t p f o) ∧ Below w.heap.size w w' := by
  by_cases h : hfit l i t p = true
  · have e1 : bcode l i t p = 0 := if_pos h
    have e2 : bxs l i t p f o = hbs l i t p f o := if_pos h
    rw [e1, e2, hE.1]
    refine (ibytes_yes l i t p f o w h hf ho).mono ?_
    rintro e w1 ⟨A, c, rfl, hown, hb⟩
    have := own_br hown (hbs_b h hf ho)
    exact ⟨A, 20, c, rfl, this.2, this.1, hb⟩
  · have e1 : bcode l i t p = 103 := if_neg h
    have e2 : bxs l i t p f o = [] := if_neg h
    rw [e1, e2]
    refine (ibytes_no er l i t p f o w hE (by simpa using h)).mono ?_
    rintro e w1 ⟨rfl, hb⟩
    exact ⟨none, 0, 0, rfl, Nat.le_refl _, BR.none_ _ _, hb⟩
theorem fit1 : hfit 20 0 1 0 = true := rfl
theorem fit0 : hfit 20 0 0 0 = true := rfl
theorem isA0 : isA 0 := ⟨by omega, by omega⟩
/-- a header's bytes, with whatever behind, one hop less -/
theorem hop_back {l i t p f o : Int} (h : hfit l i t p = true) (hf : isA f) (ho : isA o) (ys : List Int) (ht : t ≠ 0) : hcode (hbs l i t p f o ++ ys) = 0 ∧ hops (hbs l i t p f o ++ ys) = hbs l i (t - 1) p f o := by
  obtain ⟨r0, r1, r2, r3, r4, r5, r6⟩ := rback h hf ho ys
  have e : hcode (hbs l i t p f o ++ ys) = 0 := by unfold hcode; rw [if_pos r0, r3, if_neg ht]
  refine ⟨e, ?_⟩
  unfold hops
  rw [if_pos e, r1, r2, r3, r4, r5, r6]
theorem hop_none {l i p f o : Int} (h : hfit l i 0 p = true) (hf : isA f) (ho : isA o) (ys : List Int) : hcode (hbs l i 0 p f o ++ ys) = 103 ∧ hops (hbs l i 0 p f o ++ ys) = [] := by
  obtain ⟨r0, r1, r2, r3, r4, r5, r6⟩ := rback h hf ho ys
  have e : hcode (hbs l i 0 p f o ++ ys) = 103 := by unfold hcode; rw [if_pos r0, r3, if_pos rfl]
  refine ⟨e, ?_⟩
  unfold hops
  rw [if_neg (by omega)]
theorem rv_back {l i t p f o : Int} (h : hfit l i t p = true) (hf : isA f) (ho : isA o) (ys : List Int) : rv (hbs l i t p f o ++ ys) = hv l i t p f o := by
  obtain ⟨r0, r1, r2, r3, r4, r5, r6⟩ := rback h hf ho ys
  unfold rv
  rw [if_pos r0, r1, r2, r3, r4, r5, r6]
theorem fit_dec {l i t p : Int} (h : hfit l i t p = true) (ht : t ≠ 0) : hfit l i (t - 1) p = true := by
  simp only [hfit, decide_eq_true_eq] at h ⊢
  omega
set_option maxHeartbeats 1000000 in
theorem first_any (er : Int → Value) (w : World) (hE : EnvE er w) :
    Calls Tryd.prog 7 #[] w fun e w' => e = .returned (.bool true) ∧ Below w.heap.size w w' := by
  have H1 := ibytes_yes 20 0 1 0 0 0 w fit1 isA0 isA0
  obtain ⟨q1, q2⟩ := hop_back fit1 isA0 isA0 [] (by omega)
  obtain ⟨q3, _⟩ := rback fit0 isA0 isA0 []
  have q4 := rv_back fit0 isA0 isA0 []
  rw [List.append_nil] at q1 q2 q3 q4
  have hX := hbs_b fit1 isA0 isA0
  have HE := Lib.hid hE
  have e0 := hE.1
  have e1 : (1 : Int) - 1 = 0 := by omega
  rw [e1] at q2
  generalize hbs 20 0 1 0 0 0 = X at *
  generalize hbs 20 0 0 0 0 0 = Y at *
  have HQ := Lib.hid q1
  have HQ2 := Lib.hid q2
  have HQ3 := Lib.hid q3
  have HQ4 := Lib.hid q4
  have HE0 := Lib.hid e0
  have HX := Lib.hid hX
  clear hE q1 q2 q3 q4 e0 e1 hX
  unfold hv at H1
  go_enter Tryd.func7, Tryd.ntmps7
  go_wp2_with (first
    | (go_at_call 8; refine H1.mono ?_; rintro e w1 ⟨A1, c1, rfl, hown, hb⟩
       have hbr := own_br hown HX.out
       have HB := Lib.hid hb
       have HR := Lib.hid hbr
       clear hown hb hbr)
    | (go_at_call 13; refine (hop_any er _ 20 _ _ _ (HE.out.below HB.out) HR.out.1 HR.out.2).mono ?_; rintro e w2 ⟨A2, m, c2, rfl, hm, hbr2, hb⟩
       rw [HQ.out, HE0.out]
       rw [HQ2.out] at hbr2
       have HB2 := Lib.hid (below_next HB.out hb)
       have HR2 := Lib.hid hbr2
       have HM2 := Lib.hid hm
       clear hb hbr2 hm)
    | (go_at_call 11; refine (read_any er _ _ _ _ _ (HE.out.below HB2.out) HR2.out HM2.out).mono ?_; rintro e w3 ⟨rfl, hb⟩
       rw [HQ3.out, HQ4.out, HE0.out]
       unfold hv
       have HB3 := Lib.hid (below_next HB2.out hb)
       clear hb))
  go_ret
  exact ⟨rfl, HB3.out.alloc HB3.out.size _⟩
end Go.Proofs.YtgjpclmkjoghiaaDoor
