/- What is sent came in where its row says, and goes out by no port that is lost: walked. -/
import Derived.Test.YteibmegeoojleaaGg
namespace Go.Proofs.Yteibmegeoojleaa
open Go.ChangeShapes Go.WideShapes Go.ChangeAt Go.RowKit Sm Go.Maps
theorem lightR_parts {ms : List PMr} {n n2 : Nat} (h : lightR ms n n2 = true) : (∀ m ∈ ms, m.p.xs.length ≤ 12) ∧ n ≤ 20 ∧ n2 ≤ 20 := by
  unfold lightR at h
  simp only [Bool.and_eq_true, decide_eq_true_eq, List.all_eq_true] at h
  exact h
theorem rowR_key {l : List PRow} {r : Int} {k : Int × Int} {p : PRow} (h : rowR l r k = some p) : (p.k.1 == k.1) = true ∨ (p.k.1 == 0) = true := by
  unfold rowR at h
  cases h1 : findR l r k with
  | some q =>
    rw [h1] at h; cases h
    have := List.find?_some h1
    simp only [Bool.and_eq_true] at this
    exact .inl this.2.1
  | none =>
    rw [h1] at h
    have := List.find?_some h
    simp only [Bool.and_eq_true] at this
    exact .inr this.2.1
theorem outL_not {xs : List Int} {L : List Lo} {pk : Int × Int} {pp x : Int} (h : x ∈ outL xs L pk pp) : x ∈ xs ∧ (x, pk) ∉ L ∧ x ≠ pp := by
  unfold outL at h
  rw [List.mem_filter] at h
  obtain ⟨h1, h2⟩ := h
  simp only [Bool.not_eq_true', Bool.or_eq_false_iff, decide_eq_false_iff_not, beq_eq_false_iff_ne] at h2
  exact ⟨h1, h2.1, h2.2⟩
set_option maxRecDepth 100000 in
set_option maxHeartbeats 8000000 in
theorem law_fback (r : Int) (A : Option Addr) (n c : Nat) (ms : List PMr) (B2 : Option Addr) (n2 c2 : Nat) (L : List Lo) (pk : Int × Int) (pp : Int) (w : World) (h : RI CRw 6 w A n ms) (hj : ∀ m ∈ ms, JR w m.A m.p.xs.length m.p.xs) (hn : n ≤ 9223372036854775807) (hx : ∀ m ∈ ms, ∀ x ∈ m.p.xs, I64r x)
    (hl : RI CLo 3 w B2 n2 L) (hlw : ∀ x ∈ L, wfLo x) (hkk : UK pk) :
    Calls Try.prog 4 #[.int .i64 r, .slice A n c, .slice B2 n2 c2, .agg #[.int .u32 pk.1, .int .u32 pk.2, .int .i64 pp]] w fun e w' => e = .returned (.bool true) ∧ Below w.heap.size w w' := by
  obtain ⟨k1, k2⟩ := pk
  have HF := Lib.hid (fun W => first19_any W)
  have HLT := Lib.hid (fun W (hW : Below w.heap.size w W) => lightR_any A n c ms B2 n2 c2 W (h.next hW) hn)
  have HB0 := Lib.hid ((Below.refl w.heap.size w).alloc (Nat.le_refl _) (.cells #[.int .u32 k1, .int .u32 k2, .int .i64 pp] 29))
  have HK := Lib.hid (Blk.new w 29 #[.int .u32 k1, .int .u32 k2, .int .i64 pp])
  have HH := Lib.hid (And.intro h (And.intro hj (And.intro hx (And.intro hl (And.intro hlw hkk)))))
  clear h hj hx hl hlw hkk hn
  go_enter Try.func4, Try.ntmps4
  go_upto_region 1 with fail
  generalize w.alloc (.cells #[.int .u32 k1, .int .u32 k2, .int .i64 pp] 29) = W0 at *
  go_upto_region 4 with (go_at_call 6; refine (HF.out _).mono ?_; rintro e w1 ⟨rfl, hb1⟩; have HB1 := Lib.hid (below_next HB0.out hb1); have HK1 := Lib.hid (HK.out.next hb1); clear hb1)
  have HL1 := Lib.hid (HLT.out w1 HB1.out)
  clear HF HLT
  cases hlt : lightR ms n n2 with
  | false =>
    rw [hlt] at HL1
    go_wp2_with (go_at_call 7; refine HL1.out.mono ?_; rintro e w2 ⟨rfl, hb⟩; have HB2 := Lib.hid (below_next HB1.out hb); clear hb)
    go_ret
    exact ⟨rfl, HB2.out⟩
  | true =>
    rw [hlt] at HL1
    obtain ⟨hq, hn20, hn220⟩ := lightR_parts hlt
    have HQ := Lib.hid hq
    clear hlt hq
    go_upto_region 6 with (go_at_call 7; refine HL1.out.mono ?_; rintro e w2 ⟨rfl, hb⟩; have HB2 := Lib.hid (below_next HB1.out hb); have HK2 := Lib.hid (HK1.out.next hb); clear hb)
    clear HL1
    have HDO := Lib.hid (do_any A n c ms B2 n2 c2 L r (k1, k2) pp w2 (HH.out.1.next HB2.out) (fun m hm => (HH.out.2.1 m hm).next HB2.out) (by omega) (fun m hm => ⟨Nat.le_trans (HQ.out m hm) (by decide), HH.out.2.2.1 m hm⟩) (HH.out.2.2.2.1.next HB2.out) HH.out.2.2.2.2.1 (by omega) HH.out.2.2.2.2.2)
    have HRO := Lib.hid (fun W (hW : Below w.heap.size w W) => row_any A n c ms r (k1, k2) W (HH.out.1.next hW) (fun m hm => (HH.out.2.1 m hm).next hW) (by omega) (fun m hm => Nat.le_trans (HQ.out m hm) (by decide)))
    have HRD : Hid (doR (ms.map PMr.p) L r (k1, k2) pp = match rowR (ms.map PMr.p) r (k1, k2) with
      | none => ⟨0, (0, 0), []⟩
      | some p => if p.i = pp then ⟨2, p.k, outL p.xs L (k1, k2) pp⟩ else ⟨1, p.k, []⟩) := Lib.hid rfl
    have HXL : Hid (∀ p, rowR (ms.map PMr.p) r (k1, k2) = some p → p.xs.length ≤ 12) := Lib.hid (fun p hp => by
      obtain ⟨m, hm, rfl⟩ := List.mem_map.1 (rowR_mem hp)
      exact HQ.out m hm)
    have HRK : Hid (∀ p, rowR (ms.map PMr.p) r (k1, k2) = some p → (p.k.1 == k1) = true ∨ (p.k.1 == 0) = true) := Lib.hid (fun p hp => rowR_key hp)
    have z0 : w2.cell? ⟨w.heap.size, 0, none⟩ = some (.int .u32 k1) := HK2.out.cell 0
    have z1 : w2.cell? ⟨w.heap.size, 1, none⟩ = some (.int .u32 k2) := HK2.out.cell 1
    have z2 : w2.cell? ⟨w.heap.size, 2, none⟩ = some (.int .i64 pp) := HK2.out.cell 2
    try dsimp only at HRO HDO
    generalize doR (ms.map PMr.p) L r (k1, k2) pp = D at *
    generalize rowR (ms.map PMr.p) r (k1, k2) = R at *
    obtain ⟨dd, ⟨d1, d2⟩, dx⟩ := D
    go_upto_region 7 with (go_at_call 8; refine HDO.out.mono ?_; rintro e w3 ⟨⟨A3, c3, rfl, hj3⟩, hb⟩; have HJ3 := Lib.hid hj3; have HB3 := Lib.hid (below_next HB2.out hb); have HQ3 := Lib.hid hb; clear hj3 hb)
    try dsimp only at HJ3 ⊢
    clear z0 z1 z2 HDO
    have HB4 := Lib.hid (HB3.out.alloc HB3.out.size (.cells #[.int .i64 dd, .int .u32 d1, .int .u32 d2, .slice A3 dx.length c3] 34))
    have HV4 := Lib.hid (Blk.new w3 34 #[.int .i64 dd, .int .u32 d1, .int .u32 d2, .slice A3 dx.length c3])
    have HJ4 := Lib.hid (HJ3.out.next ((Below.refl w3.heap.size w3).alloc (Nat.le_refl _) (.cells #[.int .i64 dd, .int .u32 d1, .int .u32 d2, .slice A3 dx.length c3] 34)))
    have HK4 := Lib.hid ((HK2.out.next HQ3.out).alloc (.cells #[.int .i64 dd, .int .u32 d1, .int .u32 d2, .slice A3 dx.length c3] 34))
    generalize w3.alloc (.cells #[.int .i64 dd, .int .u32 d1, .int .u32 d2, .slice A3 dx.length c3] 34) = W4 at *
    generalize w3.heap.size = N10 at *
    have z0 : W4.cell? ⟨w.heap.size, 0, none⟩ = some (.int .u32 k1) := HK4.out.cell 0
    have z1 : W4.cell? ⟨w.heap.size, 1, none⟩ = some (.int .u32 k2) := HK4.out.cell 1
    have HR4 := Lib.hid (HRO.out W4 HB4.out)
    clear HRO
    cases R with
    | none =>
      have hD : (⟨dd, (d1, d2), dx⟩ : PDeed) = ⟨0, (0, 0), []⟩ := HRD.out
      cases hD
      go_upto_region 8 with (go_at_call 12; refine HR4.out.mono ?_; rintro e w5 ⟨rfl, hb⟩; have HB5 := Lib.hid (below_next HB4.out hb); have HQ5 := Lib.hid hb; clear hb)
      clear z0 z1 HR4
      have HB6 := Lib.hid (HB5.out.alloc HB5.out.size (.cells #[.int .i64 0, .int .i64 0, .int .i64 0, .int .u32 0, .int .u32 0, .slice none 0 0] 43))
      have HV6 := Lib.hid ((HV4.out.next HQ5.out).alloc (.cells #[.int .i64 0, .int .i64 0, .int .i64 0, .int .u32 0, .int .u32 0, .slice none 0 0] 43))
      generalize w5.alloc (.cells #[.int .i64 0, .int .i64 0, .int .i64 0, .int .u32 0, .int .u32 0, .slice none 0 0] 43) = W6 at *
      have v0 : W6.cell? ⟨N10, 0, none⟩ = some (.int .i64 0) := HV6.out.cell 0
      have v3 : W6.cell? ⟨N10, 3, none⟩ = some (.slice A3 0 c3) := HV6.out.cell 3
      go_wp2
      go_ret
      exact ⟨rfl, HB6.out⟩
    | some p =>
      have HXP := Lib.hid (HXL.out p rfl)
      have HKP := Lib.hid (HRK.out p rfl)
      clear HXL HRK
      have HD1 : Hid ((⟨dd, (d1, d2), dx⟩ : PDeed) = if p.i = pp then ⟨2, p.k, outL p.xs L (k1, k2) pp⟩ else ⟨1, p.k, []⟩) := Lib.hid HRD.out
      clear HRD
      obtain ⟨pr, ri, ru, ⟨ks, kg⟩, px⟩ := p
      try dsimp only at HD1 HXP HKP
      go_upto_region 8 with (go_at_call 12; refine HR4.out.mono ?_; rintro e w5 ⟨⟨A5, c5, rfl, hown⟩, hb⟩; have HO5 := Lib.hid hown; have HB5 := Lib.hid (below_next HB4.out hb); have HQ5 := Lib.hid hb; clear hb hown)
      try dsimp only at HO5 ⊢
      clear z0 z1 HR4
      have HB6 := Lib.hid (HB5.out.alloc HB5.out.size (.cells #[.int .i64 pr, .int .i64 ri, .int .i64 ru, .int .u32 ks, .int .u32 kg, .slice A5 px.length c5] 43))
      have HW6 := Lib.hid (Blk.new w5 43 #[.int .i64 pr, .int .i64 ri, .int .i64 ru, .int .u32 ks, .int .u32 kg, .slice A5 px.length c5])
      have HV6 := Lib.hid ((HV4.out.next HQ5.out).alloc (.cells #[.int .i64 pr, .int .i64 ri, .int .i64 ru, .int .u32 ks, .int .u32 kg, .slice A5 px.length c5] 43))
      have HK6 := Lib.hid ((HK4.out.next HQ5.out).alloc (.cells #[.int .i64 pr, .int .i64 ri, .int .i64 ru, .int .u32 ks, .int .u32 kg, .slice A5 px.length c5] 43))
      have HJ6 := Lib.hid ((HJ4.out.next HQ5.out).next ((Below.refl w5.heap.size w5).alloc (Nat.le_refl _) (.cells #[.int .i64 pr, .int .i64 ri, .int .i64 ru, .int .u32 ks, .int .u32 kg, .slice A5 px.length c5] 43)))
      obtain ⟨A6, c6, hA6, hp6⟩ := own_jr HO5.out
      cases hA6
      have HP6 := Lib.hid (hp6.next ((Below.refl w5.heap.size w5).alloc (Nat.le_refl _) (.cells #[.int .i64 pr, .int .i64 ri, .int .i64 ru, .int .u32 ks, .int .u32 kg, .slice A5 px.length c5] 43)))
      clear hp6
      generalize w5.alloc (.cells #[.int .i64 pr, .int .i64 ri, .int .i64 ru, .int .u32 ks, .int .u32 kg, .slice A5 px.length c5] 43) = W6 at *
      generalize w5.heap.size = N11 at *
      have v0 : W6.cell? ⟨N10, 0, none⟩ = some (.int .i64 dd) := HV6.out.cell 0
      have v3 : W6.cell? ⟨N10, 3, none⟩ = some (.slice A3 dx.length c3) := HV6.out.cell 3
      have u1 : W6.cell? ⟨N11, 1, none⟩ = some (.int .i64 ri) := HW6.out.cell 1
      have z2 : W6.cell? ⟨w.heap.size, 2, none⟩ = some (.int .i64 pp) := HK6.out.cell 2
      by_cases hm : ri = pp
      · have hD := HD1.out
        rw [if_pos hm] at hD
        obtain ⟨rfl, ⟨rfl, rfl⟩, hdx⟩ : dd = 2 ∧ (d1 = ks ∧ d2 = kg) ∧ dx = outL px L (k1, k2) pp := by cases hD; exact ⟨rfl, ⟨rfl, rfl⟩, rfl⟩
        have HX := Lib.hid (fun x (hx : x ∈ dx) => outL_not (hdx ▸ hx))
        have hlen : dx.length ≤ 12 := by rw [hdx]; exact Nat.le_trans (List.length_filter_le _ _) HXP.out
        have HM : Hid ((ri == pp) = true) := Lib.hid (by simpa using hm)
        clear HD1 hD hdx hm
        obtain ⟨q, hq⟩ : ∃ q, dx.length = q := ⟨_, rfl⟩
        rw [hq] at hlen v3 HV6 HJ6
        have HQL := Lib.hid hq
        clear hq
        go_upto_region 10 with fail
        clear v0 v3 u1 z2
        have CV := Lib.hid (fun W (hW : Below W6.heap.size W6 W) => HV6.out.next hW)
        have CW := Lib.hid (fun W (hW : Below W6.heap.size W6 W) => HW6.out.next hW)
        have CK := Lib.hid (fun W (hW : Below W6.heap.size W6 W) => HK6.out.next hW)
        have CJ := Lib.hid (fun W (hW : Below W6.heap.size W6 W) => HJ6.out.next hW)
        have CP := Lib.hid (fun W (hW : Below W6.heap.size W6 W) => HP6.out.next hW)
        have CL := Lib.hid (fun W (hW : Below W6.heap.size W6 W) => HH.out.2.2.2.1.next (below_next HB6.out hW))
        go_wp2_with fail
        go_loopw [13] (fun iv wr => ∃ (i : Nat), i ≤ q ∧ iv = .int .i64 i ∧ Hid (Below W6.heap.size W6 wr)) (fun iv _ => q - (intOf iv).toNat)
        case atStart => exact ⟨0, Nat.zero_le _, rfl, Lib.hid (Below.refl _ _)⟩
        case round =>
          obtain ⟨i, hi, rfl, HB⟩ := hrel
          have v3 : wr.cell? ⟨N10, 3, none⟩ = some (.slice A3 q c3) := (CV.out wr HB.out).cell 3
          rcases Nat.lt_or_ge i q with hlt | hge
          · have hi0 : (i : Int) < (q : Int) := by omega
            obtain ⟨bo, oo, hpA, hblo, hco⟩ := (CJ.out wr HB.out).at_ hlt
            have hil : i < dx.length := by rw [HQL.out]; exact hlt
            have hxk : dx[i]? = some (dx.getD i 0) := by rw [List.getD_eq_getElem?_getD, List.getElem?_eq_getElem hil]; rfl
            obtain ⟨hx1, hx2, hx3⟩ := HX.out _ (List.mem_of_getElem? hxk)
            generalize dx.getD i 0 = xi at *
            have HX1 := Lib.hid hx1
            have HX2 := Lib.hid hx2
            have HX3 := Lib.hid hx3
            have CI := Lib.hid (fun W (hW : Below wr.heap.size wr W) => (hW.cell (p := ⟨bo, oo + i, none⟩) hblo).trans hco)
            clear hx1 hx2 hx3 hxk hco hil
            subst hpA
            have HBo := Lib.hid HB.out
            go_wp2_with fail
            clear v3
            generalize wr = w7 at *
            go_loopw [14] (fun iv wr => ∃ (k : Nat), k ≤ n2 ∧ iv = .int .i64 k ∧ Hid (Below w7.heap.size w7 wr)) (fun iv _ => n2 - (intOf iv).toNat)
            case atStart => exact ⟨0, Nat.zero_le _, rfl, Lib.hid (Below.refl _ _)⟩
            case round =>
              obtain ⟨k, hk, rfl, HB⟩ := hrel
              have HBX := Lib.hid (below_next HBo.out HB.out)
              rcases Nat.lt_or_ge k n2 with hlt2 | hge2
              · have hk0 : (k : Int) < (n2 : Int) := by omega
                obtain ⟨bl, ol, y, hBp, hbl, hy, hcl⟩ := (CL.out wr HBX.out).at_ hlt2
                have HYM := Lib.hid (List.mem_of_getElem? hy)
                subst hBp
                obtain ⟨y0, y1, y2⟩ := y
                have h0 : wr.cell? ⟨bl, ol + k * 3, none⟩ = some (.int .i64 y0) := hcl 0 _ rfl
                have h1 : wr.cell? ⟨bl, ol + k * 3 + 1, none⟩ = some (.int .u32 y1) := hcl 1 _ rfl
                have h2 : wr.cell? ⟨bl, ol + k * 3 + 2, none⟩ = some (.int .u32 y2) := hcl 2 _ rfl
                have a0 : ∀ s : Snc wr, s.W.cell? ⟨bl, ol + k * 3, none⟩ = some (.int .i64 y0) := fun s => (s.b.cell (p := ⟨bl, ol + k * 3, none⟩) hbl).trans h0
                have v3 : ∀ s : Snc wr, s.W.cell? ⟨N10, 3, none⟩ = some (.slice (some ⟨bo, oo, none⟩) q c3) := fun s => (CV.out s.W (below_next HBX.out s.b)).cell 3
                have g1 : ∀ s : Snc wr, s.W.cell? ⟨bo, oo + i, none⟩ = some (.int .i64 xi) := fun s => CI.out s.W (below_next HB.out s.b)
                cases e1 : (y0 == xi) with
                | false =>
                  clear hy hcl h0 h1 h2
                  go_upto_region 16 with fail
                  refine wp_region_since (by kernel_rfl) (by kernel_rfl) ?_
                  try simp only [List.append_eq, List.cons_append, List.nil_append]
                  repeat (go_big_quiet_step (fail))
                  refine wpQuiet_nil ?_
                  rintro w9_ ⟨P8_, rfl⟩
                  have HBZ := Lib.hid (below_next HB.out P8_.b)
                  clear a0 v3 g1 e1
                  go_wp2_with fail
                  go_roundw
                  case rel => exact ⟨k + 1, by omega, by go_num, HBZ⟩
                  case measure => simp [intOf]; omega
                | true =>
                  have a1 : ∀ s : Snc wr, s.W.cell? ⟨bl, ol + k * 3 + 1, none⟩ = some (.int .u32 y1) := fun s => (s.b.cell (p := ⟨bl, ol + k * 3 + 1, none⟩) hbl).trans h1
                  have a2 : ∀ s : Snc wr, s.W.cell? ⟨bl, ol + k * 3 + 2, none⟩ = some (.int .u32 y2) := fun s => (s.b.cell (p := ⟨bl, ol + k * 3 + 2, none⟩) hbl).trans h2
                  have p0 : ∀ s : Snc wr, s.W.cell? ⟨w.heap.size, 0, none⟩ = some (.int .u32 k1) := fun s => (CK.out s.W (below_next HBX.out s.b)).cell 0
                  have p1 : ∀ s : Snc wr, s.W.cell? ⟨w.heap.size, 1, none⟩ = some (.int .u32 k2) := fun s => (CK.out s.W (below_next HBX.out s.b)).cell 1
                  have hv2 : ((y1 == k1) && (y2 == k2)) = false := by
                    rw [Bool.and_eq_false_iff, beq_eq_false_iff_ne, beq_eq_false_iff_ne]
                    have e0 : y0 = xi := by simpa using e1
                    by_cases e2 : y1 = k1
                    · refine .inr (fun e3 => HX2.out ?_)
                      rw [← e0, ← e2, ← e3]
                      exact HYM.out
                    · exact .inl e2
                  have R1 : ∀ P : Snc wr, Calls Try.prog 14 #[.agg #[.int .u32 y1, .int .u32 y2], .agg #[.int .u32 k1, .int .u32 k2]] P.W fun e w' => e = .returned (.bool false) ∧ ∃ Q : Snc wr, w' = Q.W := fun P => Calls.since (by rw [← hv2]; exact skey_any y1 y2 k1 k2 P.W)
                  clear hy hcl h0 h1 h2 hv2
                  go_upto_region 16 with fail
                  refine wp_region_since (by kernel_rfl) (by kernel_rfl) ?_
                  try simp only [List.append_eq, List.cons_append, List.nil_append]
                  repeat (go_big_quiet_step ((go_at_call 14; with_reducible exact R1 _)))
                  refine wpQuiet_nil ?_
                  rintro w9_ ⟨P8_, rfl⟩
                  have HBZ := Lib.hid (below_next HB.out P8_.b)
                  clear a0 a1 a2 p0 p1 v3 g1 e1 R1
                  go_wp2_with fail
                  go_roundw
                  case rel => exact ⟨k + 1, by omega, by go_num, HBZ⟩
                  case measure => simp [intOf]; omega
              · obtain rfl : k = n2 := by omega
                have hd2 : decide ((k : Int) < (k : Int)) = false := by simp
                have v3 : ∀ s : Snc wr, s.W.cell? ⟨N10, 3, none⟩ = some (.slice (some ⟨bo, oo, none⟩) q c3) := fun s => (CV.out s.W (below_next HBX.out s.b)).cell 3
                have g1 : ∀ s : Snc wr, s.W.cell? ⟨bo, oo + i, none⟩ = some (.int .i64 xi) := fun s => CI.out s.W (below_next HB.out s.b)
                have p2 : ∀ s : Snc wr, s.W.cell? ⟨w.heap.size, 2, none⟩ = some (.int .i64 pp) := fun s => (CK.out s.W (below_next HBX.out s.b)).cell 2
                have u5 : ∀ s : Snc wr, s.W.cell? ⟨N11, 5, none⟩ = some (.slice A5 px.length c5) := fun s => (CW.out s.W (below_next HBX.out s.b)).cell 5
                have e1 : (xi == pp) = false := by rw [beq_eq_false_iff_ne]; exact HX3.out
                have R1 : ∀ P : Snc wr, Calls Try.prog 17 #[.slice A5 px.length c5, .int .i64 xi] P.W fun e w' => e = .returned (.bool true) ∧ ∃ Q : Snc wr, w' = Q.W := fun P => Calls.since (by
                  have h1 := among_any A5 px.length c5 px xi P.W (CP.out P.W (below_next HBX.out P.b)) (by have := HXP.out; omega)
                  rw [List.contains_iff_mem.2 HX1.out] at h1
                  exact h1)
                go_upto_region 18 with fail
                refine wp_region_since (by kernel_rfl) (by kernel_rfl) ?_
                try simp only [List.append_eq, List.cons_append, List.nil_append]
                repeat (go_big_quiet_step ((go_at_call 17; with_reducible exact R1 _)))
                refine wpQuiet_nil ?_
                rintro w9_ ⟨P8_, rfl⟩
                have HBZ := Lib.hid (below_next HBX.out P8_.b)
                clear v3 g1 p2 u5 e1 R1
                go_wp2_with fail
                go_roundw
                case rel => exact ⟨i + 1, by omega, by go_num, HBZ⟩
                case measure => simp [intOf]; omega
          · obtain rfl : i = q := by omega
            have hd : decide ((i : Int) < (i : Int)) = false := by simp
            have u1 : wr.cell? ⟨N11, 1, none⟩ = some (.int .i64 ri) := (CW.out wr HB.out).cell 1
            have u3 : wr.cell? ⟨N11, 3, none⟩ = some (.int .u32 d1) := (CW.out wr HB.out).cell 3
            have u4 : wr.cell? ⟨N11, 4, none⟩ = some (.int .u32 d2) := (CW.out wr HB.out).cell 4
            have v1 : wr.cell? ⟨N10, 1, none⟩ = some (.int .u32 d1) := (CV.out wr HB.out).cell 1
            have v2 : wr.cell? ⟨N10, 2, none⟩ = some (.int .u32 d2) := (CV.out wr HB.out).cell 2
            have p2 : wr.cell? ⟨w.heap.size, 2, none⟩ = some (.int .i64 pp) := (CK.out wr HB.out).cell 2
            have HSK := Lib.hid (fun W => skey_any d1 d2 d1 d2 W)
            have hkk : ((d1 == d1) && (d2 == d2)) = true := by simp
            rw [hkk] at HSK
            clear hkk
            have HNB := Lib.hid (fun W => bnum_any 1 2 W (by decide) (by decide))
            have hm12 : (1 : Int) % 2 = 1 := by decide
            rw [hm12] at HNB
            clear hm12
            have e0 : (ri == pp) = true := HM.out
            have C3 := Lib.hid (fun W (hW : Below wr.heap.size wr W) => (CW.out W (below_next HB.out hW)).cell 3)
            have P0 := Lib.hid (fun W (hW : Below wr.heap.size wr W) => (CK.out W (below_next HB.out hW)).cell 0)
            cases e1 : (d1 == k1) with
            | true =>
              go_wp2_with (first
                | (go_at_call 14; refine (HSK.out _).mono ?_; rintro e w8 ⟨rfl, hb⟩; have HB8 := Lib.hid hb; have x3 : w8.cell? ⟨N11, 3, none⟩ = some (.int .u32 d1) := C3.out w8 hb; have y0 : w8.cell? ⟨w.heap.size, 0, none⟩ = some (.int .u32 k1) := P0.out w8 hb; clear hb)
                | (go_at_call 18; refine (HNB.out _).mono ?_; rintro e w9 ⟨rfl, rfl⟩))
              go_ret
              exact ⟨rfl, below_next HB6.out (below_next HB.out HB8.out)⟩
            | false =>
              have e2 : (d1 == 0) = true := by
                rcases HKP.out with h | h
                · exact absurd h (by rw [e1]; decide)
                · exact h
              go_wp2_with (first
                | (go_at_call 14; refine (HSK.out _).mono ?_; rintro e w8 ⟨rfl, hb⟩; have HB8 := Lib.hid hb; have x3 : w8.cell? ⟨N11, 3, none⟩ = some (.int .u32 d1) := C3.out w8 hb; have y0 : w8.cell? ⟨w.heap.size, 0, none⟩ = some (.int .u32 k1) := P0.out w8 hb; clear hb)
                | (go_at_call 18; refine (HNB.out _).mono ?_; rintro e w9 ⟨rfl, rfl⟩))
              go_ret
              exact ⟨rfl, below_next HB6.out (below_next HB.out HB8.out)⟩
      · have hD := HD1.out
        rw [if_neg hm] at hD
        cases hD
        clear HD1
        have e1 : (ri != pp) = true := by simp [hm]
        clear hm
        go_wp2
        go_ret
        exact ⟨rfl, HB6.out⟩
end Go.Proofs.Yteibmegeoojleaa

