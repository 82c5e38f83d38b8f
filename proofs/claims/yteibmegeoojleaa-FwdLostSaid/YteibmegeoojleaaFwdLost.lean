/- A port that is lost for a key is left out for that key alone, walked. -/
import Derived.Test.YteibmegeoojleaaGf
namespace Go.Proofs.Yteibmegeoojleaa
open Go.ChangeShapes Go.WideShapes Go.ChangeAt Go.RowKit Sm Go.Maps
set_option linter.unusedSimpArgs false
set_option maxRecDepth 100000 in
set_option maxHeartbeats 8000000 in
theorem law_flost (k1 k2 inp a b : Int) (w : World) (hu : UK (k1, k2)) (hi : I64r inp) (ha : I64r a) (hb : I64r b) :
    Calls Try.prog 5 #[.agg #[.int .u32 k1, .int .u32 k2], .int .i64 inp, .int .i64 a, .int .i64 b] w fun e w' => e = .returned (.bool true) ∧ Below w.heap.size w w' := by
  have HF := Lib.hid (fun W => first19_any W)
  have HU := Lib.hid (And.intro hu (And.intro hi (And.intro ha hb)))
  clear hu hi ha hb
  have HB0 := Lib.hid ((Below.refl w.heap.size w).alloc (Nat.le_refl _) (.cells #[.int .u32 k1, .int .u32 k2] 27))
  have HK := Lib.hid (Blk.new w 27 #[.int .u32 k1, .int .u32 k2])
  go_enter Try.func5, Try.ntmps5
  go_upto_region 1 with fail
  generalize w.alloc (.cells #[.int .u32 k1, .int .u32 k2] 27) = W0 at *
  go_upto_region 4 with (go_at_call 6; refine (HF.out _).mono ?_; rintro e w1 ⟨rfl, hb1⟩; have HB1 := Lib.hid (below_next HB0.out hb1); have HK1 := Lib.hid (HK.out.next hb1); clear hb1)
  have z0 : w1.cell? ⟨w.heap.size, 0, none⟩ = some (.int .u32 k1) := HK1.out.cell 0
  have z1 : w1.cell? ⟨w.heap.size, 1, none⟩ = some (.int .u32 k2) := HK1.out.cell 1
  cases e1 : (inp == a) with
  | true =>
    go_wp2
    go_ret
    exact ⟨rfl, HB1.out⟩
  | false =>
    cases e2 : (inp == b) with
    | true =>
      go_wp2
      go_ret
      exact ⟨rfl, HB1.out⟩
    | false =>
      cases e3 : (a == b) with
      | true =>
        go_wp2
        go_ret
        exact ⟨rfl, HB1.out⟩
      | false =>
        cases e4 : (k1 == 0) with
        | true =>
          go_wp2
          go_ret
          exact ⟨rfl, HB1.out⟩
        | false =>
          go_upto_region 7 with fail
          clear z0 z1
          have HB2 := Lib.hid (HB1.out.alloc HB1.out.size (.cells #[.int .u32 0, .int .u32 k2] 27))
          have HY2 := Lib.hid (Blk.new w1 27 #[.int .u32 0, .int .u32 k2])
          have HK2 := Lib.hid (HK1.out.alloc (.cells #[.int .u32 0, .int .u32 k2] 27))
          generalize w1.alloc (.cells #[.int .u32 0, .int .u32 k2] 27) = W2 at *
          generalize w1.heap.size = N10 at *
          have z0 : ∀ W, Below W2.heap.size W2 W → W.cell? ⟨w.heap.size, 0, none⟩ = some (.int .u32 k1) := fun W hW => (HK2.out.next hW).cell 0
          have z1 : ∀ W, Below W2.heap.size W2 W → W.cell? ⟨w.heap.size, 1, none⟩ = some (.int .u32 k2) := fun W hW => (HK2.out.next hW).cell 1
          have y0 : ∀ W, Below W2.heap.size W2 W → W.cell? ⟨N10, 0, none⟩ = some (.int .u32 0) := fun W hW => (HY2.out.next hW).cell 0
          have y1 : ∀ W, Below W2.heap.size W2 W → W.cell? ⟨N10, 1, none⟩ = some (.int .u32 k2) := fun W hW => (HY2.out.next hW).cell 1
          have B0 : Below W2.heap.size W2 W2 := Below.refl _ _
          have B1 : Below W2.heap.size W2 (W2.alloc (.cells #[.int .i64 a, .int .i64 b] 3)) := B0.alloc (Nat.le_refl _) _
          have z0' := z0 _ B0
          have z1' := z1 _ B0
          have y0' := y0 _ B0
          have y1' := y1 _ B0
          have z0'' := z0 _ B1
          have z1'' := z1 _ B1
          go_upto_region 8 with fail
          clear z0' z1' y0' y1' z0'' z1''
          have HB3 : Hid (Below W2.heap.size W2 (((W2.alloc (.cells #[.int .i64 a, .int .i64 b] 3)).alloc (.cells #[.int .i64 b] 3)).alloc (.cells #[.int .i64 4, .int .i64 inp, .int .i64 0, .int .u32 0, .int .u32 k2, .slice (some ⟨W2.heap.size, 0, none⟩) 2 2, .int .i64 4, .int .i64 inp, .int .i64 0, .int .u32 k1, .int .u32 k2, .slice (some ⟨W2.heap.size + 1, 0, none⟩) 1 1] 43))) := Lib.hid (((B0.alloc (Nat.le_refl _) _).alloc (by simp) _).alloc (by simp <;> omega) _)
          have HJA : Hid (JR (((W2.alloc (.cells #[.int .i64 a, .int .i64 b] 3)).alloc (.cells #[.int .i64 b] 3)).alloc (.cells #[.int .i64 4, .int .i64 inp, .int .i64 0, .int .u32 0, .int .u32 k2, .slice (some ⟨W2.heap.size, 0, none⟩) 2 2, .int .i64 4, .int .i64 inp, .int .i64 0, .int .u32 k1, .int .u32 k2, .slice (some ⟨W2.heap.size + 1, 0, none⟩) 1 1] 43)) (some ⟨W2.heap.size, 0, none⟩) 2 [a, b]) := Lib.hid (jr_blk (xs := [a, b]) (((Blk.new W2 3 #[.int .i64 a, .int .i64 b]).alloc _).alloc _))
          have HJB : Hid (JR (((W2.alloc (.cells #[.int .i64 a, .int .i64 b] 3)).alloc (.cells #[.int .i64 b] 3)).alloc (.cells #[.int .i64 4, .int .i64 inp, .int .i64 0, .int .u32 0, .int .u32 k2, .slice (some ⟨W2.heap.size, 0, none⟩) 2 2, .int .i64 4, .int .i64 inp, .int .i64 0, .int .u32 k1, .int .u32 k2, .slice (some ⟨W2.heap.size + 1, 0, none⟩) 1 1] 43)) (some ⟨W2.heap.size + 1, 0, none⟩) 1 [b]) := Lib.hid (by
            have h1 := (Blk.new (W2.alloc (.cells #[.int .i64 a, .int .i64 b] 3)) 3 #[.int .i64 b]).alloc (.cells #[.int .i64 4, .int .i64 inp, .int .i64 0, .int .u32 0, .int .u32 k2, .slice (some ⟨W2.heap.size, 0, none⟩) 2 2, .int .i64 4, .int .i64 inp, .int .i64 0, .int .u32 k1, .int .u32 k2, .slice (some ⟨W2.heap.size + 1, 0, none⟩) 1 1] 43)
            have h2 := jr_blk (xs := [b]) h1
            simpa using h2)
          have HRR : Hid (RI CRw 6 (((W2.alloc (.cells #[.int .i64 a, .int .i64 b] 3)).alloc (.cells #[.int .i64 b] 3)).alloc (.cells #[.int .i64 4, .int .i64 inp, .int .i64 0, .int .u32 0, .int .u32 k2, .slice (some ⟨W2.heap.size, 0, none⟩) 2 2, .int .i64 4, .int .i64 inp, .int .i64 0, .int .u32 k1, .int .u32 k2, .slice (some ⟨W2.heap.size + 1, 0, none⟩) 1 1] 43)) (some ⟨W2.heap.size + 1 + 1, 0, none⟩) 2 [⟨⟨4, inp, 0, (0, k2), [a, b]⟩, some ⟨W2.heap.size, 0, none⟩, 2⟩, ⟨⟨4, inp, 0, (k1, k2), [b]⟩, some ⟨W2.heap.size + 1, 0, none⟩, 1⟩]) := Lib.hid (by
            have h1 := Blk.new ((W2.alloc (.cells #[.int .i64 a, .int .i64 b] 3)).alloc (.cells #[.int .i64 b] 3)) 43 #[.int .i64 4, .int .i64 inp, .int .i64 0, .int .u32 0, .int .u32 k2, .slice (some ⟨W2.heap.size, 0, none⟩) 2 2, .int .i64 4, .int .i64 inp, .int .i64 0, .int .u32 k1, .int .u32 k2, .slice (some ⟨W2.heap.size + 1, 0, none⟩) 1 1]
            have h2 := RI.of_blk (enc := CRw) (k := 6) (n := 2) (xs := [⟨⟨4, inp, 0, (0, k2), [a, b]⟩, some ⟨W2.heap.size, 0, none⟩, 2⟩, ⟨⟨4, inp, 0, (k1, k2), [b]⟩, some ⟨W2.heap.size + 1, 0, none⟩, 1⟩]) (fun _ => rfl) h1 rfl rfl
            simpa using h2)
          generalize (((W2.alloc (.cells #[.int .i64 a, .int .i64 b] 3)).alloc (.cells #[.int .i64 b] 3)).alloc (.cells #[.int .i64 4, .int .i64 inp, .int .i64 0, .int .u32 0, .int .u32 k2, .slice (some ⟨W2.heap.size, 0, none⟩) 2 2, .int .i64 4, .int .i64 inp, .int .i64 0, .int .u32 k1, .int .u32 k2, .slice (some ⟨W2.heap.size + 1, 0, none⟩) 1 1] 43)) = W3 at *
          generalize W2.heap.size + 1 + 1 = NR at *
          generalize W2.heap.size + 1 = NB at *
          have HK3 := Lib.hid (HK2.out.next HB3.out)
          have HY3 := Lib.hid (HY2.out.next HB3.out)
          clear B0 B1 z0 z1 y0 y1
          have z0 := HK3.out.cell 0
          have z1 := HK3.out.cell 1
          simp only [List.getElem?_toArray, List.getElem?_cons_zero, List.getElem?_cons_succ] at z0 z1
          have HB3w := Lib.hid (below_next HB2.out HB3.out)
          have HMP : Hid (List.map PMr.p [⟨⟨4, inp, 0, (0, k2), [a, b]⟩, some ⟨W2.heap.size, 0, none⟩, 2⟩, ⟨⟨4, inp, 0, (k1, k2), [b]⟩, some ⟨NB, 0, none⟩, 1⟩] = [⟨4, inp, 0, (0, k2), [a, b]⟩, ⟨4, inp, 0, (k1, k2), [b]⟩]) := Lib.hid rfl
          have HDO := Lib.hid (fun (B2 : Option Addr) (n2 c2 : Nat) (L : List Lo) (r : Int) (pk : Int × Int) (pp : Int) W (hW : Below W3.heap.size W3 W) (hl : RI CLo 3 W B2 n2 L) (hlw : ∀ x ∈ L, wfLo x) (hln : n2 ≤ 1000) (hkk : UK pk) => do_any (some ⟨NR, 0, none⟩) 2 2 [⟨⟨4, inp, 0, (0, k2), [a, b]⟩, some ⟨W2.heap.size, 0, none⟩, 2⟩, ⟨⟨4, inp, 0, (k1, k2), [b]⟩, some ⟨NB, 0, none⟩, 1⟩] B2 n2 c2 L r pk pp W (HRR.out.next hW) (fun m hm => by
            rcases List.mem_cons.1 hm with rfl | hm
            · exact HJA.out.next hW
            · obtain rfl := List.mem_singleton.1 hm
              exact HJB.out.next hW) (by decide) (fun m hm => by
            rcases List.mem_cons.1 hm with rfl | hm
            · exact ⟨by show (2 : Nat) ≤ 1000; decide, fun x hx => by
                rcases List.mem_cons.1 hx with rfl | hx
                · exact HU.out.2.2.1
                · obtain rfl := List.mem_singleton.1 hx; exact HU.out.2.2.2⟩
            · obtain rfl := List.mem_singleton.1 hm
              exact ⟨by show (1 : Nat) ≤ 1000; decide, fun x hx => by obtain rfl := List.mem_singleton.1 hx; exact HU.out.2.2.2⟩) hl hlw hln hkk)
          rw [HMP.out] at HDO
          clear HRR HJA HJB HMP
          have n1 : inp ≠ a := by simpa using e1
          have n2 : inp ≠ b := by simpa using e2
          have n3 : a ≠ b := by simpa using e3
          have n4 : k1 ≠ 0 := by simpa using e4
          have HP1 : Hid (doR [⟨4, inp, 0, (0, k2), [a, b]⟩, ⟨4, inp, 0, (k1, k2), [b]⟩] [] 4 (k1, k2) inp = ⟨2, (k1, k2), [b]⟩) := Lib.hid (by simp [doR, rowR, findR, outL, n1, n2, n3, n4, Ne.symm n1, Ne.symm n2, Ne.symm n3, Ne.symm n4])
          have HP2 : Hid (doR [⟨4, inp, 0, (0, k2), [a, b]⟩, ⟨4, inp, 0, (k1, k2), [b]⟩] [(b, (k1, k2))] 4 (k1, k2) inp = ⟨2, (k1, k2), []⟩) := Lib.hid (by simp [doR, rowR, findR, outL, n1, n2, n3, n4, Ne.symm n1, Ne.symm n2, Ne.symm n3, Ne.symm n4])
          have HP3 : Hid (∀ o, o ≠ 0 → o ≠ k1 → doR [⟨4, inp, 0, (0, k2), [a, b]⟩, ⟨4, inp, 0, (k1, k2), [b]⟩] [(b, (k1, k2)), (a, (o, k2))] 4 (o, k2) inp = ⟨2, (0, k2), [b]⟩) := Lib.hid (fun o h1 h2 => by simp [doR, rowR, findR, outL, n1, n2, n3, n4, Ne.symm n1, Ne.symm n2, Ne.symm n3, Ne.symm n4, h1, h2, Ne.symm h1, Ne.symm h2])
          have HP4 : Hid (doR [⟨4, inp, 0, (0, k2), [a, b]⟩, ⟨4, inp, 0, (k1, k2), [b]⟩] [] 4 (k1, k2) a = ⟨1, (k1, k2), []⟩) := Lib.hid (by simp [doR, rowR, findR, outL, n1, n2, n3, n4, Ne.symm n1, Ne.symm n2, Ne.symm n3, Ne.symm n4])
          have HP5 : Hid (doR [⟨4, inp, 0, (0, k2), [a, b]⟩, ⟨4, inp, 0, (k1, k2), [b]⟩] [] 5 (k1, k2) inp = ⟨0, (0, 0), []⟩) := Lib.hid (by simp [doR, rowR, findR, outL, n1, n2, n3, n4, Ne.symm n1, Ne.symm n2, Ne.symm n3, Ne.symm n4])
          clear n1 n2 n3 n4
          go_upto_region 9 with fail
          obtain ⟨o1, ho1⟩ : ∃ o1, (k1 + 1) % 4294967296 = o1 := ⟨_, rfl⟩
          have HO1 : Hid (U32 o1 ∧ o1 ≠ k1) := Lib.hid (by have := HU.out.1.1; unfold U32 at *; simp only at this; omega)
          rw [ho1]
          clear ho1 z0 z1
          have HB4 := Lib.hid ((Below.refl W3.heap.size W3).alloc (Nat.le_refl _) (.cells #[.int .u32 o1, .int .u32 k2] 27))
          have HZ4 := Lib.hid (Blk.new W3 27 #[.int .u32 o1, .int .u32 k2])
          have HK4 := Lib.hid (HK3.out.alloc (.cells #[.int .u32 o1, .int .u32 k2] 27))
          have HY4 := Lib.hid (HY3.out.alloc (.cells #[.int .u32 o1, .int .u32 k2] 27))
          generalize W3.alloc (.cells #[.int .u32 o1, .int .u32 k2] 27) = W4 at *
          obtain ⟨N12, hN12⟩ : ∃ N, W3.heap.size = N := ⟨_, rfl⟩
          rw [hN12] at HZ4 ⊢
          clear hN12
          have z0 : W4.cell? ⟨w.heap.size, 0, none⟩ = some (.int .u32 k1) := HK4.out.cell 0
          have z1 : W4.cell? ⟨w.heap.size, 1, none⟩ = some (.int .u32 k2) := HK4.out.cell 1
          have HC5 := Lib.hid (HDO.out none 0 0 [] 4 (k1, k2) inp W4 HB4.out (RI.none_ _ _ _ _) (fun x hx => by cases hx) (by decide) HU.out.1)
          rw [HP1.out] at HC5
          go_upto_region 10 with (go_at_call 8; refine HC5.out.mono ?_; rintro e w5 ⟨⟨A5, c5, rfl, hj⟩, hb⟩; have HJ := Lib.hid hj; have HBC := Lib.hid (below_next HB4.out hb); have HQ := Lib.hid (below_next (Below.refl W4.heap.size W4) hb); clear hj hb)
          dsimp only [List.length] at HJ ⊢
          have HB5 := Lib.hid (HBC.out.alloc HBC.out.size (.cells #[.int .i64 2, .int .u32 k1, .int .u32 k2, .slice A5 1 c5] 34))
          have HQ5 := Lib.hid (HQ.out.alloc HQ.out.size (.cells #[.int .i64 2, .int .u32 k1, .int .u32 k2, .slice A5 1 c5] 34))
          have HV5 := Lib.hid (Blk.new w5 34 #[.int .i64 2, .int .u32 k1, .int .u32 k2, .slice A5 1 c5])
          have HJ5 := Lib.hid (HJ.out.next ((Below.refl w5.heap.size w5).alloc (Nat.le_refl _) (.cells #[.int .i64 2, .int .u32 k1, .int .u32 k2, .slice A5 1 c5] 34)))
          generalize w5.alloc (.cells #[.int .i64 2, .int .u32 k1, .int .u32 k2, .slice A5 1 c5] 34) = W5 at *
          generalize w5.heap.size = M5 at *
          clear z0 z1 HC5
          have HK5 := Lib.hid (HK3.out.next HB5.out)
          have z0 : W5.cell? ⟨w.heap.size, 0, none⟩ = some (.int .u32 k1) := HK5.out.cell 0
          have z1 : W5.cell? ⟨w.heap.size, 1, none⟩ = some (.int .u32 k2) := HK5.out.cell 1
          have z2 : (W5.alloc (.cells #[.int .i64 b, .int .u32 k1, .int .u32 k2] 52)).cell? ⟨w.heap.size, 0, none⟩ = some (.int .u32 k1) := (HK5.out.alloc _).cell 0
          have z3 : (W5.alloc (.cells #[.int .i64 b, .int .u32 k1, .int .u32 k2] 52)).cell? ⟨w.heap.size, 1, none⟩ = some (.int .u32 k2) := (HK5.out.alloc _).cell 1
          have HBL5 := Lib.hid (HB5.out.alloc HB5.out.size (.cells #[.int .i64 b, .int .u32 k1, .int .u32 k2] 52))
          have HC6 := Lib.hid (HDO.out (some ⟨W5.heap.size, 0, none⟩) 1 1 [(b, (k1, k2))] 4 (k1, k2) inp (W5.alloc (.cells #[.int .i64 b, .int .u32 k1, .int .u32 k2] 52)) HBL5.out (RI.new (enc := CLo) (k := 3) W5 52 (b, (k1, k2)) rfl rfl) (fun x hx => by obtain rfl := List.mem_singleton.1 hx; exact ⟨HU.out.2.2.2, HU.out.1⟩) (by decide) HU.out.1)
          rw [HP2.out] at HC6
          go_upto_region 11 with (go_at_call 8; refine HC6.out.mono ?_; rintro e w6 ⟨⟨A6, c6, rfl, hj⟩, hb⟩; have HJ := Lib.hid hj; have HBC := Lib.hid (below_next HBL5.out hb); have HQ := Lib.hid (below_next ((Below.refl W5.heap.size W5).alloc (Nat.le_refl _) (.cells #[.int .i64 b, .int .u32 k1, .int .u32 k2] 52)) hb); clear hj hb)
          dsimp only [List.length] at HJ ⊢
          have HB6 := Lib.hid (HBC.out.alloc HBC.out.size (.cells #[.int .i64 2, .int .u32 k1, .int .u32 k2, .slice A6 0 c6] 34))
          have HQ6 := Lib.hid (HQ.out.alloc HQ.out.size (.cells #[.int .i64 2, .int .u32 k1, .int .u32 k2, .slice A6 0 c6] 34))
          have HV6 := Lib.hid (Blk.new w6 34 #[.int .i64 2, .int .u32 k1, .int .u32 k2, .slice A6 0 c6])
          have HJ6 := Lib.hid (HJ.out.next ((Below.refl w6.heap.size w6).alloc (Nat.le_refl _) (.cells #[.int .i64 2, .int .u32 k1, .int .u32 k2, .slice A6 0 c6] 34)))
          generalize w6.alloc (.cells #[.int .i64 2, .int .u32 k1, .int .u32 k2, .slice A6 0 c6] 34) = W6 at *
          generalize w6.heap.size = M6 at *
          clear z0 z1 z2 z3 HC6
          have HX6 := Lib.hid (HV5.out.next HQ6.out)
          have HK6 := Lib.hid (HK3.out.next HB6.out)
          have HX6J := Lib.hid (HJ5.out.next HQ6.out)
          have HSI := Lib.hid (fun W (hW : Below W6.heap.size W6 W) g (hg : JR W (some ⟨g, 0, none⟩) 1 [b]) => jsame_any A5 (some ⟨g, 0, none⟩) 1 1 c5 1 [b] [b] W (HX6J.out.next hW) hg (by decide) (by decide))
          have HSK := Lib.hid (fun W => skey_any k1 k2 k1 k2 W)
          have hdd : decide (([b] : List Int) = [b]) = true := by simp
          have hkk : ((k1 == k1) && (k2 == k2)) = true := by simp
          rw [hdd] at HSI
          rw [hkk] at HSK
          clear hdd hkk
          have HBI6 := Lib.hid ((Below.refl W6.heap.size W6).alloc (Nat.le_refl _) (.cells #[.int .i64 b] 3))
          have HSC := Lib.hid (HSI.out _ HBI6.out W6.heap.size (jr_blk (xs := [b]) (Blk.new W6 3 #[.int .i64 b])))
          have x0 : W6.cell? ⟨M5, 0, none⟩ = some (.int .i64 2) := HX6.out.cell 0
          have x3 : W6.cell? ⟨M5, 3, none⟩ = some (.slice A5 1 c5) := HX6.out.cell 3
          go_upto_region 13 with (first
            | (go_at_call 15; refine HSC.out.mono ?_; rintro e w7 ⟨rfl, hb⟩; have HB7 := Lib.hid (below_next HBI6.out hb); clear hb; have v0 : w7.cell? ⟨M6, 0, none⟩ = some (.int .i64 2) := (HV6.out.next HB7.out).cell 0; have v3 : w7.cell? ⟨M6, 3, none⟩ = some (.slice A6 0 c6) := (HV6.out.next HB7.out).cell 3; have x1 : w7.cell? ⟨M5, 1, none⟩ = some (.int .u32 k1) := (HX6.out.next HB7.out).cell 1; have x2 : w7.cell? ⟨M5, 2, none⟩ = some (.int .u32 k2) := (HX6.out.next HB7.out).cell 2; have q0 : w7.cell? ⟨w.heap.size, 0, none⟩ = some (.int .u32 k1) := (HK6.out.next HB7.out).cell 0; have q1 : w7.cell? ⟨w.heap.size, 1, none⟩ = some (.int .u32 k2) := (HK6.out.next HB7.out).cell 1)
            | (go_at_call 14; refine (HSK.out _).mono ?_; rintro e w8 ⟨rfl, hb⟩; have HB8 := Lib.hid (below_next HB7.out hb); clear hb))
          clear x0 x3 v0 v3 x1 x2 q0 q1 HSI HSK HSC
          have HB8w := Lib.hid (below_next HB6.out HB8.out)
          have HZ8 := Lib.hid ((HZ4.out.next (below_next HQ5.out HQ6.out)).next HB8.out)
          have g0 : w8.cell? ⟨N12, 0, none⟩ = some (.int .u32 o1) := HZ8.out.cell 0
          cases e5 : (o1 == 0) with
          | true =>
            go_wp2
            go_ret
            exact ⟨rfl, below_next HB3w.out HB8w.out⟩
          | false =>
            have HP3' := Lib.hid (HP3.out o1 (by simpa using e5) HO1.out.2)
            go_upto_region 15 with fail
            clear g0
            have HK8 := Lib.hid (HK3.out.next HB8w.out)
            have HY8 := Lib.hid (HY3.out.next HB8w.out)
            have z0 : w8.cell? ⟨w.heap.size, 0, none⟩ = some (.int .u32 k1) := HK8.out.cell 0
            have z1 : w8.cell? ⟨w.heap.size, 1, none⟩ = some (.int .u32 k2) := HK8.out.cell 1
            have g0 : w8.cell? ⟨N12, 0, none⟩ = some (.int .u32 o1) := HZ8.out.cell 0
            have g1 : w8.cell? ⟨N12, 1, none⟩ = some (.int .u32 k2) := HZ8.out.cell 1
            have g2 : (w8.alloc (.cells #[.int .i64 b, .int .u32 k1, .int .u32 k2, .int .i64 a, .int .u32 o1, .int .u32 k2] 52)).cell? ⟨N12, 0, none⟩ = some (.int .u32 o1) := (HZ8.out.alloc _).cell 0
            have g3 : (w8.alloc (.cells #[.int .i64 b, .int .u32 k1, .int .u32 k2, .int .i64 a, .int .u32 o1, .int .u32 k2] 52)).cell? ⟨N12, 1, none⟩ = some (.int .u32 k2) := (HZ8.out.alloc _).cell 1
            have HBL8 := Lib.hid (HB8w.out.alloc HB8w.out.size (.cells #[.int .i64 b, .int .u32 k1, .int .u32 k2, .int .i64 a, .int .u32 o1, .int .u32 k2] 52))
            have HC9 := Lib.hid (HDO.out (some ⟨w8.heap.size, 0, none⟩) 2 2 [(b, (k1, k2)), (a, (o1, k2))] 4 (o1, k2) inp (w8.alloc (.cells #[.int .i64 b, .int .u32 k1, .int .u32 k2, .int .i64 a, .int .u32 o1, .int .u32 k2] 52)) HBL8.out (RI.of_blk (enc := CLo) (k := 3) (n := 2) (xs := [(b, (k1, k2)), (a, (o1, k2))]) (fun _ => rfl) (Blk.new w8 52 #[.int .i64 b, .int .u32 k1, .int .u32 k2, .int .i64 a, .int .u32 o1, .int .u32 k2]) rfl rfl) (fun x hx => by
              rcases List.mem_cons.1 hx with rfl | hx
              · exact ⟨HU.out.2.2.2, HU.out.1⟩
              · obtain rfl := List.mem_singleton.1 hx
                exact ⟨HU.out.2.2.1, HO1.out.1, HU.out.1.2⟩) (by decide) ⟨HO1.out.1, HU.out.1.2⟩)
            rw [HP3'.out] at HC9
            go_upto_region 16 with (go_at_call 8; refine HC9.out.mono ?_; rintro e w9 ⟨⟨A9, c9, rfl, hj⟩, hb⟩; have HJ := Lib.hid hj; have HBC := Lib.hid (below_next HBL8.out hb); have HQ := Lib.hid (below_next ((Below.refl w8.heap.size w8).alloc (Nat.le_refl _) (.cells #[.int .i64 b, .int .u32 k1, .int .u32 k2, .int .i64 a, .int .u32 o1, .int .u32 k2] 52)) hb); clear hj hb)
            dsimp only [List.length] at HJ ⊢
            have HB9 := Lib.hid (HBC.out.alloc HBC.out.size (.cells #[.int .i64 2, .int .u32 0, .int .u32 k2, .slice A9 1 c9] 34))
            have HQ9 := Lib.hid (HQ.out.alloc HQ.out.size (.cells #[.int .i64 2, .int .u32 0, .int .u32 k2, .slice A9 1 c9] 34))
            have HV9 := Lib.hid (Blk.new w9 34 #[.int .i64 2, .int .u32 0, .int .u32 k2, .slice A9 1 c9])
            have HJ9 := Lib.hid (HJ.out.next ((Below.refl w9.heap.size w9).alloc (Nat.le_refl _) (.cells #[.int .i64 2, .int .u32 0, .int .u32 k2, .slice A9 1 c9] 34)))
            generalize w9.alloc (.cells #[.int .i64 2, .int .u32 0, .int .u32 k2, .slice A9 1 c9] 34) = W9 at *
            generalize w9.heap.size = M9 at *
            clear z0 z1 g0 g1 g2 g3 HC9
            have HK9 := Lib.hid (HK3.out.next HB9.out)
            have z0 : W9.cell? ⟨w.heap.size, 0, none⟩ = some (.int .u32 k1) := HK9.out.cell 0
            have z1 : W9.cell? ⟨w.heap.size, 1, none⟩ = some (.int .u32 k2) := HK9.out.cell 1
            have HC10 := Lib.hid (HDO.out none 0 0 [] 4 (k1, k2) a W9 HB9.out (RI.none_ _ _ _ _) (fun x hx => by cases hx) (by decide) HU.out.1)
            rw [HP4.out] at HC10
            go_upto_region 17 with (go_at_call 8; refine HC10.out.mono ?_; rintro e w10 ⟨⟨A10, c10, rfl, hj⟩, hb⟩; have HJ := Lib.hid hj; have HBC := Lib.hid (below_next HB9.out hb); have HQ := Lib.hid (below_next (Below.refl W9.heap.size W9) hb); clear hj hb)
            dsimp only [List.length] at HJ ⊢
            have HB10 := Lib.hid (HBC.out.alloc HBC.out.size (.cells #[.int .i64 1, .int .u32 k1, .int .u32 k2, .slice A10 0 c10] 34))
            have HQ10 := Lib.hid (HQ.out.alloc HQ.out.size (.cells #[.int .i64 1, .int .u32 k1, .int .u32 k2, .slice A10 0 c10] 34))
            have HV10 := Lib.hid (Blk.new w10 34 #[.int .i64 1, .int .u32 k1, .int .u32 k2, .slice A10 0 c10])
            have HJ10 := Lib.hid (HJ.out.next ((Below.refl w10.heap.size w10).alloc (Nat.le_refl _) (.cells #[.int .i64 1, .int .u32 k1, .int .u32 k2, .slice A10 0 c10] 34)))
            generalize w10.alloc (.cells #[.int .i64 1, .int .u32 k1, .int .u32 k2, .slice A10 0 c10] 34) = W10 at *
            generalize w10.heap.size = M10 at *
            clear z0 z1 HC10
            have HK10 := Lib.hid (HK3.out.next HB10.out)
            have z0 : W10.cell? ⟨w.heap.size, 0, none⟩ = some (.int .u32 k1) := HK10.out.cell 0
            have z1 : W10.cell? ⟨w.heap.size, 1, none⟩ = some (.int .u32 k2) := HK10.out.cell 1
            have HC11 := Lib.hid (HDO.out none 0 0 [] 5 (k1, k2) inp W10 HB10.out (RI.none_ _ _ _ _) (fun x hx => by cases hx) (by decide) HU.out.1)
            rw [HP5.out] at HC11
            go_upto_region 18 with (go_at_call 8; refine HC11.out.mono ?_; rintro e w11 ⟨⟨A11, c11, rfl, hj⟩, hb⟩; have HJ := Lib.hid hj; have HBC := Lib.hid (below_next HB10.out hb); have HQ := Lib.hid (below_next (Below.refl W10.heap.size W10) hb); clear hj hb)
            dsimp only [List.length] at HJ ⊢
            have HB11 := Lib.hid (HBC.out.alloc HBC.out.size (.cells #[.int .i64 0, .int .u32 0, .int .u32 0, .slice A11 0 c11] 34))
            have HQ11 := Lib.hid (HQ.out.alloc HQ.out.size (.cells #[.int .i64 0, .int .u32 0, .int .u32 0, .slice A11 0 c11] 34))
            have HV11 := Lib.hid (Blk.new w11 34 #[.int .i64 0, .int .u32 0, .int .u32 0, .slice A11 0 c11])
            have HJ11 := Lib.hid (HJ.out.next ((Below.refl w11.heap.size w11).alloc (Nat.le_refl _) (.cells #[.int .i64 0, .int .u32 0, .int .u32 0, .slice A11 0 c11] 34)))
            generalize w11.alloc (.cells #[.int .i64 0, .int .u32 0, .int .u32 0, .slice A11 0 c11] 34) = W11 at *
            generalize w11.heap.size = M11 at *
            clear z0 z1 HC11
            have HQA := Lib.hid (below_next HQ10.out HQ11.out)
            have HV9' := Lib.hid (HV9.out.next HQA.out)
            have HV10' := Lib.hid (HV10.out.next HQ11.out)
            have HY11 := Lib.hid (HY3.out.next HB11.out)
            have HX9J := Lib.hid (HJ9.out.next HQA.out)
            have HSI := Lib.hid (fun W (hW : Below W11.heap.size W11 W) g (hg : JR W (some ⟨g, 0, none⟩) 1 [b]) => jsame_any A9 (some ⟨g, 0, none⟩) 1 1 c9 1 [b] [b] W (HX9J.out.next hW) hg (by decide) (by decide))
            have HSK := Lib.hid (fun W => skey_any 0 k2 0 k2 W)
            have hdd : decide (([b] : List Int) = [b]) = true := by simp
            have hkk : (((0 : Int) == 0) && (k2 == k2)) = true := by simp
            rw [hdd] at HSI
            rw [hkk] at HSK
            clear hdd hkk e5
            have HBI11 := Lib.hid ((Below.refl W11.heap.size W11).alloc (Nat.le_refl _) (.cells #[.int .i64 b] 3))
            have HSC := Lib.hid (HSI.out _ HBI11.out W11.heap.size (jr_blk (xs := [b]) (Blk.new W11 3 #[.int .i64 b])))
            have x0 : W11.cell? ⟨M9, 0, none⟩ = some (.int .i64 2) := HV9'.out.cell 0
            have x3 : W11.cell? ⟨M9, 3, none⟩ = some (.slice A9 1 c9) := HV9'.out.cell 3
            go_wp2_with (first
              | (go_at_call 15; refine HSC.out.mono ?_; rintro e w12 ⟨rfl, hb⟩; have HB12 := Lib.hid (below_next HBI11.out hb); clear hb; have v1 : w12.cell? ⟨M9, 1, none⟩ = some (.int .u32 0) := (HV9'.out.next HB12.out).cell 1; have v2 : w12.cell? ⟨M9, 2, none⟩ = some (.int .u32 k2) := (HV9'.out.next HB12.out).cell 2; have y0 : w12.cell? ⟨N10, 0, none⟩ = some (.int .u32 0) := (HY11.out.next HB12.out).cell 0; have y1 : w12.cell? ⟨N10, 1, none⟩ = some (.int .u32 k2) := (HY11.out.next HB12.out).cell 1)
              | (go_at_call 14; refine (HSK.out _).mono ?_; rintro e w13 ⟨rfl, hb⟩; have HB13 := Lib.hid (below_next HB12.out hb); clear hb; have u0 : w13.cell? ⟨M10, 0, none⟩ = some (.int .i64 1) := (HV10'.out.next HB13.out).cell 0; have u3 : w13.cell? ⟨M10, 3, none⟩ = some (.slice A10 0 c10) := (HV10'.out.next HB13.out).cell 3; have r0 : w13.cell? ⟨M11, 0, none⟩ = some (.int .i64 0) := (HV11.out.next HB13.out).cell 0))
            go_ret
            exact ⟨rfl, below_next HB3w.out (below_next HB11.out HB13.out)⟩
end Go.Proofs.Yteibmegeoojleaa

