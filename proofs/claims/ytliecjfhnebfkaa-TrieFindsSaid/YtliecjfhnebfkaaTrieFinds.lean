/- The statement on what an address is found in, walked. -/
import Derived.Test.YtliecjfhnebfkaaTf
import Derived.Test.YtliecjfhnebfkaaTg
import Derived.Test.YtliecjfhnebfkaaTd
import Derived.Test.YtliecjfhnebfkaaRef
namespace Go.Proofs.Ytliecjfhnebfkaa
open Go.RowKit
set_option maxRecDepth 100000 in
set_option maxHeartbeats 2000000 in
theorem law_finds (A : Option Addr) (n c : Nat) (xs : List Do) (a : Int) (w : World) (h : RI CDo 3 w A n xs) (hwf : ∀ x ∈ xs, wfDo x) (a0 : 0 ≤ a) (a1 : a ≤ 4294967295) :
    Calls Try.prog 6 #[.slice A n c, .int .u32 a] w fun e w' => e = .returned (.bool true) ∧ Below w.heap.size w w' := by
  have hB := Lib.hid (Eq.refl w.heap.size)
  by_cases hn : 30 < n
  · have hd : decide ((30 : Int) < (n : Int)) = true := by simp; omega
    go_enter Try.func6, Try.ntmps6
    go_wp2_with fail
    refine (first_any w).mono ?_
    rintro e w1 ⟨rfl, hb1⟩
    go_wp2
    go_ret
    exact ⟨rfl, hb1⟩
  have hd : decide ((30 : Int) < (n : Int)) = false := by simp; omega
  go_enter Try.func6, Try.ntmps6
  go_wp2_with fail
  refine (first_any w).mono ?_
  rintro e w1 ⟨rfl, hb1⟩
  have hs : w.heap.size ≤ w1.heap.size := hb1.size
  have h0 : OT w.heap.size (w1.alloc (.cells #[.map none] 31)) w1.heap.size [] := OT.new w1 hs
  have hb0 := hb1.alloc hs (.cells #[.map none] 31)
  clear hb1
  go_wp2_with fail
  generalize w1.alloc (.cells #[.map none] 31) = w2 at *
  generalize w1.heap.size = N at *
  have HR : Hid (∀ W, Below w.heap.size w W → RI CDo 3 W A n xs) := Lib.hid fun W hW => h.next hW
  have HW := Lib.hid hwf
  clear h hwf hd
  go_loopw [7, 8, 9] (fun is most i wr => ∃ (k : Nat) (L : Tr.Row), k ≤ n ∧ i = .int .i64 k ∧ is = .bool (Tr.look L a).isSome ∧ most = .int .i64 (Tr.top L a) ∧ OT w.heap.size wr N L ∧ Tr.Few k L ∧ Below w.heap.size w wr) (fun _ _ i _ => n - (intOf i).toNat)
  case atStart => exact ⟨0, [], by omega, rfl, by rw [look_nil]; rfl, by rw [Tr.top_none (look_nil a)], h0, Tr.few_nil, hb0⟩
  case round =>
    obtain ⟨k, L, hk, rfl, rfl, rfl, hO, hF, hb⟩ := hrel
    have hsz : w.heap.size ≤ wr.heap.size := hb.size
    rcases Nat.lt_or_ge k n with hlt | hge
    · obtain ⟨b, o, ⟨x, y, z⟩, rfl, hbl, hx, hc⟩ := (HR.out wr hb).at_ hlt
      have c0 : wr.cell? ⟨b, o + k * 3, none⟩ = some (.int .u32 x) := hc 0 _ rfl
      have c1 : wr.cell? ⟨b, o + k * 3 + 1, none⟩ = some (.int .i64 y) := hc 1 _ rfl
      have hlt' : (k : Int) < (n : Int) := by omega
      have hw := HW.out _ (List.mem_of_getElem? hx)
      have HX := Lib.hid hw
      have HK := Lib.hid hx
      clear h0 hb0 hc hw hx
      go_wp2_with fail
      refine (ot_put wr x y k hO hsz ⟨HX.out.1, HX.out.2.1⟩ (by have := hF.1; omega) (by have := hF.2.1 (x, y); omega)).mono ?_
      rintro e w3 ⟨rfl, hO3, hb3⟩
      have hF3 := Tr.few_put hF (x, y) (k : Int)
      have hB3 := hb.trans hb3
      have hR3 := HR.out w3 hB3
      obtain ⟨b', o', x', e1, hbl', hx', hc'⟩ := hR3.at_ hlt
      obtain ⟨rfl, rfl⟩ : b = b' ∧ o = o' := by cases e1; exact ⟨rfl, rfl⟩
      obtain ⟨x2, y2, z2⟩ := x'
      have d0 : w3.cell? ⟨b, o + k * 3, none⟩ = some (.int .u32 x2) := hc' 0 _ rfl
      have d1 : w3.cell? ⟨b, o + k * 3 + 1, none⟩ = some (.int .i64 y2) := hc' 1 _ rfl
      have hkk := hx'.symm.trans HK.out
      obtain ⟨rfl, rfl, rfl⟩ : x2 = x ∧ y2 = y ∧ z2 = z := by cases hkk; exact ⟨rfl, rfl, rfl⟩
      clear hO hF hb hb3 hR3 hc' hx' hkk c0 c1 e1
      cases hin : Ad.isIn x2 y2 a with
      | false =>
        have L1 := Lib.hid (Tr.putv_out L x2 y2 a k hin)
        have L2 : Hid (Tr.top (Tr.putv L (x2, y2) k) a = Tr.top L a) := Lib.hid (by unfold Tr.top; rw [L1.out])
        cases hv : Ad.valid x2 y2 with
        | false =>
          have HV := Lib.hid hv
          clear hv hin
          go_wp2
          go_roundw
          case rel => exact ⟨k + 1, _, by omega, by go_num, by rw [L1.out], by rw [L2.out], hO3, hF3, hB3⟩
          case measure => simp [intOf]; omega
        | true =>
          have HI := Lib.hid hin
          clear hv hin
          go_wp2_with fail
          refine (rin_any x2 y2 a w3 HX.out.1.1 HX.out.1.2 a0 a1).mono ?_
          rintro e w4 ⟨rfl, hb4⟩
          rw [HI.out]
          have hO4 := hO3.next hb4
          have hB4 := hB3.trans (hb4.mono hB3.size)
          clear hO3 hB3 hb4 d0 d1
          go_wp2
          go_roundw
          case rel => exact ⟨k + 1, _, by omega, by go_num, by rw [L1.out], by rw [L2.out], hO4, hF3, hB4⟩
          case measure => simp [intOf]; omega
      | true =>
        have hv : Ad.valid x2 y2 = true := by
          unfold Ad.isIn at hin
          simp only [Bool.and_eq_true] at hin
          exact hin.1
        obtain ⟨l1, l2⟩ := Tr.putv_in L x2 y2 a k hin
        have L1 := Lib.hid l1
        have L2 := Lib.hid l2
        have HI := Lib.hid hin
        rw [hv]
        clear hv hin l1 l2
        go_wp2_with fail
        refine (rin_any x2 y2 a w3 HX.out.1.1 HX.out.1.2 a0 a1).mono ?_
        rintro e w4 ⟨rfl, hb4⟩
        rw [HI.out]
        have f1 : w4.cell? ⟨b, o + k * 3 + 1, none⟩ = some (.int .i64 y2) := (hb4.cell (p := ⟨b, o + k * 3 + 1, none⟩) hbl').trans d1
        have hO4 := hO3.next hb4
        have hB4 := hB3.trans (hb4.mono hB3.size)
        clear hO3 hB3 hb4 d0 d1
        go_wp2
        go_roundw
        case rel => exact ⟨k + 1, _, by omega, by go_num, by rw [L1.out], by rw [L2.out]; congr 1; split <;> omega, hO4, hF3, hB4⟩
        case measure => simp [intOf]; omega
    · obtain rfl : k = n := by omega
      have hlt' : decide ((k : Int) < (k : Int)) = false := by simp
      have hshort : ∀ p, ((Tr.get L p).getD []).length ≤ 1000000 := fun p => by have := hF.2.1 p; omega
      have HS := Lib.hid hshort
      have HF := Lib.hid hF
      clear h0 hb0 hshort hF
      go_wp2_with fail
      refine (ot_look wr a hO a0 a1 HS.out).mono ?_
      rintro e w3 ⟨hb3, hp⟩
      have hO3 := hO.next hb3
      have hB3 := hb.trans (hb3.mono hsz)
      have hs3 : w.heap.size ≤ w3.heap.size := hB3.size
      rcases hp with ⟨hl, rfl⟩ | ⟨j, xs', v, hl, rfl, hown⟩
      · rw [hl, Tr.top_none hl]
        simp only [Option.isSome_none]
        have hB4 := hB3.alloc hs3 (.cells #[.int .u32 0, .int .i64 0] 27)
        clear hO hb hb3 hO3 hB3 hl hs3
        go_wp2
        go_ret
        exact ⟨rfl, hB4⟩
      · rw [hl, Tr.top_some hl]
        simp only [Option.isSome_some]
        have hget : Tr.get L (Tr.ar a j, (j : Int)) = some xs' ∧ j ≤ 32 := by
          rcases Tr.lk_spec L a 33 with ⟨h1, _⟩ | ⟨j2, ys, h1, h2, h3, _⟩
          · rw [Tr.look, h1] at hl; cases hl
          · rw [Tr.look, h2] at hl
            cases hl
            exact ⟨h3, by omega⟩
        have hne := HF.out.2.2 _ _ hget.1
        have hlen : xs'.length ≤ 30 := by
          have := HF.out.2.1 (Tr.ar a j, (j : Int))
          rw [hget.1] at this
          simp at this
          omega
        have hpos : 0 < xs'.length := List.length_pos_iff.2 hne
        obtain ⟨A', c', rfl, hJ⟩ := own_jr hown
        have hba := (Below.refl w3.heap.size w3).alloc (Nat.le_refl _) (.cells #[.int .u32 (Tr.ar a j), .int .i64 (j : Int)] 27)
        have hB4 := hB3.alloc hs3 (.cells #[.int .u32 (Tr.ar a j), .int .i64 (j : Int)] 27)
        have hO4 := hO3.next hba
        have hJ4 := hJ.next hba
        have e0 : (w3.alloc (.cells #[.int .u32 (Tr.ar a j), .int .i64 (j : Int)] 27)).cell? ⟨w3.heap.size, 0, none⟩ = some (.int .u32 (Tr.ar a j)) := by go_simp
        have e1 : (w3.alloc (.cells #[.int .u32 (Tr.ar a j), .int .i64 (j : Int)] 27)).cell? ⟨w3.heap.size, 1, none⟩ = some (.int .i64 (j : Int)) := by go_simp
        have hlt3 : w3.heap.size < (w3.alloc (.cells #[.int .u32 (Tr.ar a j), .int .i64 (j : Int)] 27)).heap.size := by simp
        have hs4 : w.heap.size ≤ (w3.alloc (.cells #[.int .u32 (Tr.ar a j), .int .i64 (j : Int)] 27)).heap.size := hB4.size
        have HG := Lib.hid hget
        have HP : Hid (wfP (Tr.ar a j, (j : Int))) := Lib.hid ⟨ar_bd a j a0 a1, by omega⟩
        clear hO hb hb3 hO3 hB3 hl hown hJ hba hs3 hget hne
        go_wp2_with fail
        generalize w3.alloc (.cells #[.int .u32 (Tr.ar a j), .int .i64 (j : Int)] 27) = w4 at *
        refine (ot_get w4 (Tr.ar a j) j hO4 HP.out (by rw [HG.out.1]; simp; omega)).mono ?_
        rintro e w5 ⟨u, rfl, hown5, hb5⟩
        rw [HG.out.1] at hown5 ⊢
        simp only [Option.getD_some] at hown5
        obtain ⟨A5, c5, rfl, hJ5⟩ := own_jr hown5
        have hJ6 := hJ4.next hb5
        have hB5 := hB4.trans (hb5.mono hs4)
        have f1 : w5.cell? ⟨w3.heap.size, 1, none⟩ = some (.int .i64 (j : Int)) := (hb5.cell (p := ⟨w3.heap.size, 1, none⟩) hlt3).trans e1
        have hs5 : w.heap.size ≤ w5.heap.size := hB5.size
        have hposI : (0 : Int) < (xs'.length : Int) := by omega
        simp only [Option.isSome_some]
        generalize hq : xs'.length = q at *
        clear hown5 hJ4 hb5 hB4 hO4 e0 e1 hs4 hq
        go_wp2_with fail
        refine (jsame_any A' A5 q q c' c5 xs' xs' w5 hJ6 hJ5 (by omega) (by omega)).mono ?_
        rintro e w6 ⟨rfl, hb6⟩
        have hB6 := hB5.trans (hb6.mono hs5)
        simp only [decide_true]
        clear hJ6 hJ5 hB5 hb6 f1
        go_wp2
        go_ret
        exact ⟨rfl, hB6⟩
end Go.Proofs.Ytliecjfhnebfkaa

