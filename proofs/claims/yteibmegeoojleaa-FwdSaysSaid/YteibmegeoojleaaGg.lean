/- What is light of rows and of lost ports; over the seat's program. -/
import Derived.Test.YteibmegeoojleaaGf
namespace Go.Proofs.Yteibmegeoojleaa
open Go.ChangeShapes Go.WideShapes Go.ChangeAt Go.RowKit Sm Go.Maps
/-- are rows few, each small? -/
def lightR (ms : List PMr) (n n2 : Nat) : Bool := (ms.all fun m => decide (m.p.xs.length ≤ 12)) && (decide (n ≤ 20) && decide (n2 ≤ 20))
set_option maxRecDepth 100000 in
set_option maxHeartbeats 2000000 in
theorem lightR_any (A : Option Addr) (n c : Nat) (ms : List PMr) (B2 : Option Addr) (n2 c2 : Nat) (w : World) (h : RI CRw 6 w A n ms) (hn : n ≤ 9223372036854775807) :
    Calls Try.prog 7 #[.slice A n c, .slice B2 n2 c2] w fun e w' => e = .returned (.bool (lightR ms n n2)) ∧ Below w.heap.size w w' := by
  have HR := Lib.hid h
  have HLEN := Lib.hid h.len
  have HLR : Hid (lightR ms n n2 = ((ms.all fun m => decide (m.p.xs.length ≤ 12)) && (decide (n ≤ 20) && decide (n2 ≤ 20)))) := Lib.hid rfl
  clear h
  generalize lightR ms n n2 = R at *
  go_enter Try.func7, Try.ntmps7
  go_wp2
  go_loopw [5] (fun iv wr => ∃ (k : Nat), k ≤ n ∧ iv = .int .i64 k ∧ Hid (∀ (j : Nat) m, j < k → ms[j]? = some m → m.p.xs.length ≤ 12) ∧ Hid (Below w.heap.size w wr)) (fun iv _ => n - (intOf iv).toNat)
  case atStart => exact ⟨0, Nat.zero_le _, rfl, Lib.hid (fun j m hj => absurd hj (Nat.not_lt_zero _)), Lib.hid (Below.refl _ _)⟩
  case round =>
    obtain ⟨k, hk, rfl, HNO, HB⟩ := hrel
    rcases Nat.lt_or_ge k n with hlt | hge
    · have hi0 : (k : Int) < (n : Int) := by omega
      obtain ⟨b5, o5, m, rfl, hbl, hx, hcl⟩ := (HR.out.next HB.out).at_ hlt
      have HX := Lib.hid hx
      have t5 : wr.cell? ⟨b5, o5 + k * 6 + 5, none⟩ = some (.slice m.A m.p.xs.length m.c) := hcl 5 _ rfl
      clear hx hcl hbl
      by_cases hm : 12 < m.p.xs.length
      · have HF : Hid (R = false) := Lib.hid (by
          rw [HLR.out]
          have : (ms.all fun m => decide (m.p.xs.length ≤ 12)) = false := by
            rw [List.all_eq_false]
            exact ⟨m, List.mem_of_getElem? HX.out, by simpa using hm⟩
          rw [this]; rfl)
        have HM := Lib.hid hm
        generalize m.p.xs.length = q at *
        have e1 : decide ((12 : Int) < (q : Int)) = true := by simp; omega
        go_wp2
        go_ret
        exact ⟨by rw [HF.out]; rfl, HB.out⟩
      · have HM : Hid (m.p.xs.length ≤ 12) := Lib.hid (by omega)
        obtain ⟨q, hq⟩ : ∃ q, m.p.xs.length = q := ⟨_, rfl⟩
        rw [hq] at t5 hm
        clear hq
        have e1 : decide ((12 : Int) < (q : Int)) = false := by simp; omega
        clear hm
        go_wp2
        go_roundw
        case rel => exact ⟨k + 1, by omega, by go_num, Lib.hid (fun j y hj hy => by
          by_cases e : j = k
          · subst e; rw [HX.out] at hy; cases hy; exact HM.out
          · exact HNO.out j y (by omega) hy), HB⟩
        case measure => simp [intOf]; omega
    · obtain rfl : k = n := by omega
      have hd : decide ((k : Int) < (k : Int)) = false := by simp
      have HAL : Hid ((ms.all fun m => decide (m.p.xs.length ≤ 12)) = true) := Lib.hid (by
        rw [List.all_eq_true]
        intro m hm
        obtain ⟨j, hj⟩ := List.mem_iff_getElem?.1 hm
        have := HNO.out j m (by have := (List.getElem?_eq_some_iff.1 hj).1; have := HLEN.out; omega) hj
        simpa using this)
      rw [HAL.out, Bool.true_and] at HLR
      by_cases h1 : k ≤ 20
      · have e1 : decide ((k : Int) ≤ (20 : Int)) = true := by simp; omega
        by_cases h2 : n2 ≤ 20
        · have e2 : decide ((n2 : Int) ≤ (20 : Int)) = true := by simp; omega
          go_wp2
          go_ret
          exact ⟨by rw [HLR.out]; simp [h1, h2], HB.out⟩
        · have e2 : decide ((n2 : Int) ≤ (20 : Int)) = false := by simp; omega
          go_wp2
          go_ret
          exact ⟨by rw [HLR.out]; simp [h1, h2], HB.out⟩
      · have e1 : decide ((k : Int) ≤ (20 : Int)) = false := by simp; omega
        go_wp2
        go_ret
        exact ⟨by rw [HLR.out]; simp [h1], HB.out⟩
end Go.Proofs.Yteibmegeoojleaa

