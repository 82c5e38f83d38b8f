/- Package trie's Look, over the seat's program. -/
import Derived.Test.YtnnoigdedjbbmaaTq
namespace Go.Proofs.Ytnnoigdedjbbmaa
open Go.RowKit
namespace Tr
def ar (a : Int) (k : Nat) : Int := a - a % 2 ^ (32 - k)
def lk (L : Row) (a : Int) : Nat → Option (Nat × List Int)
  | 0 => none
  | k + 1 => match get L (ar a k, (k : Int)) with
    | some xs => some (k, xs)
    | none => lk L a k
def look (L : Row) (a : Int) : Option (Nat × List Int) := lk L a 33
end Tr
theorem ar_shift (a : Int) (k : Nat) (_hk : k ≤ 32) (h0 : 0 ≤ a) (h1 : a ≤ 4294967295) : a / 2 ^ (32 - k) * 2 ^ (32 - k) % 4294967296 = Tr.ar a k := by
  unfold Tr.ar
  have hp := Ad.two_pos (32 - k)
  have e := Int.mul_ediv_add_emod a (2 ^ (32 - k))
  have l := Int.emod_nonneg a (show (2 : Int) ^ (32 - k) ≠ 0 by omega)
  have hd := Int.ediv_nonneg h0 (show (0 : Int) ≤ 2 ^ (32 - k) by omega)
  have hm := Int.mul_nonneg hd (show (0 : Int) ≤ 2 ^ (32 - k) by omega)
  rw [Int.mul_comm] at e
  rw [Int.emod_eq_of_lt hm (by omega)]
  omega
theorem ar_bd (a : Int) (k : Nat) (h0 : 0 ≤ a) (h1 : a ≤ 4294967295) : 0 ≤ Tr.ar a k ∧ Tr.ar a k ≤ 4294967295 := by
  unfold Tr.ar
  have hp := Ad.two_pos (32 - k)
  have l := Int.emod_nonneg a (show (2 : Int) ^ (32 - k) ≠ 0 by omega)
  have e := Int.mul_ediv_add_emod a (2 ^ (32 - k))
  have hd := Int.ediv_nonneg h0 (show (0 : Int) ≤ 2 ^ (32 - k) by omega)
  have hm := Int.mul_nonneg (show (0 : Int) ≤ 2 ^ (32 - k) by omega) hd
  omega
theorem around_any (a : Int) (k : Nat) (w : World) (hk : k ≤ 32) (h0 : 0 ≤ a) (h1 : a ≤ 4294967295) :
    Calls Try.prog 21 #[.int .u32 a, .int .i64 (k : Int)] w fun e w' => e = .returned (.agg #[.int .u32 (Tr.ar a k), .int .i64 (k : Int)]) ∧ Below w.heap.size w w' := by
  have H := Lib.hid (ar_shift a k hk h0 h1)
  have e1 : ((32 : Int) - (k : Int)).toNat = 32 - k := by omega
  have e2 : 0 ≤ (32 : Int) - (k : Int) := by omega
  have e3 : ((32 : Int) - (k : Int)) < 33 := by omega
  go_enter Try.func21, Try.ntmps21
  go_wp2
  simp only [H.out]
  refine bodyPost_ret (v := .agg #[.int .u32 (Tr.ar a k), .int .i64 (k : Int)]) ?_ rfl ⟨rfl, ?_⟩
  · simp [results, Try.results21, go_sem]
  · exact (Below.refl _ _).alloc (Nat.le_refl _) _
theorem nat_sub (k : Nat) : ((k + 1 : Nat) : Int) - 1 = (k : Int) := by omega
set_option maxHeartbeats 1000000 in
theorem look_any (w : World) (F : Nat → Prop) (N : Nat) (L : Tr.Row) (a : Int) (h : TR w F N L) (h0 : 0 ≤ a) (h1 : a ≤ 4294967295) (hn : ∀ p, ((Tr.get L p).getD []).length ≤ 1000000) :
    Calls Try.prog 11 #[.pointer (some ⟨N, 0, none⟩), .int .u32 a] w fun e w' => Below w.heap.size w w' ∧
      ((Tr.look L a = none ∧ e = .returned (.tuple #[.agg #[.int .u32 0, .int .i64 0], .slice none 0 0, .bool false])) ∨
       ∃ (k : Nat) (xs : List Int) (v : Value), Tr.look L a = some (k, xs) ∧ e = .returned (.tuple #[.agg #[.int .u32 (Tr.ar a k), .int .i64 (k : Int)], v, .bool true]) ∧ w'.ownsRow w.heap.size 3 1 v xs.length (I64 xs)) := by
  have HT : Hid (∀ W, Below w.heap.size w W → TR W F N L) := Lib.hid fun W hW => h.next hW
  have HN := Lib.hid hn
  have HB0 := Lib.hid ((Below.refl w.heap.size w).alloc (Nat.le_refl _) (.cells #[.int .u32 0, .int .i64 0] 27))
  have HK : Hid (Blk (w.alloc (.cells #[.int .u32 0, .int .i64 0] 27)) w.heap.size 27 #[.int .u32 0, .int .i64 0]) := Lib.hid (Blk.new _ _ _)
  clear h hn
  go_enter Try.func11, Try.ntmps11
  go_wp2
  generalize hW0 : w.alloc (.cells #[.int .u32 0, .int .i64 0] 27) = W0 at *
  have hz0 : W0.heap.size = w.heap.size + 1 := by rw [← hW0]; simp
  clear hW0
  go_loopw [7] (fun i wr => ∃ k : Nat, k ≤ 33 ∧ i = .int .i64 ((k : Int) - 1) ∧ Below W0.heap.size W0 wr ∧ Tr.look L a = Tr.lk L a k) (fun i _ => (intOf i + 1).toNat)
  case atStart => exact ⟨33, by omega, rfl, Below.refl _ _, rfl⟩
  case round =>
    obtain ⟨k, hk, rfl, hb, hl⟩ := hrel
    have hbw : Below w.heap.size w wr := HB0.out.trans (hb.mono (by omega))
    have hBk := (HK.out.next hb)
    have hlt := hBk.lt
    rcases k with _ | k
    · have e0 : ((0 : Nat) : Int) - 1 = -1 := rfl
      rw [e0]
      have c0 : wr.cell? ⟨w.heap.size, 0, none⟩ = some (.int .u32 0) := by simpa using hBk.cell 0
      have c1 : wr.cell? ⟨w.heap.size, 1, none⟩ = some (.int .i64 0) := by simpa using hBk.cell 1
      have f0 := hBk.frozen 0
      have f1 := hBk.frozen 1
      have HL := Lib.hid (hl.trans rfl : Tr.look L a = none)
      have HBw := Lib.hid hbw
      have HR : Hid (∀ u v : Value, ((wr.setCell ⟨w.heap.size, 0, none⟩ u).setCell ⟨w.heap.size, 1, none⟩ v).cell? ⟨w.heap.size, 0, none⟩ = some u ∧ ((wr.setCell ⟨w.heap.size, 0, none⟩ u).setCell ⟨w.heap.size, 1, none⟩ v).cell? ⟨w.heap.size, 1, none⟩ = some v) :=
        Lib.hid fun u v => ⟨by simpa using ((hBk.set_ 0 u).set_ 1 v).cell 0, by simpa using ((hBk.set_ 0 u).set_ 1 v).cell 1⟩
      clear hl hb hbw hBk e0
      go_wp2
      refine bodyPost_ret (v := .tuple #[.agg #[.int .u32 0, .int .i64 0], .slice none 0 0, .bool false]) ?_ rfl ⟨?_, .inl ⟨HL.out, rfl⟩⟩
      · simp [results, Try.results11, go_sem, (HR.out _ _).1, (HR.out _ _).2]
      · exact (HBw.out.setCell (Nat.le_refl _) _).setCell (Nat.le_refl _) _
    · rw [nat_sub]
      have hg0 : (0 : Int) ≤ (k : Int) := by omega
      have HBw := Lib.hid hbw
      have HL := Lib.hid hl
      have HBk := Lib.hid hBk
      have Hb := Lib.hid hb
      clear hl hb hbw hBk
      go_wp2_with fail
      refine (around_any a k _ (by omega) h0 h1).mono ?_
      rintro e w2 ⟨rfl, hb2⟩
      have hB2 : Below w.heap.size w (w2.alloc (.cells #[.int .u32 (Tr.ar a k), .int .i64 (k : Int)] 27)) := (HBw.out.trans (hb2.mono HBw.out.size)).alloc (Nat.le_trans HBw.out.size hb2.size) _
      have g0 : Below W0.heap.size W0 (w2.alloc (.cells #[.int .u32 (Tr.ar a k), .int .i64 (k : Int)] 27)) := (Hb.out.trans (hb2.mono Hb.out.size)).alloc (Nat.le_trans Hb.out.size hb2.size) _
      have HB2 := Lib.hid hB2
      have G0 := Lib.hid g0
      have hz2 := hb2.size
      have hw : wfP (Tr.ar a k, (k : Int)) := ⟨ar_bd a k h0 h1, by omega⟩
      have HW := Lib.hid hw
      clear hB2 hb2 g0 hw
      go_wp2_with fail
      refine (get_any _ F N L (Tr.ar a k, (k : Int)) (HT.out _ HB2.out) HW.out (by have := HN.out (Tr.ar a k, (k : Int)); omega)).mono ?_
      rintro e w3 ⟨v, rfl, hown, hb3⟩
      have hb3w : Below w.heap.size w w3 := HB2.out.trans (hb3.mono HB2.out.size)
      have hb3z : Below W0.heap.size W0 w3 := G0.out.trans (hb3.mono G0.out.size)
      have HB3 := Lib.hid hb3w
      have G3 := Lib.hid hb3z
      have HO := Lib.hid hown
      have hBk3 := HK.out.next hb3z
      have p0 : w3.cell? ⟨w2.heap.size, 0, none⟩ = some (.int .u32 (Tr.ar a k)) := (hb3.cell (p := ⟨w2.heap.size, 0, none⟩) (by simp)).trans (by go_simp)
      have p1 : w3.cell? ⟨w2.heap.size, 1, none⟩ = some (.int .i64 (k : Int)) := (hb3.cell (p := ⟨w2.heap.size, 1, none⟩) (by simp)).trans (by go_simp)
      cases hg : Tr.get L (Tr.ar a k, (k : Int)) with
      | none =>
        have HE := Lib.hid (show Tr.look L a = Tr.lk L a k by rw [HL.out]; simp [Tr.lk, hg])
        simp only [Option.isSome_none]
        clear hb3w hb3z hown hBk3 hb3 hg
        go_wp2
        go_roundw
        case rel => exact ⟨k, by omega, rfl, G3.out, HE.out⟩
        case measure => simp [intOf]
      | some xs =>
        have HE := Lib.hid (show Tr.look L a = some (k, xs) by rw [HL.out]; simp [Tr.lk, hg])
        have HO2 := Lib.hid (show w3.ownsRow w.heap.size 3 1 v xs.length (I64 xs) by
          have := own_up hown HB2.out.size
          rw [hg] at this
          simpa using this)
        simp only [Option.isSome_some]
        have c0 : w3.cell? ⟨w.heap.size, 0, none⟩ = some (.int .u32 0) := by simpa using hBk3.cell 0
        have c1 : w3.cell? ⟨w.heap.size, 1, none⟩ = some (.int .i64 0) := by simpa using hBk3.cell 1
        have f0 := hBk3.frozen 0
        have f1 := hBk3.frozen 1
        have HR : Hid (∀ u v : Value, ((w3.setCell ⟨w.heap.size, 0, none⟩ u).setCell ⟨w.heap.size, 1, none⟩ v).cell? ⟨w.heap.size, 0, none⟩ = some u ∧ ((w3.setCell ⟨w.heap.size, 0, none⟩ u).setCell ⟨w.heap.size, 1, none⟩ v).cell? ⟨w.heap.size, 1, none⟩ = some v) :=
          Lib.hid fun u v => ⟨by simpa using ((hBk3.set_ 0 u).set_ 1 v).cell 0, by simpa using ((hBk3.set_ 0 u).set_ 1 v).cell 1⟩
        have HZ := Lib.hid hBk3
        clear hb3w hb3z hown hBk3 hb3 hg HO
        go_wp2
        refine bodyPost_ret (v := .tuple #[.agg #[.int .u32 (Tr.ar a k), .int .i64 (k : Int)], v, .bool true]) ?_ rfl ⟨?_, .inr ⟨k, xs, v, HE.out, rfl, ?_⟩⟩
        · simp [results, Try.results11, go_sem, (HR.out _ _).1, (HR.out _ _).2]
        · exact (HB3.out.setCell (Nat.le_refl _) _).setCell (Nat.le_refl _) _
        · refine own_at HO2.out (fun g hg => ?_)
          have hne : g ≠ w.heap.size := fun e => by
            subst e
            rcases HO2.out.2 with ⟨hv, _⟩ | ⟨g', cap, cur, hv, _, hh, _⟩
            · rw [hv] at hg; simp [Value.ownBlock] at hg
            · rw [hv] at hg
              simp [Value.ownBlock] at hg
              subst hg
              have hV := HZ.out
              unfold Blk at hV
              rw [hV] at hh
              simp at hh
          rw [Below.heap_setCell _ _ _ _ (by simpa using hne), Below.heap_setCell _ _ _ _ (by simpa using hne)]
end Go.Proofs.Ytnnoigdedjbbmaa

