/- fwd.Row: the row of a packet: one of its key, or else one of any source; over the seat's program. -/
import Derived.Test.YteibmegeoojleaaGa
namespace Go.Proofs.Yteibmegeoojleaa
open Go.ChangeShapes Go.WideShapes Go.ChangeAt Go.RowKit Sm Go.Maps
/-- the row by which a key's packets go -/
def rowR (l : List PRow) (r : Int) (k : Int × Int) : Option PRow := match findR l r k with
  | some p => some p
  | none => findR l r (0, k.2)
theorem ret_row (tm : Array Value) (N : Nat) (W : World) (v0 v1 v2 v3 v4 v5 u : Value) (h2 : tm.getD 6 undef = .pointer (some ⟨N, 0, none⟩)) (h3 : tm.getD 7 undef = u) (c0 : W.cell? ⟨N, 0, none⟩ = some v0) (c1 : W.cell? ⟨N, 1, none⟩ = some v1) (c2 : W.cell? ⟨N, 2, none⟩ = some v2) (c3 : W.cell? ⟨N, 3, none⟩ = some v3) (c4 : W.cell? ⟨N, 4, none⟩ = some v4) (c5 : W.cell? ⟨N, 5, none⟩ = some v5) :
    (results Try.f12 tm).run Try.prog W = .ok (.tuple #[.agg #[v0, v1, v2, v3, v4, v5], u]) W := by
  have h2' : tm[6]?.getD undef = .pointer (some ⟨N, 0, none⟩) := by simpa using h2
  have h3' : tm[7]?.getD undef = u := by simpa using h3
  simp [results, Try.results12, go_sem, h2', h3', c0, c1, c2, c3, c4, c5]
/-- the values of a find's answer -/
def findV (A : Option Addr) (c : Nat) : Option PRow → List Value
  | none => [.int .i64 0, .int .i64 0, .int .i64 0, .int .u32 0, .int .u32 0, .slice none 0 0]
  | some p => [.int .i64 p.r, .int .i64 p.i, .int .i64 p.u, .int .u32 p.k.1, .int .u32 p.k.2, .slice A p.xs.length c]
set_option maxRecDepth 100000 in
set_option maxHeartbeats 4000000 in
theorem row_any (A : Option Addr) (n c : Nat) (ms : List PMr) (r : Int) (k : Int × Int) (w : World) (h : RI CRw 6 w A n ms) (hj : ∀ m ∈ ms, JR w m.A m.p.xs.length m.p.xs) (hn : n ≤ 1000) (hx : ∀ m ∈ ms, m.p.xs.length ≤ 1000) :
    Calls Try.prog 12 #[.int .i64 r, .slice A n c, .agg #[.int .u32 k.1, .int .u32 k.2]] w fun e w' => FindOK w.heap.size e w' (rowR (ms.map PMr.p) r k) ∧ Below w.heap.size w w' := by
  obtain ⟨k1, k2⟩ := k
  have HB0 := Lib.hid (((Below.refl w.heap.size w).alloc (Nat.le_refl _) (.cells #[.int .u32 k1, .int .u32 k2] 27)).alloc (by simp) (.cells #[.int .i64 0, .int .i64 0, .int .i64 0, .int .u32 0, .int .u32 0, .slice none 0 0] 43))
  have HK : Hid (Blk ((w.alloc (.cells #[.int .u32 k1, .int .u32 k2] 27)).alloc (.cells #[.int .i64 0, .int .i64 0, .int .i64 0, .int .u32 0, .int .u32 0, .slice none 0 0] 43)) w.heap.size 27 #[.int .u32 k1, .int .u32 k2]) := Lib.hid ((Blk.new _ _ _).alloc _)
  have HS : Hid (Blk ((w.alloc (.cells #[.int .u32 k1, .int .u32 k2] 27)).alloc (.cells #[.int .i64 0, .int .i64 0, .int .i64 0, .int .u32 0, .int .u32 0, .slice none 0 0] 43)) (w.heap.size + 1) 43 #[.int .i64 0, .int .i64 0, .int .i64 0, .int .u32 0, .int .u32 0, .slice none 0 0]) := Lib.hid (by simpa using Blk.new (w.alloc (.cells #[.int .u32 k1, .int .u32 k2] 27)) 43 #[.int .i64 0, .int .i64 0, .int .i64 0, .int .u32 0, .int .u32 0, .slice none 0 0])
  have HR := Lib.hid h
  have HJ := Lib.hid hj
  have HX := Lib.hid hx
  have HN := Lib.hid hn
  have HNB : Hid (w.heap.size ≤ w.heap.size + 1) := Lib.hid (by omega)
  clear h hj hx
  go_enter Try.func12, Try.ntmps12
  go_upto_region 1 with fail
  generalize (w.alloc (.cells #[.int .u32 k1, .int .u32 k2] 27)).alloc (.cells #[.int .i64 0, .int .i64 0, .int .i64 0, .int .u32 0, .int .u32 0, .slice none 0 0] 43) = W0 at *
  have HF1 := Lib.hid (find_any A n c ms r (k1, k2) W0 (HR.out.next HB0.out) (fun m hm => (HJ.out m hm).next HB0.out) HN.out HX.out)
  have HF2 := Lib.hid (fun W (hW : Below w.heap.size w W) => find_any A n c ms r (0, k2) W (HR.out.next hW) (fun m hm => (HJ.out m hm).next hW) HN.out HX.out)
  have HRR : Hid (rowR (ms.map PMr.p) r (k1, k2) = match findR (ms.map PMr.p) r (k1, k2) with | some p => some p | none => findR (ms.map PMr.p) r (0, k2)) := Lib.hid rfl
  have z0 : W0.cell? ⟨w.heap.size, 0, none⟩ = some (.int .u32 k1) := HK.out.cell 0
  have z1 : W0.cell? ⟨w.heap.size, 1, none⟩ = some (.int .u32 k2) := HK.out.cell 1
  dsimp only at HF1 HF2
  generalize findR (ms.map PMr.p) r (k1, k2) = R1 at *
  generalize findR (ms.map PMr.p) r (0, k2) = R2 at *
  clear hn
  cases R1 with
  | some p =>
    have HR1 := Lib.hid HRR.out
    clear HRR HF2
    go_upto_region 2 with (go_at_call 21; refine HF1.out.mono ?_; rintro e w1 ⟨⟨A1, c1, rfl, hown1⟩, hb1⟩; have HO1 := Lib.hid hown1; have HB1 := Lib.hid hb1; clear hown1 hb1)
    clear z0 z1 HF1
    have HB2 := Lib.hid (HB1.out.alloc HB1.out.size (.cells #[.int .i64 p.r, .int .i64 p.i, .int .i64 p.u, .int .u32 p.k.1, .int .u32 p.k.2, .slice A1 p.xs.length c1] 43))
    have HV2 := Lib.hid (Blk.new w1 43 #[.int .i64 p.r, .int .i64 p.i, .int .i64 p.u, .int .u32 p.k.1, .int .u32 p.k.2, .slice A1 p.xs.length c1])
    have HO2 := Lib.hid (HO1.out.alloc (.cells #[.int .i64 p.r, .int .i64 p.i, .int .i64 p.u, .int .u32 p.k.1, .int .u32 p.k.2, .slice A1 p.xs.length c1] 43))
    generalize w1.alloc (.cells #[.int .i64 p.r, .int .i64 p.i, .int .i64 p.u, .int .u32 p.k.1, .int .u32 p.k.2, .slice A1 p.xs.length c1] 43) = W2 at *
    generalize w1.heap.size = N2 at *
    have HS2 := Lib.hid (HS.out.next HB2.out)
    have m0 := HS2.out.cell 0; have m1 := HS2.out.cell 1; have m2 := HS2.out.cell 2; have m3 := HS2.out.cell 3; have m4 := HS2.out.cell 4; have m5 := HS2.out.cell 5
    have f0 := HS2.out.frozen 0; have f1 := HS2.out.frozen 1; have f2 := HS2.out.frozen 2; have f3 := HS2.out.frozen 3; have f4 := HS2.out.frozen 4; have f5 := HS2.out.frozen 5
    simp only [List.getElem?_toArray, List.getElem?_cons_zero, List.getElem?_cons_succ] at m0 m1 m2 m3 m4 m5
    have v0 : W2.cell? ⟨N2, 0, none⟩ = some (.int .i64 p.r) := HV2.out.cell 0
    have v1 : W2.cell? ⟨N2, 1, none⟩ = some (.int .i64 p.i) := HV2.out.cell 1
    have v2 : W2.cell? ⟨N2, 2, none⟩ = some (.int .i64 p.u) := HV2.out.cell 2
    have v3 : W2.cell? ⟨N2, 3, none⟩ = some (.int .u32 p.k.1) := HV2.out.cell 3
    have v4 : W2.cell? ⟨N2, 4, none⟩ = some (.int .u32 p.k.2) := HV2.out.cell 4
    have v5 : W2.cell? ⟨N2, 5, none⟩ = some (.slice A1 p.xs.length c1) := HV2.out.cell 5
    obtain ⟨W9, hW9, hk9, hb9, hh9⟩ := store6 HS2.out.slot HNB.out w (HB0.out.trans (HB2.out.mono HB0.out.size)) (.int .i64 p.r) (.int .i64 p.i) (.int .i64 p.u) (.int .u32 p.k.1) (.int .u32 p.k.2) (.slice A1 p.xs.length c1)
    have HW9 := Lib.hid hW9
    have HK9 := Lib.hid (And.intro hk9 hb9)
    have HO9 : Hid (W9.ownsRow w.heap.size 3 1 (.slice A1 p.xs.length c1) p.xs.length (I64 p.xs)) := Lib.hid (by
      have hlt := HS.out.lt
      have h1 := own_at (w' := W9) HO2.out (fun b e => hh9 b (fun hb => by
        have := (HO1.out.lt b e).1
        omega))
      exact ⟨h1.1, h1.2.imp id fun ⟨g, cap, cur, h1, h2, h3⟩ => ⟨g, cap, cur, h1, Nat.le_trans HB0.out.size h2, h3⟩⟩)
    clear hW9 hk9 hb9 hh9
    go_wp2
    rw [← HW9.out]
    refine bodyPost_ret (ret_row _ (w.heap.size + 1) _ _ _ _ _ _ _ _ rfl rfl (HK9.out.1.cell 0) (HK9.out.1.cell 1) (HK9.out.1.cell 2) (HK9.out.1.cell 3) (HK9.out.1.cell 4) (HK9.out.1.cell 5)) rfl ?_
    rw [HR1.out]
    exact ⟨⟨A1, c1, rfl, HO9.out⟩, HK9.out.2⟩
  | none =>
    have HR1 := Lib.hid HRR.out
    clear HRR
    go_upto_region 4 with (go_at_call 21; refine HF1.out.mono ?_; rintro e w1 ⟨rfl, hb1⟩; have HB1 := Lib.hid hb1; clear hb1)
    clear z0 z1 HF1
    have HB2 := Lib.hid (HB1.out.alloc HB1.out.size (.cells #[.int .i64 0, .int .i64 0, .int .i64 0, .int .u32 0, .int .u32 0, .slice none 0 0] 43))
    generalize w1.alloc (.cells #[.int .i64 0, .int .i64 0, .int .i64 0, .int .u32 0, .int .u32 0, .slice none 0 0] 43) = W2 at *
    have z1 : W2.cell? ⟨w.heap.size, 1, none⟩ = some (.int .u32 k2) := (HK.out.next HB2.out).cell 1
    have HBW := Lib.hid (HB0.out.trans (HB2.out.mono HB0.out.size))
    have HF := Lib.hid (HF2.out W2 HBW.out)
    cases R2 with
    | some p =>
      go_wp2_with (go_at_call 21; refine HF.out.mono ?_; rintro e w3 ⟨⟨A1, c1, rfl, hown1⟩, hb3⟩; have HO3 := Lib.hid hown1; have HB3 := Lib.hid (below_next HB2.out hb3); have HS2 := Lib.hid (HS.out.next HB3.out); have m0 : w3.cell? ⟨w.heap.size + 1, 0, none⟩ = some (.int .i64 0) := HS2.out.cell 0; have m1 : w3.cell? ⟨w.heap.size + 1, 1, none⟩ = some (.int .i64 0) := HS2.out.cell 1; have m2 : w3.cell? ⟨w.heap.size + 1, 2, none⟩ = some (.int .i64 0) := HS2.out.cell 2; have m3 : w3.cell? ⟨w.heap.size + 1, 3, none⟩ = some (.int .u32 0) := HS2.out.cell 3; have m4 : w3.cell? ⟨w.heap.size + 1, 4, none⟩ = some (.int .u32 0) := HS2.out.cell 4; have m5 : w3.cell? ⟨w.heap.size + 1, 5, none⟩ = some (.slice none 0 0) := HS2.out.cell 5; have f0 := HS2.out.frozen 0; have f1 := HS2.out.frozen 1; have f2 := HS2.out.frozen 2; have f3 := HS2.out.frozen 3; have f4 := HS2.out.frozen 4; have f5 := HS2.out.frozen 5; obtain ⟨W9, hW9, hk9, hb9, hh9⟩ := store6 HS2.out.slot HNB.out w (HB0.out.trans (HB3.out.mono HB0.out.size)) (.int .i64 p.r) (.int .i64 p.i) (.int .i64 p.u) (.int .u32 p.k.1) (.int .u32 p.k.2) (.slice A1 p.xs.length c1); have HW9 := Lib.hid hW9; have HK9 := Lib.hid (And.intro hk9 hb9); have HH9 := Lib.hid hh9; clear hown1 hb3 hW9 hk9 hb9 hh9)
      have HO9 : Hid (W9.ownsRow w.heap.size 3 1 (.slice A1 p.xs.length c1) p.xs.length (I64 p.xs)) := Lib.hid (by
        have hlt := HS.out.lt
        have h1 := own_at (w' := W9) HO3.out (fun b e => HH9.out b (fun hb => by
          have := (HO3.out.lt b e).1
          have := HB2.out.size
          omega))
        exact ⟨h1.1, h1.2.imp id fun ⟨g, cap, cur, h1, h2, h3⟩ => ⟨g, cap, cur, h1, Nat.le_trans HBW.out.size h2, h3⟩⟩)
      rw [← HW9.out]
      refine bodyPost_ret (ret_row _ (w.heap.size + 1) _ _ _ _ _ _ _ _ rfl rfl (HK9.out.1.cell 0) (HK9.out.1.cell 1) (HK9.out.1.cell 2) (HK9.out.1.cell 3) (HK9.out.1.cell 4) (HK9.out.1.cell 5)) rfl ?_
      rw [HR1.out]
      exact ⟨⟨A1, c1, rfl, HO9.out⟩, HK9.out.2⟩
    | none =>
      go_wp2_with (go_at_call 21; refine HF.out.mono ?_; rintro e w3 ⟨rfl, hb3⟩; have HB3 := Lib.hid (below_next HB2.out hb3); have HS2 := Lib.hid (HS.out.next HB3.out); have m0 : w3.cell? ⟨w.heap.size + 1, 0, none⟩ = some (.int .i64 0) := HS2.out.cell 0; have m1 : w3.cell? ⟨w.heap.size + 1, 1, none⟩ = some (.int .i64 0) := HS2.out.cell 1; have m2 : w3.cell? ⟨w.heap.size + 1, 2, none⟩ = some (.int .i64 0) := HS2.out.cell 2; have m3 : w3.cell? ⟨w.heap.size + 1, 3, none⟩ = some (.int .u32 0) := HS2.out.cell 3; have m4 : w3.cell? ⟨w.heap.size + 1, 4, none⟩ = some (.int .u32 0) := HS2.out.cell 4; have m5 : w3.cell? ⟨w.heap.size + 1, 5, none⟩ = some (.slice none 0 0) := HS2.out.cell 5; have f0 := HS2.out.frozen 0; have f1 := HS2.out.frozen 1; have f2 := HS2.out.frozen 2; have f3 := HS2.out.frozen 3; have f4 := HS2.out.frozen 4; have f5 := HS2.out.frozen 5; obtain ⟨W9, hW9, hk9, hb9, hh9⟩ := store6 HS2.out.slot HNB.out w (HB0.out.trans (HB3.out.mono HB0.out.size)) (.int .i64 0) (.int .i64 0) (.int .i64 0) (.int .u32 0) (.int .u32 0) (.slice none 0 0); have HW9 := Lib.hid hW9; have HK9 := Lib.hid (And.intro hk9 hb9); clear hb3 hW9 hk9 hb9 hh9)
      rw [← HW9.out]
      refine bodyPost_ret (ret_row _ (w.heap.size + 1) _ _ _ _ _ _ _ _ rfl rfl (HK9.out.1.cell 0) (HK9.out.1.cell 1) (HK9.out.1.cell 2) (HK9.out.1.cell 3) (HK9.out.1.cell 4) (HK9.out.1.cell 5)) rfl ?_
      rw [HR1.out]
      exact ⟨rfl, HK9.out.2⟩
end Go.Proofs.Yteibmegeoojleaa

