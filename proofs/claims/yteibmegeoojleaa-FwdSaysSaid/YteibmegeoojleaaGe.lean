/- fwd.Do: what is done with a packet; over the seat's program. -/
import Derived.Test.YteibmegeoojleaaGd
namespace Go.Proofs.Yteibmegeoojleaa
open Go.ChangeShapes Go.WideShapes Go.ChangeAt Go.RowKit Sm Go.Maps
theorem store4d {W : World} {N b : Nat} {t : TypeId} (hs : Slot W N t 4) (hN : b ≤ N) (w : World) (hB : Below b w W) (v0 v1 v2 v3 : Value) : ∃ W', W' = ((((W.setCell ⟨N, 0, none⟩ v0).setCell ⟨N, 1, none⟩ v1).setCell ⟨N, 2, none⟩ v2).setCell ⟨N, 3, none⟩ v3) ∧ Blk W' N t #[v0, v1, v2, v3] ∧ Below b w W' ∧ (∀ g, g ≠ N → W'.heap[g]? = W.heap[g]?) := by
  obtain ⟨cs, hz, hb⟩ := hs
  refine ⟨_, rfl, ?_, ((((hB.setCell (by simpa using hN) v0).setCell (by simpa using hN) v1).setCell (by simpa using hN) v2).setCell (by simpa using hN) v3), fun g hn => by
    have f : ∀ (W : World) (i : Nat) (v : Value), (W.setCell ⟨N, i, none⟩ v).heap[g]? = W.heap[g]? := fun W i v => Below.heap_setCell _ _ _ _ (by simpa using hn)
    rw [f, f, f, f]⟩
  have h := ((((hb.set_ 0 v0).set_ 1 v1).set_ 2 v2).set_ 3 v3)
  have e : ((((cs.setIfInBounds 0 v0).setIfInBounds 1 v1).setIfInBounds 2 v2).setIfInBounds 3 v3) = #[v0, v1, v2, v3] := by
    apply Array.ext_getElem?
    intro i
    rcases i with _ | _ | _ | _ | i <;> simp [hz]
  rw [e] at h
  exact h
theorem ret_do (tm : Array Value) (N : Nat) (W : World) (v0 v1 v2 v3 : Value) (h2 : tm.getD 8 undef = .pointer (some ⟨N, 0, none⟩)) (c0 : W.cell? ⟨N, 0, none⟩ = some v0) (c1 : W.cell? ⟨N, 1, none⟩ = some v1) (c2 : W.cell? ⟨N, 2, none⟩ = some v2) (c3 : W.cell? ⟨N, 3, none⟩ = some v3) :
    (results Try.f8 tm).run Try.prog W = .ok (.agg #[v0, v1, v2, v3]) W := by
  have h2' : tm[8]?.getD undef = .pointer (some ⟨N, 0, none⟩) := by simpa using h2
  simp [results, Try.results8, go_sem, h2', c0, c1, c2, c3]
/-- what is done with a packet -/
structure PDeed where
  d : Int
  k : Int × Int
  xs : List Int
def doR (l : List PRow) (L : List Lo) (r : Int) (pk : Int × Int) (pp : Int) : PDeed := match rowR l r pk with
  | none => ⟨0, (0, 0), []⟩
  | some p => if p.i = pp then ⟨2, p.k, outL p.xs L pk pp⟩ else ⟨1, p.k, []⟩
def DoOK (B : Nat) (w : World) (e : Ending) (w' : World) (D : PDeed) : Prop := (∃ A' c', e = .returned (.agg #[.int .i64 D.d, .int .u32 D.k.1, .int .u32 D.k.2, .slice A' D.xs.length c']) ∧ JR w' A' D.xs.length D.xs) ∧ Below B w w'
theorem rowR_mem {l : List PRow} {r : Int} {k : Int × Int} {p : PRow} (h : rowR l r k = some p) : p ∈ l := by
  unfold rowR at h
  cases h1 : findR l r k with
  | some q => rw [h1] at h; cases h; exact List.mem_of_find?_eq_some h1
  | none => rw [h1] at h; exact List.mem_of_find?_eq_some h
/-- what a region that stores into a variable of its own, and calls what writes into one more block, leaves as it was -/
structure SD (g : Option Nat) (N : Nat) (t : TypeId) (W W' : World) : Prop where
  os : W'.os = W.os
  tape : W'.tape = W.tape
  output : W'.output = W.output
  size : W.heap.size ≤ W'.heap.size
  block : ∀ k, k < W.heap.size → some k ≠ g → k ≠ N → W'.heap[k]? = W.heap[k]?
  slot : Slot W' N t 4
section
variable {g : Option Nat} {N : Nat} {t : TypeId} {W W' : World}
theorem SD.refl (h : Slot W N t 4) : SD g N t W W := ⟨rfl, rfl, rfl, Nat.le_refl _, fun _ _ _ _ => rfl, h⟩
theorem Slot.drew (h : Slot W N t 4) : Slot W.drew N t 4 := h.next (Below.refl _ _).drew
theorem SD.drew (h : SD g N t W W') : SD g N t W W'.drew := ⟨h.os, (Below.refl W'.heap.size W').drew.tape.trans h.tape, h.output, h.size, h.block, h.slot.drew⟩
theorem SD.set (h : SD g N t W W') (i : Nat) (v : Value) : SD g N t W (W'.setCell ⟨N, i, none⟩ v) :=
  ⟨h.os, h.tape, h.output, by simpa using h.size, fun k hk h1 h2 => (Below.heap_setCell _ _ _ _ (show k ≠ N from h2)).trans (h.block k hk h1 h2), by
    obtain ⟨cs, hz, hb⟩ := h.slot
    exact ⟨_, by simp [hz], hb.set_ i v⟩⟩
theorem SD.cell (h : SD g N t W W') {k i : Nat} {ty : TypeId} {cs : Array Value} (hb : Blk W k ty cs) (h1 : some k ≠ g) (h2 : k ≠ N) : W'.cell? ⟨k, i, none⟩ = cs[i]? := by
  have : Blk W' k ty cs := (h.block k hb.lt h1 h2).trans hb
  exact this.cell i
theorem SD.gr (h : SD g N t W W') {W2 : World} (hg : W'.grownBy W2 g) (hN : some N ≠ g) : SD g N t W W2 :=
  ⟨hg.os.trans h.os, hg.tape.trans h.tape, hg.output.trans h.output, Nat.le_trans h.size hg.size, fun k hk h1 h2 => (hg.block k (Nat.lt_of_lt_of_le hk h.size) h1).trans (h.block k hk h1 h2), by
    obtain ⟨cs, hz, hb⟩ := h.slot
    exact ⟨cs, hz, hb.gr hg hN⟩⟩
end
set_option maxRecDepth 100000 in
set_option maxHeartbeats 4000000 in
theorem do_any (A : Option Addr) (n c : Nat) (ms : List PMr) (B2 : Option Addr) (n2 c2 : Nat) (L : List Lo) (r : Int) (pk : Int × Int) (pp : Int) (w : World) (h : RI CRw 6 w A n ms) (hj : ∀ m ∈ ms, JR w m.A m.p.xs.length m.p.xs) (hn : n ≤ 1000) (hx : ∀ m ∈ ms, m.p.xs.length ≤ 1000 ∧ ∀ x ∈ m.p.xs, I64r x)
    (hl : RI CLo 3 w B2 n2 L) (hlw : ∀ x ∈ L, wfLo x) (hln : n2 ≤ 1000) (hkk : UK pk) :
    Calls Try.prog 8 #[.int .i64 r, .slice A n c, .slice B2 n2 c2, .agg #[.int .u32 pk.1, .int .u32 pk.2, .int .i64 pp]] w fun e w' => DoOK w.heap.size w e w' (doR (ms.map PMr.p) L r pk pp) := by
  obtain ⟨k1, k2⟩ := pk
  have HRO := Lib.hid (fun W (hW : Below w.heap.size w W) => row_any A n c ms r (k1, k2) W (h.next hW) (fun m hm => (hj m hm).next hW) hn (fun m hm => (hx m hm).1))
  have HOU := Lib.hid (fun B p A' c' W (hW : Below w.heap.size w W) hr h1 h2 => outOf_any B p A' c' B2 n2 c2 L (k1, k2) pp W hr h1 h2 (hl.next hW) hlw hln hkk)
  have HXX : Hid (∀ p, rowR (ms.map PMr.p) r (k1, k2) = some p → p.xs.length ≤ 1000 ∧ ∀ x ∈ p.xs, I64r x) := Lib.hid (fun p hp => by
    obtain ⟨m, hm, rfl⟩ := List.mem_map.1 (rowR_mem hp)
    exact hx m hm)
  have HDR : Hid (doR (ms.map PMr.p) L r (k1, k2) pp = match rowR (ms.map PMr.p) r (k1, k2) with
    | none => ⟨0, (0, 0), []⟩
    | some p => if p.i = pp then ⟨2, p.k, outL p.xs L (k1, k2) pp⟩ else ⟨1, p.k, []⟩) := Lib.hid rfl
  have HB0 := Lib.hid (((Below.refl w.heap.size w).alloc (Nat.le_refl _) (.cells #[.int .u32 k1, .int .u32 k2, .int .i64 pp] 29)).alloc (by simp) (.cells #[.int .i64 0, .int .u32 0, .int .u32 0, .slice none 0 0] 34))
  have HK : Hid (Blk ((w.alloc (.cells #[.int .u32 k1, .int .u32 k2, .int .i64 pp] 29)).alloc (.cells #[.int .i64 0, .int .u32 0, .int .u32 0, .slice none 0 0] 34)) w.heap.size 29 #[.int .u32 k1, .int .u32 k2, .int .i64 pp]) := Lib.hid ((Blk.new _ _ _).alloc _)
  have HS : Hid (Blk ((w.alloc (.cells #[.int .u32 k1, .int .u32 k2, .int .i64 pp] 29)).alloc (.cells #[.int .i64 0, .int .u32 0, .int .u32 0, .slice none 0 0] 34)) (w.heap.size + 1) 34 #[.int .i64 0, .int .u32 0, .int .u32 0, .slice none 0 0]) := Lib.hid (by simpa using Blk.new (w.alloc (.cells #[.int .u32 k1, .int .u32 k2, .int .i64 pp] 29)) 34 #[.int .i64 0, .int .u32 0, .int .u32 0, .slice none 0 0])
  have HNB : Hid (w.heap.size ≤ w.heap.size + 1) := Lib.hid (by omega)
  clear h hj hx hl hlw hln hkk hn
  go_enter Try.func8, Try.ntmps8
  go_upto_region 1 with fail
  generalize (w.alloc (.cells #[.int .u32 k1, .int .u32 k2, .int .i64 pp] 29)).alloc (.cells #[.int .i64 0, .int .u32 0, .int .u32 0, .slice none 0 0] 34) = W0 at *
  have HR1 := Lib.hid (HRO.out W0 HB0.out)
  have z0 : W0.cell? ⟨w.heap.size, 0, none⟩ = some (.int .u32 k1) := HK.out.cell 0
  have z1 : W0.cell? ⟨w.heap.size, 1, none⟩ = some (.int .u32 k2) := HK.out.cell 1
  clear HRO
  dsimp only at HR1
  generalize rowR (ms.map PMr.p) r (k1, k2) = R at *
  cases R with
  | none =>
    have HD1 := Lib.hid HDR.out
    clear HDR HOU HXX
    go_upto_region 2 with (go_at_call 12; refine HR1.out.mono ?_; rintro e w1 ⟨rfl, hb1⟩; have HB1 := Lib.hid hb1; clear hb1)
    clear z0 z1 HR1
    have HB2 := Lib.hid (HB1.out.alloc HB1.out.size (.cells #[.int .i64 0, .int .i64 0, .int .i64 0, .int .u32 0, .int .u32 0, .slice none 0 0] 43))
    generalize w1.alloc (.cells #[.int .i64 0, .int .i64 0, .int .i64 0, .int .u32 0, .int .u32 0, .slice none 0 0] 43) = W2 at *
    have HS2 := Lib.hid (HS.out.next HB2.out)
    have m0 := HS2.out.cell 0; have m1 := HS2.out.cell 1; have m2 := HS2.out.cell 2; have m3 := HS2.out.cell 3
    have f0 := HS2.out.frozen 0; have f1 := HS2.out.frozen 1; have f2 := HS2.out.frozen 2; have f3 := HS2.out.frozen 3
    simp only [List.getElem?_toArray, List.getElem?_cons_zero, List.getElem?_cons_succ] at m0 m1 m2 m3
    obtain ⟨W9, hW9, hk9, hb9, hh9⟩ := store4d HS2.out.slot HNB.out w (HB0.out.trans (HB2.out.mono HB0.out.size)) (.int .i64 0) (.int .u32 0) (.int .u32 0) (.slice none 0 0)
    have HW9 := Lib.hid hW9
    have HK9 := Lib.hid (And.intro hk9 hb9)
    clear hW9 hk9 hb9 hh9
    go_wp2
    rw [← HW9.out]
    refine bodyPost_ret (ret_do _ (w.heap.size + 1) _ _ _ _ _ rfl (HK9.out.1.cell 0) (HK9.out.1.cell 1) (HK9.out.1.cell 2) (HK9.out.1.cell 3)) rfl ?_
    rw [HD1.out]
    exact ⟨⟨none, 0, rfl, rfl, fun h => absurd h (Nat.lt_irrefl 0)⟩, HK9.out.2⟩
  | some p =>
    have HD1 := Lib.hid HDR.out
    have HX1 := Lib.hid (HXX.out p rfl)
    clear HDR HXX
    go_upto_region 2 with (go_at_call 12; refine HR1.out.mono ?_; rintro e w1 ⟨⟨A1, c1, rfl, hown1⟩, hb1⟩; have HO1 := Lib.hid hown1; have HB1 := Lib.hid hb1; clear hown1 hb1)
    clear z0 z1 HR1
    have HB2 := Lib.hid (HB1.out.alloc HB1.out.size (.cells #[.int .i64 p.r, .int .i64 p.i, .int .i64 p.u, .int .u32 p.k.1, .int .u32 p.k.2, .slice A1 p.xs.length c1] 43))
    have HV2 := Lib.hid (Blk.new w1 43 #[.int .i64 p.r, .int .i64 p.i, .int .i64 p.u, .int .u32 p.k.1, .int .u32 p.k.2, .slice A1 p.xs.length c1])
    have HO2 := Lib.hid (HO1.out.alloc (.cells #[.int .i64 p.r, .int .i64 p.i, .int .i64 p.u, .int .u32 p.k.1, .int .u32 p.k.2, .slice A1 p.xs.length c1] 43))
    have HGN : Hid (∀ g, (Value.slice A1 p.xs.length c1).ownBlock = some g → W0.heap.size ≤ g ∧ g < w1.heap.size) := Lib.hid (fun g hg => HO1.out.lt g hg)
    have HNW : Hid (w.heap.size + 1 < w1.heap.size) := Lib.hid (Nat.lt_of_lt_of_le HS.out.lt HB1.out.size)
    have HNS : Hid (w.heap.size + 1 < W0.heap.size) := Lib.hid HS.out.lt
    generalize w1.alloc (.cells #[.int .i64 p.r, .int .i64 p.i, .int .i64 p.u, .int .u32 p.k.1, .int .u32 p.k.2, .slice A1 p.xs.length c1] 43) = W2 at *
    generalize w1.heap.size = N2 at *
    have HS2 := Lib.hid (HS.out.next HB2.out)
    have HK2 := Lib.hid (HK.out.next HB2.out)
    have HBW := Lib.hid (HB0.out.trans (HB2.out.mono HB0.out.size))
    have q2 : W2.cell? ⟨w.heap.size, 2, none⟩ = some (.int .i64 pp) := HK2.out.cell 2
    have v1 : W2.cell? ⟨N2, 1, none⟩ = some (.int .i64 p.i) := HV2.out.cell 1
    by_cases hm : p.i = pp
    · have HD2 : Hid (doR (ms.map PMr.p) L r (k1, k2) pp = ⟨2, p.k, outL p.xs L (k1, k2) pp⟩) := Lib.hid (by rw [HD1.out]; exact if_pos hm)
      have e0 : (p.i != pp) = false := by simp [hm]
      clear HD1 hm
      go_upto_region 6 with fail
      clear q2 v1
      have HD3 := Lib.hid (fun W (hW : Below W2.heap.size W2 W) => HOU.out W0.heap.size p A1 c1 W (HBW.out.trans (hW.mono HBW.out.size)) (own_at HO2.out (fun g hg => hW.block g (HO2.out.lt g hg).2)) HX1.out.1 HX1.out.2)
      obtain ⟨gb, hgb⟩ : ∃ gb, (Value.slice A1 p.xs.length c1).ownBlock = gb := ⟨_, rfl⟩
      rw [hgb] at HGN HD3
      have HG2 : Hid (some N2 ≠ gb ∧ some w.heap.size ≠ gb ∧ some (w.heap.size + 1) ≠ gb ∧ N2 ≠ w.heap.size + 1 ∧ w.heap.size ≠ w.heap.size + 1) := Lib.hid ⟨fun e => by have := HGN.out N2 e.symm; omega, fun e => by have := HGN.out _ e.symm; have := HNS.out; omega, fun e => by have := HGN.out _ e.symm; have := HNS.out; omega, by have := HNW.out; omega, by omega⟩
      have HLO : Hid (∀ k, k < w.heap.size → some k ≠ gb) := Lib.hid (fun k hk e => by have := HGN.out k e.symm; have := HNS.out; omega)
      clear HOU HGN hgb
      obtain ⟨X, hX⟩ : ∃ X, outL p.xs L (k1, k2) pp = X := ⟨_, rfl⟩
      rw [hX] at HD3 HD2
      clear hX
      have b0 : ∀ W, SD gb (w.heap.size + 1) 34 W2 W → W.cell? ⟨N2, 0, none⟩ = some (.int .i64 p.r) := fun W hW => hW.cell HV2.out HG2.out.1 HG2.out.2.2.2.1
      have b1 : ∀ W, SD gb (w.heap.size + 1) 34 W2 W → W.cell? ⟨N2, 1, none⟩ = some (.int .i64 p.i) := fun W hW => hW.cell HV2.out HG2.out.1 HG2.out.2.2.2.1
      have b2 : ∀ W, SD gb (w.heap.size + 1) 34 W2 W → W.cell? ⟨N2, 2, none⟩ = some (.int .i64 p.u) := fun W hW => hW.cell HV2.out HG2.out.1 HG2.out.2.2.2.1
      have b3 : ∀ W, SD gb (w.heap.size + 1) 34 W2 W → W.cell? ⟨N2, 3, none⟩ = some (.int .u32 p.k.1) := fun W hW => hW.cell HV2.out HG2.out.1 HG2.out.2.2.2.1
      have b4 : ∀ W, SD gb (w.heap.size + 1) 34 W2 W → W.cell? ⟨N2, 4, none⟩ = some (.int .u32 p.k.2) := fun W hW => hW.cell HV2.out HG2.out.1 HG2.out.2.2.2.1
      have b5 : ∀ W, SD gb (w.heap.size + 1) 34 W2 W → W.cell? ⟨N2, 5, none⟩ = some (.slice A1 p.xs.length c1) := fun W hW => hW.cell HV2.out HG2.out.1 HG2.out.2.2.2.1
      have p0 : ∀ W, SD gb (w.heap.size + 1) 34 W2 W → W.cell? ⟨w.heap.size, 0, none⟩ = some (.int .u32 k1) := fun W hW => hW.cell HK2.out HG2.out.2.1 HG2.out.2.2.2.2
      have p1 : ∀ W, SD gb (w.heap.size + 1) 34 W2 W → W.cell? ⟨w.heap.size, 1, none⟩ = some (.int .u32 k2) := fun W hW => hW.cell HK2.out HG2.out.2.1 HG2.out.2.2.2.2
      have p2 : ∀ W, SD gb (w.heap.size + 1) 34 W2 W → W.cell? ⟨w.heap.size, 2, none⟩ = some (.int .i64 pp) := fun W hW => hW.cell HK2.out HG2.out.2.1 HG2.out.2.2.2.2
      have d0 : ∀ W, SD gb (w.heap.size + 1) 34 W2 W → W.cell? ⟨w.heap.size + 1, 0, none⟩ = some (rd W ⟨w.heap.size + 1, 0, none⟩) := fun W hW => hW.slot.cell (by decide)
      have f0 : ∀ W, SD gb (w.heap.size + 1) 34 W2 W → W.frozen? ⟨w.heap.size + 1, 0, none⟩ = false := fun W hW => hW.slot.frozen 0
      have d1 : ∀ W, SD gb (w.heap.size + 1) 34 W2 W → W.cell? ⟨w.heap.size + 1, 1, none⟩ = some (rd W ⟨w.heap.size + 1, 1, none⟩) := fun W hW => hW.slot.cell (by decide)
      have f1 : ∀ W, SD gb (w.heap.size + 1) 34 W2 W → W.frozen? ⟨w.heap.size + 1, 1, none⟩ = false := fun W hW => hW.slot.frozen 1
      have d2 : ∀ W, SD gb (w.heap.size + 1) 34 W2 W → W.cell? ⟨w.heap.size + 1, 2, none⟩ = some (rd W ⟨w.heap.size + 1, 2, none⟩) := fun W hW => hW.slot.cell (by decide)
      have f2 : ∀ W, SD gb (w.heap.size + 1) 34 W2 W → W.frozen? ⟨w.heap.size + 1, 2, none⟩ = false := fun W hW => hW.slot.frozen 2
      have d3 : ∀ W, SD gb (w.heap.size + 1) 34 W2 W → W.cell? ⟨w.heap.size + 1, 3, none⟩ = some (rd W ⟨w.heap.size + 1, 3, none⟩) := fun W hW => hW.slot.cell (by decide)
      have f3 : ∀ W, SD gb (w.heap.size + 1) 34 W2 W → W.frozen? ⟨w.heap.size + 1, 3, none⟩ = false := fun W hW => hW.slot.frozen 3
      have hS0 : SD gb (w.heap.size + 1) 34 W2 W2 := SD.refl HS2.out.slot
      have HN3 := Lib.hid HG2.out.2.2.1
      go_region_held3 (fun w' => SD gb (w.heap.size + 1) 34 W2 w')
        (first | with_reducible assumption | exact hS0.drew | with_reducible exact SD.set (SD.set (SD.set (SD.set (by with_reducible assumption) _ _) _ _) _ _) _ _)
        ((go_at_call 19; refine (HD3.out _ (Below.refl _ _).drew).mono ?_; rintro e w4 ⟨A4, c4, rfl, hj4, hg4, ha4⟩; have HA4 := Lib.hid ha4; clear ha4; have hs4 : SD gb (w.heap.size + 1) 34 W2 w4 := hS0.drew.gr hg4 HN3.out; have HJ4 := Lib.hid hj4; clear hj4))
      have HB4 : Hid (Below w.heap.size w w4) := Lib.hid ⟨hs4.os.trans HBW.out.os, hs4.tape.trans HBW.out.tape, hs4.output.trans HBW.out.output, Nat.le_trans HBW.out.size hs4.size, fun k hk => (hs4.block k (Nat.lt_of_lt_of_le hk HBW.out.size) (HLO.out k hk) (by omega)).trans (HBW.out.block k hk)⟩
      obtain ⟨W9, hW9, hk9, hb9, hh9⟩ := store4d hs4.slot HNB.out w HB4.out (.int .i64 2) (.int .u32 p.k.1) (.int .u32 p.k.2) (.slice A4 X.length c4)
      have HW9 := Lib.hid hW9
      have HK9 := Lib.hid (And.intro hk9 hb9)
      have HJ9 : Hid (JR W9 A4 X.length X) := Lib.hid (HJ4.out.block (fun b o e => hh9 b (fun hb => HN3.out (by rw [← hb]; exact HA4.out _ e))))
      clear hW9 hk9 hb9 hh9 b0 b1 b2 b3 b4 b5 p0 p1 p2 d0 d1 d2 d3 f0 f1 f2 f3
      go_wp2
      rw [← HW9.out]
      refine bodyPost_ret (ret_do _ (w.heap.size + 1) _ _ _ _ _ rfl (HK9.out.1.cell 0) (HK9.out.1.cell 1) (HK9.out.1.cell 2) (HK9.out.1.cell 3)) rfl ?_
      rw [HD2.out]
      exact ⟨⟨A4, c4, rfl, HJ9.out⟩, HK9.out.2⟩
    · have HD2 : Hid (doR (ms.map PMr.p) L r (k1, k2) pp = ⟨1, p.k, []⟩) := Lib.hid (by rw [HD1.out]; exact if_neg hm)
      have e0 : (p.i != pp) = true := by simp [hm]
      clear HD1 HOU hm
      have v3 : W2.cell? ⟨N2, 3, none⟩ = some (.int .u32 p.k.1) := HV2.out.cell 3
      have v4 : W2.cell? ⟨N2, 4, none⟩ = some (.int .u32 p.k.2) := HV2.out.cell 4
      have m0 := HS2.out.cell 0; have m1 := HS2.out.cell 1; have m2 := HS2.out.cell 2; have m3 := HS2.out.cell 3
      have f0 := HS2.out.frozen 0; have f1 := HS2.out.frozen 1; have f2 := HS2.out.frozen 2; have f3 := HS2.out.frozen 3
      simp only [List.getElem?_toArray, List.getElem?_cons_zero, List.getElem?_cons_succ] at m0 m1 m2 m3
      obtain ⟨W9, hW9, hk9, hb9, hh9⟩ := store4d HS2.out.slot HNB.out w HBW.out (.int .i64 1) (.int .u32 p.k.1) (.int .u32 p.k.2) (.slice none 0 0)
      have HW9 := Lib.hid hW9
      have HK9 := Lib.hid (And.intro hk9 hb9)
      clear hW9 hk9 hb9 hh9
      go_wp2
      rw [← HW9.out]
      refine bodyPost_ret (ret_do _ (w.heap.size + 1) _ _ _ _ _ rfl (HK9.out.1.cell 0) (HK9.out.1.cell 1) (HK9.out.1.cell 2) (HK9.out.1.cell 3)) rfl ?_
      rw [HD2.out]
      exact ⟨⟨none, 0, rfl, rfl, fun h => absurd h (Nat.lt_irrefl 0)⟩, HK9.out.2⟩
end Go.Proofs.Yteibmegeoojleaa

