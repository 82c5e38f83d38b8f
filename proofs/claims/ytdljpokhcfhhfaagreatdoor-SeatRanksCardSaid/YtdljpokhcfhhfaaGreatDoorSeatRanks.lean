/- Whoever has the greatest rank on a link has its seat, walked; the star as plain data; an argument that is a row of numbers. -/
import Derived.Test.YtdljpokhcfhhfaaGreatDoorSta
import Derived.Test.YtdljpokhcfhhfaaGreatDoorSeatSays
import Derived.Test.YtdljpokhcfhhfaaGreatDoorLp
import Derived.Test.YtdljpokhcfhhfaaGreatDoorTnb
import Derived.Test.YtdljpokhcfhhfaaGreatDoorOn
import Derived.ProofKit
import Derived.OpenShut
import Derived.ShapedOpen
namespace Go.Proofs.YtdljpokhcfhhfaaGreatDoor
open Go.RowKit Lx Sm
def rsV (vs : List Int) (n : Nat) : List (List UInt8 × Int) := (List.range n).map fun i : Nat => (nm 114 i, vs.getD i 0)
def rsI (vs : List Int) (n i : Nat) : List (List UInt8 × Int) := (List.range n).map fun j : Nat => (nm 114 j, if j < i then vs.getD j 0 else 1)
def starV (vs : List Int) (n : Nat) : Cfg := { starCfg n with rs := rsV vs n }
/-- the last of the greatest, among the first k -/
def bestV (vs : List Int) : Nat → Nat
  | 0 => 0
  | k + 1 => if vs.getD (bestV vs k) 0 ≤ vs.getD k 0 then k else bestV vs k
theorem bestV_le (vs : List Int) : ∀ k, bestV vs k ≤ k - 1
  | 0 => Nat.le_refl _
  | k + 1 => by
    have := bestV_le vs k
    unfold bestV
    split <;> omega
theorem rsV_len (vs : List Int) (n : Nat) : (rsV vs n).length = n := by simp [rsV]
theorem rsI_len (vs : List Int) (n i : Nat) : (rsI vs n i).length = n := by simp [rsI]
theorem rsI_0 (vs : List Int) (n : Nat) : rsI vs n 0 = rsK n := by simp [rsI, rsK]
theorem rsI_n (vs : List Int) (n : Nat) : rsI vs n n = rsV vs n := by
  unfold rsI rsV
  refine List.map_congr_left fun j hj => ?_
  rw [if_pos (List.mem_range.1 hj)]
theorem rsI_set (vs : List Int) (n i : Nat) (hi : i < n) : (rsI vs n i).set i (nm 114 i, vs.getD i 0) = rsI vs n (i + 1) := by
  apply List.ext_getElem?
  intro j
  rw [List.getElem?_set]
  unfold rsI
  simp only [List.length_map, List.length_range, List.getElem?_map]
  by_cases e : i = j
  · subst e
    rw [if_pos rfl, if_pos hi, List.getElem?_range hi]
    simp
  · rw [if_neg e]
    rcases Nat.lt_or_ge j n with h | h
    · rw [List.getElem?_range h]
      have e2 : (j < i + 1) = (j < i) := by apply propext; omega
      simp [e2]
    · rw [List.getElem?_eq_none (by simpa using h)]
      rfl
theorem star_v0 : ∀ n : Fin 7, 0 < n.val → vcode (starCfg n.val) = 0 := by decide +kernel
theorem fec_congr {C D : Nat → Int} {most : Nat} (h : ∀ j, C j = D j) : ∀ (m i : Nat), feC C most i m = feC D most i m
  | 0, _ => rfl
  | m + 1, i => by
    unfold feC
    rw [fec_congr h m (i + 1), h i]
theorem rcode_V (vs : List Int) (n : Nat) (h : ∀ i, 0 ≤ vs.getD i 0 ∧ vs.getD i 0 ≤ 2) (j : Nat) : atC rcode (rsV vs n) j = atC rcode (rsK n) j := by
  unfold atC
  rcases Nat.lt_or_ge j n with hj | hj
  · have e1 : (rsV vs n)[j]? = some (nm 114 j, vs.getD j 0) := by simp [rsV, hj]
    have e2 : (rsK n)[j]? = some (nm 114 j, 1) := by simp [rsK, hj]
    rw [e1, e2]
    show rcode (nm 114 j, vs.getD j 0) ((rsV vs n).take j) = rcode (nm 114 j, 1) ((rsK n).take j)
    unfold rcode
    have e3 : ((rsV vs n).take j).any (fun y => y.1 == nm 114 j) = ((rsK n).take j).any (fun y => y.1 == nm 114 j) := by
      unfold rsV rsK
      rw [← List.map_take, ← List.map_take, List.any_map, List.any_map]
      rfl
    have e4 : costOk (vs.getD j 0) = costOk 1 := by
      have := h j
      generalize vs.getD j 0 = v at *
      have : v = 0 ∨ v = 1 ∨ v = 2 := by omega
      rcases this with rfl | rfl | rfl <;> decide
    dsimp only
    rw [e3, e4]
  · have e1 : (rsV vs n)[j]? = none := by rw [List.getElem?_eq_none_iff, rsV_len]; exact hj
    have e2 : (rsK n)[j]? = none := by rw [List.getElem?_eq_none_iff, rsK_len]; exact hj
    rw [e1, e2]
theorem fnz_of {l : List Int} (h : ∀ a ∈ l, a = 0) : firstNZ l = 0 := by
  induction l with
  | nil => rfl
  | cons a l ih => rw [firstNZ_next (h a (List.mem_cons_self ..))]; exact ih (fun b hb => h b (List.mem_cons_of_mem _ hb))
theorem starV_v (vs : List Int) (n : Nat) (h0 : 0 < n) (hn : n < 7) (h : ∀ i, 0 ≤ vs.getD i 0 ∧ vs.getD i 0 ≤ 2) : vcode (starV vs n) = 0 := by
  have h1 := star_v0 ⟨n, hn⟩ h0
  have e : vlist (starV vs n) = vlist (starCfg n) := by
    unfold vlist
    have e1 : (starV vs n).rs.length = (starCfg n).rs.length := by
      show (rsV vs n).length = (rsK n).length
      rw [rsV_len, rsK_len]
    have e2 : ∀ m i, feC (atC rcode (starV vs n).rs) 16 i m = feC (atC rcode (starCfg n).rs) 16 i m := fun m i => fec_congr (rcode_V vs n h) m i
    rw [e1, e2]
    rfl
  unfold vcode at h1 ⊢
  rw [e]
  exact h1
theorem star_po : ∀ n : Fin 7, ∀ y ∈ psS n.val, 0 ≤ y.1 ∧ y.1 < (n.val : Int) ∧ 0 ≤ y.2.1 ∧ y.2.1 < (n.val : Int) + 1 := by decide +kernel
theorem starV_lt (vs : List Int) (n : Nat) (h0 : 0 < n) (hn : n < 7) (h : ∀ i, 0 ≤ vs.getD i 0 ∧ vs.getD i 0 ≤ 2) : LtOK (starV vs n) where
  v := starV_v vs n h0 hn h
  rl := by show (rsV vs n).length ≤ 16; rw [rsV_len]; omega
  ll := by show (lsK (n + 1)).length ≤ 12; rw [lsK_len]; omega
  pl := by show (psS n).length ≤ 24; rw [psS_len]; omega
  ol := (by decide +kernel : ∀ n : Fin 7, (osS n.val n.val).length ≤ 30) ⟨n, hn⟩
  gl := by show (1 : Nat) ≤ 4; decide
  sl := Nat.zero_le _
  ml := Nat.zero_le _
  rn := fun y hy => by
    have hy : y ∈ rsV vs n := hy
    unfold rsV at hy
    obtain ⟨i, hi, rfl⟩ := List.mem_map.1 hy
    exact line_rn 8 0 (nm 114 i, 1) (List.mem_map.2 ⟨i, List.mem_range.2 (by have := List.mem_range.1 hi; omega), rfl⟩)
  ln := line_ln n 0
  po := fun y hy => by
    have := star_po ⟨n, hn⟩ y hy
    refine ⟨this.1, ?_, this.2.2.1, ?_⟩
    · show y.1 < ((rsV vs n).length : Int); rw [rsV_len]; exact this.2.1
    · show y.2.1 < ((lsK (n + 1)).length : Int); rw [lsK_len]; have h4 : y.2.1 < (n : Int) + 1 := this.2.2.2; omega
  mo := fun y hy => (by cases hy)
  xl := fun y hy => (by cases hy)
theorem star_row0 : ∀ n : Fin 7, picks (fun y => y.2.1 == 0) (psS n.val) (psS n.val).length = (List.range n.val).map fun i : Nat => ((2 * i : Nat) : Int) := by decide +kernel
theorem star_rowb : ∀ (n : Fin 7) (b : Fin 6), b.val < n.val → picks (fun y => y.2.1 == ((b.val : Int) + 1)) (psS n.val) (psS n.val).length = [2 * (b.val : Int) + 1] := by decide +kernel
theorem starV_row0 (vs : List Int) (n : Nat) (h0 : 0 < n) (hn : n < 7) : rowO (starV vs n) 0 = (List.range n).map fun i : Nat => ((2 * i : Nat) : Int) := by
  rw [rowO_at (by decide) (by show (0 : Int) < ((lsK (n + 1)).length : Int); rw [lsK_len]; omega)]
  exact star_row0 ⟨n, hn⟩
theorem starV_rowb (vs : List Int) (n b : Nat) (hb : b < n) (hn : n < 7) : rowO (starV vs n) ((b : Int) + 1) = [2 * (b : Int) + 1] := by
  rw [rowO_at (by omega) (by show (b : Int) + 1 < ((lsK (n + 1)).length : Int); rw [lsK_len]; omega)]
  exact star_rowb ⟨n, hn⟩ ⟨b, by omega⟩ hb
theorem starV_rown (vs : List Int) (n : Nat) : rowO (starV vs n) ((n : Int) + 1) = [] := by
  unfold rowO rowIn
  rw [if_neg (by
    show ¬ (0 ≤ (n : Int) + 1 ∧ (n : Int) + 1 < ((lsK (n + 1)).length : Int))
    rw [lsK_len]; omega)]
theorem star_at0 : ∀ (n : Fin 7) (i : Fin 6), i.val < n.val → (psS n.val)[2 * i.val]? = some ((i.val : Int), 0, adr 0 (i.val + 1)) := by decide +kernel
theorem star_at1 : ∀ (n : Fin 7) (i : Fin 6), i.val < n.val → (psS n.val)[2 * i.val + 1]? = some ((i.val : Int), (i.val : Int) + 1, adr (i.val + 1) (i.val + 1)) := by decide +kernel
theorem starV_bid (vs : List Int) (n j : Nat) (hj : j < n) (hn : n < 7) : (bidsP (starV vs n) ((List.range n).map fun i : Nat => ((2 * i : Nat) : Int))).getD j (0, 0) = (vs.getD j 0, adr 0 (j + 1)) := by
  rw [bidsP_at (q := ((2 * j : Nat) : Int)) (by rw [List.getElem?_map, List.getElem?_range hj]; rfl)]
  unfold bidP
  have h1 : (starV vs n).ps.getD (((2 * j : Nat) : Int)).toNat (0, 0, 0) = ((j : Int), 0, adr 0 (j + 1)) := by
    show (psS n).getD (((2 * j : Nat) : Int)).toNat (0, 0, 0) = _
    rw [Int.toNat_natCast, List.getD_eq_getElem?_getD, star_at0 ⟨n, hn⟩ ⟨j, by omega⟩ hj]
    rfl
  rw [h1]
  have h2 : (starV vs n).rs.getD ((j : Int)).toNat ([], 0) = (nm 114 j, vs.getD j 0) := by
    show (rsV vs n).getD ((j : Int)).toNat ([], 0) = _
    rw [Int.toNat_natCast, List.getD_eq_getElem?_getD]
    simp [rsV, hj]
  dsimp only
  rw [h2]
theorem starV_best (vs : List Int) (n : Nat) (hn : n < 7) : ∀ k, k ≤ n → bestP (bidsP (starV vs n) ((List.range n).map fun i : Nat => ((2 * i : Nat) : Int))) k = bestV vs k
  | 0, _ => rfl
  | k + 1, hk => by
    have ih := starV_best vs n hn k (by omega)
    have hb := bestV_le vs k
    unfold bestP bestV
    rw [ih, starV_bid vs n k (by omega) hn, starV_bid vs n (bestV vs k) (by omega) hn]
    unfold beats
    dsimp only
    generalize bestV vs k = b at *
    rcases Nat.eq_zero_or_pos k with rfl | hk0
    · obtain rfl : b = 0 := by omega
      simp
    · have had : adr 0 (b + 1) < adr 0 (k + 1) := by unfold adr; omega
      split
      · rename_i he
        rw [he, if_pos (by simpa using had), if_pos (Int.le_refl _)]
      · rename_i he
        by_cases hlt : vs.getD b 0 < vs.getD k 0
        · rw [if_pos (by simpa using hlt), if_pos (by omega)]
        · rw [if_neg (by simpa using hlt), if_neg (by omega)]
theorem starV_seat0 (vs : List Int) (n : Nat) (h0 : 0 < n) (hn : n < 7) : seatP (starV vs n) ((List.range n).map fun i : Nat => ((2 * i : Nat) : Int)) = ((2 * bestV vs n : Nat) : Int) := by
  unfold seatP
  rw [show ((List.range n).map fun i : Nat => ((2 * i : Nat) : Int)).length = n by simp, starV_best vs n hn n (Nat.le_refl _)]
  have hb : bestV vs n < n := by have := bestV_le vs n; omega
  rw [List.getD_eq_getElem?_getD, List.getElem?_map, List.getElem?_range hb]
  rfl
theorem seat_one (x : Cfg) (q : Int) : seatP x [q] = q := by
  unfold seatP
  have h : bestP (bidsP x [q]) [q].length ≤ 1 - 1 := bestP_lt _ 1
  have h : bestP (bidsP x [q]) [q].length = 0 := by omega
  rw [h]
  rfl
end Go.Proofs.YtdljpokhcfhhfaaGreatDoor
namespace Go.Proofs.YtdljpokhcfhhfaaGreatDoor
open Go.ChangeShapes Go.WideShapes Go.ChangeAt Go.RowKit Sm
theorem opened_jr {H : Type} {enc : TypeId × Value → H} {W : World} {a0 : Option Addr} {len cap : Nat} {d0 : DataW H} {p : List MemPlace}
    (h0 : DataW.Trod enc Tryz.prog W 0 (fun _ => true) true 52 (.slice a0 len cap) d0 p) : ∃ xs, JR W a0 len xs ∧ len ≤ 9223372036854775807 ∧ len ≤ cap := by
  obtain ⟨fuel, hf⟩ := h0
  rcases open_ints Tryz.underlying52 Tryz.underlying3 (by kernel_rfl) hf with ⟨hcs, hx⟩ | ⟨a, len', cap', zs, hcs, _, hl, hm, hz, hx, hcell, hwz⟩
  · simp [Value.cells] at hcs
    obtain ⟨rfl, rfl, rfl⟩ := hcs
    exact ⟨[], ⟨rfl, fun h => absurd h (by omega)⟩, by decide, Nat.le_refl _⟩
  · simp [Value.cells] at hcs
    obtain ⟨rfl, rfl, rfl⟩ := hcs
    simp only [if_true] at hz
    refine ⟨zs.take len, ⟨by simp; omega, fun hn => ?_⟩, by unfold maxLen at hm; omega, by omega⟩
    obtain ⟨b, o, s⟩ := a
    obtain rfl : s = none := by simpa [Addr.add] using World.cell?_spot (hcell 0 (by omega))
    refine ⟨b, o, rfl, ?_, fun i hi => ?_⟩
    · have := World.block_lt_of_cell? _ _ (hcell 0 (by omega))
      simpa [add_plain] using this
    · rw [← add_plain, hcell i (by omega)]
      simp [List.getD, hi]
end Go.Proofs.YtdljpokhcfhhfaaGreatDoor
namespace Go.Proofs.YtdljpokhcfhhfaaGreatDoor
open Go.ChangeShapes Go.WideShapes Go.ChangeAt Go.RowKit Lx Sm Go.Maps
theorem rk_set (vs : List Int) (n i : Nat) (hi : i < n) (hx : (rsI vs n i)[i]? = some (nm 114 i, 1)) : ((rsI vs n i).flatMap CRouter).set (i * 2 + 1) (.int .i64 (vs.getD i 0)) = (rsI vs n (i + 1)).flatMap CRouter := by
  rw [← rsI_set vs n i hi]
  have key : ∀ (rs : List (List UInt8 × Int)) (i : Nat) (a : List UInt8) (b v : Int), rs[i]? = some (a, b) → (rs.flatMap CRouter).set (i * 2 + 1) (.int .i64 v) = (rs.set i (a, v)).flatMap CRouter := by
    intro rs
    induction rs with
    | nil => intro i a b v h; simp at h
    | cons y rs ih =>
      intro i a b v h
      cases i with
      | zero =>
        simp at h
        subst h
        simp [CRouter]
      | succ i =>
        have h' : rs[i]? = some (a, b) := by simpa using h
        have e := ih i a b v h'
        obtain ⟨ya, yb⟩ := y
        simp only [List.flatMap_cons, List.set_cons_succ]
        rw [show (i + 1) * 2 + 1 = (i * 2 + 1) + 1 + 1 by omega]
        simp only [CRouter, List.cons_append, List.nil_append, List.set_cons_succ]
        rw [← e]
  exact key _ _ _ _ _ hx
/-- a region that stores into one cell of a row -/
structure SQ (g o : Nat) (W W' : World) : Prop where
  gr : W.grownBy W' (some g)
  c : ∃ v, W'.cell? ⟨g, o, none⟩ = some v
  f : W'.frozen? ⟨g, o, none⟩ = false
section
variable {g o : Nat} {W W' : World}
theorem SQ.drew (h : SQ g o W W') : SQ g o W W'.drew := ⟨⟨h.gr.os, (Below.refl W'.heap.size W').drew.tape.trans h.gr.tape, h.gr.output, h.gr.size, h.gr.block⟩, h.c, h.f⟩
theorem SQ.set (h : SQ g o W W') (u : Value) : SQ g o W (W'.setCell ⟨g, o, none⟩ u) := by
  refine ⟨⟨h.gr.os, h.gr.tape, h.gr.output, by simpa using h.gr.size, fun k hk hg => ?_⟩, ?_, ?_⟩
  · rw [Below.heap_setCell _ _ _ _ (show k ≠ g from fun e => hg (by rw [e]))]
    exact h.gr.block k hk hg
  · obtain ⟨v, hv⟩ := h.c
    exact ⟨u, World.cell?_setCell_same _ _ _ (by rw [hv])⟩
  · rw [World.frozen?_setCell]; exact h.f
theorem SQ.cell (h : SQ g o W W') {k i : Nat} {v : Value} (hc : W.cell? ⟨k, i, none⟩ = some v) (hk : k < W.heap.size) (hn : k ≠ g) : W'.cell? ⟨k, i, none⟩ = some v := by
  have := h.gr.block k hk (fun e => hn (by cases e; rfl))
  unfold World.cell? at hc ⊢
  rw [this]
  exact hc
end
/-- the network under way -/
structure ST (w : World) (N : Nat) (M : Cm) (vs : List Int) (n i : Nat) (W : World) : Prop where
  own : OwnR w.heap.size W M { starCfg n with rs := rsI vs n i }
  blk : Blk W N 30 #[.slice M.r.A M.r.n M.r.c, .slice M.l.A M.l.n M.l.c, .slice M.p.A M.p.n M.p.c, .slice M.o.A M.o.n M.o.c, .slice M.g.A M.g.n M.g.c, .slice M.s.A M.s.n M.s.c, .slice M.m.A M.m.n M.m.c]
  bel : Below w.heap.size w W
theorem ST.next {w : World} {N : Nat} {M : Cm} {vs : List Int} {n i : Nat} {W W' : World} (h : ST w N M vs n i W) (hb : Below W.heap.size W W') : ST w N M vs n i W' :=
  ⟨⟨ownk_next h.own.r hb, ownk_next h.own.l hb, ownk_next h.own.p hb, ownk_next h.own.o hb, ownk_next h.own.g hb⟩, h.blk.next hb, h.bel.trans (hb.mono h.bel.size)⟩
theorem ST.step {w : World} {N g c : Nat} {M : Cm} {vs : List Int} {n i : Nat} {W : World} (h : ST w N M vs n i W) (hM : M.r = ⟨some ⟨g, 0, none⟩, n, c⟩) (hi : i < n) : ST w N M vs n (i + 1) (W.setCell ⟨g, i * 2 + 1, none⟩ (.int .i64 (vs.getD i 0))) := by
  have h0 := h.own.r
  rw [hM] at h0
  have h0' : W.ownsRow w.heap.size 77 2 (.slice (some ⟨g, 0, none⟩) n c) n ((rsI vs n i).flatMap CRouter) := by
    have e : ({ starCfg n with rs := rsI vs n i } : Cfg).rs.length = n := rsI_len vs n i
    rw [e] at h0
    exact h0
  obtain ⟨cs, hg⟩ := own_blk h0' (g := g) rfl
  have hgw : w.heap.size ≤ g := (h0'.lt g rfl).1
  have h1 := (h0'.stored (i * 2 + 1) (.int .i64 (vs.getD i 0))).1
  rw [rk_set vs n i hi (by simp [rsI, hi])] at h1
  refine ⟨⟨?_, ownk_far h.own.l hg.slot (by decide), ownk_far h.own.p hg.slot (by decide), ownk_far h.own.o hg.slot (by decide), ownk_far h.own.g hg.slot (by decide)⟩, h.blk.far (p := ⟨g, i * 2 + 1, none⟩) (fun e => ?_) _, h.bel.setCell (p := ⟨g, i * 2 + 1, none⟩) hgw _⟩
  · rw [hM]
    have e : ({ starCfg n with rs := rsI vs n (i + 1) } : Cfg).rs.length = n := rsI_len vs n (i + 1)
    rw [e]
    exact h1
  · have e : N = g := e
    have hb := h.blk
    rw [e] at hb
    unfold Blk at hb hg
    rw [hb] at hg
    injection hg with h9
    injection h9 with _ h9
    exact absurd h9 (by decide)
set_option maxRecDepth 100000 in
set_option maxHeartbeats 8000000 in
theorem law_sranks (ads : List Addr) (A : Option Addr) (n c : Nat) (xs : List Int) (w : World) (hE : EnvC ads w) (h : JR w A n xs) (hn63 : n ≤ 9223372036854775807) :
    Calls Tryz.prog 5 #[.slice A n c] w fun e w' => e = .returned (.bool true) ∧ Below w.heap.size w w' := by
  have HE := Lib.hid hE
  have HF := Lib.hid (fun W => first12_any W)
  have HJ := Lib.hid h
  clear hE h
  by_cases hz : n = 0
  · subst hz
    have e0 : ((0 : Int) == 0) = true := by decide
    go_enter Tryz.func5, Tryz.ntmps5
    go_wp2_with (go_at_call 27; refine (HF.out _).mono ?_; rintro e w1 ⟨rfl, hb1⟩; have HB1 := Lib.hid hb1; clear hb1)
    go_ret
    exact ⟨rfl, HB1.out⟩
  have e0 : ((n : Int) == 0) = false := by simp; omega
  have e0' : decide ((n : Int) = 0) = false := by simp; omega
  by_cases hbig : 6 < n
  · have e1 : decide ((6 : Int) < (n : Int)) = true := by simp; omega
    go_enter Tryz.func5, Tryz.ntmps5
    go_wp2_with (go_at_call 27; refine (HF.out _).mono ?_; rintro e w1 ⟨rfl, hb1⟩; have HB1 := Lib.hid hb1; clear hb1)
    go_ret
    exact ⟨rfl, HB1.out⟩
  have e1 : decide ((6 : Int) < (n : Int)) = false := by simp; omega
  have hn6 : n ≤ 6 := by omega
  have hn0 : 0 < n := by omega
  clear hz hbig
  go_enter Tryz.func5, Tryz.ntmps5
  have HSA := Lib.hid (fun W => star_any n (by omega) W)
  go_upto_region 6 with (go_at_call 27; refine (HF.out _).mono ?_; rintro e w1 ⟨rfl, hb1⟩; have HB1 := Lib.hid hb1; clear hb1)
  go_upto_region 7 with (go_at_call 28; refine (HSA.out _).mono ?_; rintro e w2 ⟨M, rfl, hcw, hor, hb2⟩; have HCW := Lib.hid hcw; have HOR := Lib.hid hor; have HB2 := Lib.hid (below_next HB1.out hb2); have HB12 := Lib.hid hb2; clear hcw hor hb2)
  clear e0 e0' e1 HSA HF
  obtain ⟨vs, hvs⟩ : ∃ vs, vs = xs.map (· % 3) := ⟨_, rfl⟩
  have HVS : Hid (∀ i, vs.getD i 0 = xs.getD i 0 % 3) := Lib.hid (fun i => by
    rw [hvs, List.getD_eq_getElem?_getD, List.getD_eq_getElem?_getD, List.getElem?_map]
    cases xs[i]? <;> rfl)
  have HV2 : Hid (∀ i, 0 ≤ vs.getD i 0 ∧ vs.getD i 0 ≤ 2) := Lib.hid (fun i => by rw [HVS.out]; omega)
  clear hvs
  have HS0 : Hid (ST w w2.heap.size M vs n 0 (w2.alloc (.cells #[.slice M.r.A M.r.n M.r.c, .slice M.l.A M.l.n M.l.c, .slice M.p.A M.p.n M.p.c, .slice M.o.A M.o.n M.o.c, .slice M.g.A M.g.n M.g.c, .slice M.s.A M.s.n M.s.c, .slice M.m.A M.m.n M.m.c] 30))) := Lib.hid (by
    have hO : OwnR w.heap.size w2 M { starCfg n with rs := rsI vs n 0 } := by
      have hm : ∀ {t : TypeId} {k m : Nat} {v : Value} {ys : List Value}, w2.ownsRow w1.heap.size t k v m ys → w2.ownsRow w.heap.size t k v m ys := fun h => ⟨h.1, h.2.imp id fun ⟨g, cap, cur, h1, h2, h3⟩ => ⟨g, cap, cur, h1, Nat.le_trans HB1.out.size h2, h3⟩⟩
      refine ⟨?_, hm HOR.out.l, hm HOR.out.p, hm HOR.out.o, hm HOR.out.g⟩
      show w2.ownsRow w.heap.size 77 2 _ (rsI vs n 0).length ((rsI vs n 0).flatMap CRouter)
      rw [rsI_0]
      exact hm HOR.out.r
    exact ⟨⟨hO.r.alloc _, hO.l.alloc _, hO.p.alloc _, hO.o.alloc _, hO.g.alloc _⟩, Blk.new _ _ _, HB2.out.alloc HB2.out.size _⟩)
  have HMr : Hid (∃ g c, M.r = ⟨some ⟨g, 0, none⟩, n, c⟩) := Lib.hid (by
    have h0 := HOR.out.r
    have e : (starCfg n).rs.length = n := rsK_len n
    rw [e] at h0
    obtain ⟨g, cap, hv⟩ := own_some h0 hn0
    injection hv with h1 h2 h3
    obtain ⟨⟨rA, rn, rc⟩, _⟩ := M
    dsimp only at h1 h2 h3
    subst h1 h2 h3
    exact ⟨_, _, rfl⟩)
  generalize w2.alloc (.cells #[.slice M.r.A M.r.n M.r.c, .slice M.l.A M.l.n M.l.c, .slice M.p.A M.p.n M.p.c, .slice M.o.A M.o.n M.o.c, .slice M.g.A M.g.n M.g.c, .slice M.s.A M.s.n M.s.c, .slice M.m.A M.m.n M.m.c] 30) = W3 at *
  generalize w2.heap.size = N4 at *
  obtain ⟨g, cr, hMr⟩ := HMr.out
  have HMR := Lib.hid hMr
  clear hMr
  go_wp2_with fail
  go_loopw [5, 6] (fun sb si wr => ∃ (i : Nat), i ≤ n ∧ sb = .int .i64 ((bestV vs i : Nat) : Int) ∧ si = .int .i64 i ∧ Hid (ST w N4 M vs n i wr)) (fun _ si _ => n - (intOf si).toNat)
  case atStart => exact ⟨0, Nat.zero_le _, rfl, rfl, HS0⟩
  case round =>
    obtain ⟨i, hi, rfl, rfl, HS⟩ := hrel
    have HBr := Lib.hid HS.out.bel
    rcases Nat.lt_or_ge i n with hlt | hge
    · have hi0 : (i : Int) < (n : Int) := by omega
      obtain ⟨ba, oa, hAp, hba, hca⟩ := HJ.out.at_ hlt
      subst hAp
      have ha0 : ∀ W, SQ g (i * 2 + 1) wr W → True := fun _ _ => trivial
      clear ha0
      have hown := HS.out.own.r
      rw [HMR.out] at hown
      have hown' : wr.ownsRow w.heap.size 77 2 (.slice (some ⟨g, 0, none⟩) n cr) n ((rsI vs n i).flatMap CRouter) := by
        have e : ({ starCfg n with rs := rsI vs n i } : Cfg).rs.length = n := rsI_len vs n i
        rw [e] at hown
        exact hown
      obtain ⟨g', o', y, hgg, ho0, hgl, hgs, ⟨csg, hbg⟩, hy, hcy⟩ := own_item router_len hown' (rsI_len vs n i) hlt
      cases hgg
      have hyi : y = (nm 114 i, 1) := by
        have : (rsI vs n i)[i]? = some (nm 114 i, 1) := by simp [rsI, hlt]
        rw [this] at hy
        cases hy; rfl
      subst hyi
      have hc1 : wr.cell? ⟨g, i * 2 + 1, none⟩ = some (.int .i64 1) := by have := hcy 1 _ rfl; rwa [Nat.zero_add] at this
      have hbN := HS.out.blk
      have hNg : N4 ≠ g := fun e => by
        rw [e] at hbN
        unfold Blk at hbN hbg
        rw [hbN] at hbg
        injection hbg with h9
        injection h9 with _ h9
        exact absurd h9 (by decide)
      have hS0 : SQ g (i * 2 + 1) wr wr := ⟨⟨rfl, rfl, rfl, Nat.le_refl _, fun _ _ _ => rfl⟩, ⟨_, hc1⟩, hbg.frozen _⟩
      have n0 : ∀ W, SQ g (i * 2 + 1) wr W → W.cell? ⟨N4, 0, none⟩ = some (.slice (some ⟨g, 0, none⟩) n cr) := fun W hW => hW.cell (by have := hbN.cell 0; rw [HMR.out] at this; exact this) hbN.lt hNg
      have x0 : ∀ W, SQ g (i * 2 + 1) wr W → W.cell? ⟨ba, oa + i, none⟩ = some (.int .i64 (xs.getD i 0)) := fun W hW => hW.cell ((HBr.out.cell (p := ⟨ba, oa + i, none⟩) hba).trans hca) (Nat.lt_of_lt_of_le hba HBr.out.size) (by omega)
      have d0 : ∀ W, SQ g (i * 2 + 1) wr W → W.cell? ⟨g, i * 2 + 1, none⟩ = some (rd W ⟨g, i * 2 + 1, none⟩) := fun W hW => by obtain ⟨v, hv⟩ := hW.c; exact rd_of hv
      have f0 : ∀ W, SQ g (i * 2 + 1) wr W → W.frozen? ⟨g, i * 2 + 1, none⟩ = false := fun W hW => hW.f
      have HNU := Lib.hid (fun W => bnum_any (xs.getD i 0) 3 W (by decide) (by decide))
      rw [← HVS.out i] at HNU
      have HST := Lib.hid ((HS.out.step HMR.out hlt).next (Below.refl _ _).drew)
      obtain ⟨vi, hvi⟩ : ∃ v, vs.getD i 0 = v := ⟨_, rfl⟩
      have HVI := Lib.hid hvi
      rw [hvi] at HNU HST
      clear hvi
      generalize xs.getD i 0 = xi at *
      clear hca hcy hy hc1 hbN hown hown' hbg hgs hgl
      go_upto_region 11 with fail
      go_region_held3 (fun w' => SQ g (i * 2 + 1) wr w')
        (first | with_reducible assumption | exact hS0.drew | with_reducible exact SQ.set (by with_reducible assumption) _ | with_reducible exact SQ.set hS0.drew _ | with_reducible exact (SQ.set (by with_reducible assumption) _).drew | with_reducible exact (SQ.set hS0 _).drew)
        ((go_at_call 29; refine (HNU.out _).mono ?_; rintro e w4 ⟨rfl, rfl⟩))
      clear n0 x0 d0 f0 hS0 HNU
      generalize (wr.setCell ⟨g, i * 2 + 1, none⟩ (.int .i64 vi)).drew = W6 at *
      have hb1 : bestV vs i < i + 1 := by have := bestV_le vs i; omega
      have HBV : Hid (bestV vs (i + 1) = if vs.getD (bestV vs i) 0 ≤ vs.getD i 0 then i else bestV vs i) := Lib.hid rfl
      generalize bestV vs i = b at *
      have hb0 : (b : Int) < (n : Int) := by omega
      have CR : ∀ j, j < i + 1 → j < n → ∃ g', (some ⟨g', 0, none⟩ : Option Addr) = some ⟨g, 0, none⟩ ∧ g' < W6.heap.size ∧ W6.cell? ⟨g', j * 2 + 1, none⟩ = some (.int .i64 (vs.getD j 0)) := fun j hj hjn => by
        have h0 := HST.out.own.r
        rw [HMR.out] at h0
        have e : ({ starCfg n with rs := rsI vs n (i + 1) } : Cfg).rs.length = n := rsI_len vs n (i + 1)
        rw [e] at h0
        obtain ⟨g', o', y, hgg, ho0, _, hgs, _, hy, hcy⟩ := own_item router_len h0 (rsI_len vs n (i + 1)) hjn
        have hyj : (rsI vs n (i + 1))[j]? = some (nm 114 j, vs.getD j 0) := by simp [rsI, hjn, hj]
        have hy2 : (rsI vs n (i + 1))[j]? = some y := hy
        rw [hyj] at hy2
        cases hy2
        subst ho0
        have hc := hcy 1 _ rfl
        rw [Nat.zero_add] at hc
        exact ⟨g', hgg.symm, hgs, hc⟩
      obtain ⟨_, e1, hgl, ci⟩ := CR i (by omega) hlt
      cases e1
      obtain ⟨_, e1, _, cb⟩ := CR b hb1 (by omega)
      cases e1
      clear CR
      rw [HVI.out] at ci HBV
      have HBI := Lib.hid hb1
      obtain ⟨vb, hvb⟩ : ∃ v, vs.getD b 0 = v := ⟨_, rfl⟩
      rw [hvb] at cb HBV
      clear hvb hb1
      have a0 : ∀ s : Snc W6, s.W.cell? ⟨N4, 0, none⟩ = some (.slice (some ⟨g, 0, none⟩) n cr) := fun s => by have := (HST.out.blk.next s.b).cell 0; rw [HMR.out] at this; exact this
      have a1 : ∀ s : Snc W6, s.W.cell? ⟨g, i * 2 + 1, none⟩ = some (.int .i64 vi) := fun s => (s.b.cell (p := ⟨g, i * 2 + 1, none⟩) hgl).trans ci
      have a2 : ∀ s : Snc W6, s.W.cell? ⟨g, b * 2 + 1, none⟩ = some (.int .i64 vb) := fun s => (s.b.cell (p := ⟨g, b * 2 + 1, none⟩) hgl).trans cb
      clear ci cb hgl
      go_wp2_with fail
      cases e2 : decide (vb ≤ vi) with
      | true =>
        have HB2' : Hid (bestV vs (i + 1) = i) := Lib.hid (by rw [HBV.out, if_pos (of_decide_eq_true e2)])
        clear HBV
        refine wp_region_since (by kernel_rfl) (by kernel_rfl) ?_
        try simp only [List.append_eq, List.cons_append, List.nil_append]
        repeat (go_big_quiet_step (fail))
        refine wpQuiet_nil ?_
        rintro w9_ ⟨P9_, rfl⟩
        have HS9 := Lib.hid (HST.out.next P9_.b)
        clear a0 a1 a2
        go_wp2_with fail
        go_roundw
        case rel => exact ⟨i + 1, by omega, by rw [HB2'.out], by go_num, HS9⟩
        case measure => simp [intOf]; omega
      | false =>
        have HB2' : Hid (bestV vs (i + 1) = b) := Lib.hid (by rw [HBV.out, if_neg (of_decide_eq_false e2)])
        clear HBV
        refine wp_region_since (by kernel_rfl) (by kernel_rfl) ?_
        try simp only [List.append_eq, List.cons_append, List.nil_append]
        repeat (go_big_quiet_step (fail))
        refine wpQuiet_nil ?_
        rintro w9_ ⟨P9_, rfl⟩
        have HS9 := Lib.hid (HST.out.next P9_.b)
        clear a0 a1 a2
        go_wp2_with fail
        go_roundw
        case rel => exact ⟨i + 1, by omega, by rw [HB2'.out], by go_num, HS9⟩
        case measure => simp [intOf]; omega
    · obtain rfl : i = n := by omega
      have hd : decide ((i : Int) < (i : Int)) = false := by simp
      have HO := HS.out.own
      have HCV : Hid (CW wr M (starV vs i)) := Lib.hid (by
        have hr := HO.r
        have hl := HO.l
        have hp := HO.p
        have ho := HO.o
        have hg := HO.g
        have er : ({ starCfg i with rs := rsI vs i i } : Cfg).rs = (starV vs i).rs := rsI_n vs i
        rw [er] at hr
        have e0 : (starV vs i).rs.length = M.r.n := by
          have h1 := HCW.out.r.len
          rw [← h1]
          show (rsV vs i).length = (rsK i).length
          rw [rsV_len, rsK_len]
        rw [e0] at hr
        have e1 := HCW.out.l.len
        have e2 := HCW.out.p.len
        have e3 := HCW.out.o.len
        have e4 := HCW.out.g.len
        refine ⟨own_ir router_len e0 hr, own_ir link_len e1 (e1 ▸ hl), own_ir port_len e2 (e2 ▸ hp), own_ir route_len e3 (e3 ▸ ho), own_ir range_len e4 (e4 ▸ hg), ⟨HCW.out.s.len, fun h0 => absurd HCW.out.s.len (by show ¬ (0 = M.s.n); omega)⟩, ⟨HCW.out.m.len, fun h0 => absurd HCW.out.m.len (by show ¬ (0 = M.m.n); omega)⟩, HCW.out.rok, HCW.out.lok, HCW.out.pok, HCW.out.ook, HCW.out.gok, HCW.out.sok, HCW.out.mok, fun y hy => (by cases hy), HCW.out.ok⟩)
      clear HO
      have hi7 : i < 7 := by omega
      have HLK := Lib.hid (starV_lt vs i hn0 hi7 HV2.out)
      have HN := Lib.hid (new_ok ads M (starV vs i) [] wr (HE.out.below HBr.out) HCV.out HLK.out.v HLK.out.rn HLK.out.ln (fun W _ => groups0_any M W HCV.out.s.len.symm HCV.out.m.len.symm) HLK.out.po (fun y hy => (by cases hy)))
      have z0 := HS.out.blk.cell 0; have z1 := HS.out.blk.cell 1; have z2 := HS.out.blk.cell 2; have z3 := HS.out.blk.cell 3; have z4 := HS.out.blk.cell 4; have z5 := HS.out.blk.cell 5; have z6 := HS.out.blk.cell 6
      simp only [List.getElem?_toArray, List.getElem?_cons_zero, List.getElem?_cons_succ] at z0 z1 z2 z3 z4 z5 z6
      go_upto_region 17 with (go_at_call 9; refine HN.out.mono ?_; rintro e w5 ⟨T, x', rfl, hT, hal, hb5⟩; have HT := Lib.hid hT; have HAL := Lib.hid hal; have HB5 := Lib.hid hb5; clear hT hal hb5)
      clear z0 z1 z2 z3 z4 z5 z6 HN
      have HLX := Lib.hid (HLK.out.alike HAL.out (by rw [vcode_alike HAL.out]; exact HLK.out.v))
      have hbi : bestV vs i < i := by have := bestV_le vs i; omega
      have SF0 : Hid (∀ W, Below w5.heap.size w5 W → Calls Tryz.prog 30 #[.pointer (some ⟨T.N, 0, none⟩), .int .i64 0] W fun e w' => e = .returned (.tuple #[.int .i64 (((2 * bestV vs i : Nat)) : Int), .bool true]) ∧ Below W.heap.size W w') := Lib.hid (fun W hW => by
        have h1 := sof_any 0 W (HT.out.next hW) HAL.out HLX.out
        rw [starV_row0 vs i hn0 hi7, if_pos (by simpa using hn0), starV_seat0 vs i hn0 hi7, show decide (0 < ((List.range i).map fun i : Nat => ((2 * i : Nat) : Int)).length) = true by simpa using hn0] at h1
        exact h1)
      have SF1 : Hid (∀ W, Below w5.heap.size w5 W → Calls Tryz.prog 30 #[.pointer (some ⟨T.N, 0, none⟩), .int .i64 (((bestV vs i : Nat) : Int) + 1)] W fun e w' => e = .returned (.tuple #[.int .i64 (((2 * bestV vs i + 1 : Nat)) : Int), .bool true]) ∧ Below W.heap.size W w') := Lib.hid (fun W hW => by
        have h1 := sof_any (((bestV vs i : Nat) : Int) + 1) W (HT.out.next hW) HAL.out HLX.out
        rw [starV_rowb vs i (bestV vs i) hbi hi7, if_pos (by show (0 : Nat) < 1; decide), seat_one, show decide (0 < [2 * ((bestV vs i : Nat) : Int) + 1].length) = true by rfl, show 2 * ((bestV vs i : Nat) : Int) + 1 = ((2 * bestV vs i + 1 : Nat) : Int) by omega] at h1
        exact h1)
      have SF2 : Hid (∀ W, Below w5.heap.size w5 W → Calls Tryz.prog 30 #[.pointer (some ⟨T.N, 0, none⟩), .int .i64 ((i : Int) + 1)] W fun e w' => e = .returned (.tuple #[.int .i64 0, .bool false]) ∧ Below W.heap.size W w') := Lib.hid (fun W hW => by
        have h1 := sof_any ((i : Int) + 1) W (HT.out.next hW) HAL.out HLX.out
        rw [starV_rown vs i] at h1
        exact h1)
      have hpo := HS.out.own.p
      have hpn : M.p.n = 2 * i := by rw [← HCW.out.p.len]; exact psS_len i
      have hpl : ({ starCfg i with rs := rsI vs i i } : Cfg).ps.length = 2 * i := psS_len i
      rw [hpl, hpn] at hpo
      obtain ⟨gp, o1, y1, hpA, ho1, _, hgpl, _, hy1, hc1⟩ := own_item port_len hpo (psS_len i) (show 2 * bestV vs i < 2 * i by omega)
      obtain ⟨gp2, o2, y2, hpA2, ho2, _, _, _, hy2, hc2⟩ := own_item port_len hpo (psS_len i) (show 2 * bestV vs i + 1 < 2 * i by omega)
      rw [hpA] at hpA2
      cases hpA2
      subst ho1
      have hy1' : (psS i)[2 * bestV vs i]? = some y1 := hy1
      have hy2' : (psS i)[2 * bestV vs i + 1]? = some y2 := hy2
      rw [star_at0 ⟨i, hi7⟩ ⟨bestV vs i, by omega⟩ hbi] at hy1'
      rw [star_at1 ⟨i, hi7⟩ ⟨bestV vs i, by omega⟩ hbi] at hy2'
      cases hy1'
      cases hy2'
      have p1 : wr.cell? ⟨gp, 2 * bestV vs i * 3, none⟩ = some (.int .i64 ((bestV vs i : Nat) : Int)) := by have := hc1 0 _ rfl; rwa [Nat.zero_add] at this
      have p2 : wr.cell? ⟨gp, (2 * bestV vs i + 1) * 3, none⟩ = some (.int .i64 ((bestV vs i : Nat) : Int)) := by have := hc2 0 _ rfl; rwa [Nat.zero_add] at this
      have CP := Lib.hid (fun W (hW : Below wr.heap.size wr W) => (And.intro ((hW.cell (p := ⟨gp, 2 * bestV vs i * 3, none⟩) hgpl).trans p1) ((hW.cell (p := ⟨gp, (2 * bestV vs i + 1) * 3, none⟩) hgpl).trans p2)))
      have CN : Hid (∀ W, Below wr.heap.size wr W → W.cell? ⟨N4, 2, none⟩ = some (.slice (some ⟨gp, 0, none⟩) (2 * i) M.p.c)) := Lib.hid (fun W hW => by have := (HS.out.blk.next hW).cell 2; rw [hpA, hpn] at this; exact this)
      clear hpo hpn hpl hpA hy1 hy2 hc1 hc2 p1 p2
      obtain ⟨q, hq⟩ : ∃ q, 2 * bestV vs i = q := ⟨_, rfl⟩
      have hq1 : q + 1 < 2 * i := by omega
      rw [hq] at SF0 SF1 CP
      obtain ⟨q', hq'⟩ : ∃ q', q + 1 = q' := ⟨_, rfl⟩
      rw [hq'] at SF1 CP
      have hq0 : q < 2 * i := by omega
      have hq2 : q' < 2 * i := by omega
      clear hq hq' hq1
      generalize bestV vs i = b at *
      have hb0 : (b : Int) < (i : Int) := by omega
      have hbi6 : (i : Int) ≤ 6 := by omega
      go_upto_region 18 with (go_at_call 30; refine (SF0.out _ (Below.refl _ _)).mono ?_; rintro e w6 ⟨rfl, hb6⟩; have HB6 := Lib.hid hb6; clear hb6)
      go_upto_region 19 with (go_at_call 30; refine (SF1.out _ HB6.out).mono ?_; rintro e w7 ⟨rfl, hb7⟩; have HB7 := Lib.hid (below_next HB6.out hb7); clear hb7)
      go_upto_region 20 with (go_at_call 30; refine (SF2.out _ HB7.out).mono ?_; rintro e w8 ⟨rfl, hb8⟩; have HB8 := Lib.hid (below_next HB7.out hb8); clear hb8)
      have HB9 := Lib.hid (below_next HB5.out HB8.out)
      have n2 := CN.out w8 HB9.out
      have p1 := (CP.out w8 HB9.out).1
      have p2 := (CP.out w8 HB9.out).2
      have q0 : (q : Int) < ((2 * i : Nat) : Int) := by omega
      have q1 : (q' : Int) < ((2 * i : Nat) : Int) := by omega
      generalize 2 * i = pn at *
      go_wp2
      go_ret
      exact ⟨rfl, below_next HBr.out HB9.out⟩
end Go.Proofs.YtdljpokhcfhhfaaGreatDoor

