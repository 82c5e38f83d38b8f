/- Prefixes and the places of the most bits as plain data. No program's function is walked. A router's ways as plain data: the places of the most bits, the cheapest route, the way. No program's function is walked. rib's innermost functions: an address begins as a prefix, the places of the most bits; over the seat's program. rib's own: where an address is, which routes it has, the cheapest of them; over the seat's program. rib's cheapest: the first route of the least cost of some; over the seat's program. rib's ownOf: a router's own ports and routes; over the seat's program. rib.Look: a router's way to an address; over the seat's program. -/
import Derived.Test.YtboehoflaceohaaGreatDoorKit
import Derived.Test.YtboehoflaceohaaGreatDoorLp
import Derived.Test.YtboehoflaceohaaGreatDoorJr
import Derived.Test.YtboehoflaceohaaGreatDoorCl0
import Derived.Deep.Cut
namespace Go.Proofs.YtboehoflaceohaaGreatDoor
/-- an address begins as a prefix -/
def beg (a p b : Int) : Bool := decide (a / 2 ^ (32 - b).toNat = p / 2 ^ (32 - b).toNat)
/-- of some places those in whose prefix an address is, of the most bits -/
def longP (P : Int → Int × Int) (a : Int) : List Int → List Int → Int → List Int × Int
  | [], f, m => (f, m)
  | i :: L, f, m => if beg a (P i).1 (P i).2 = false ∨ (P i).2 < m then longP P a L f m else if m < (P i).2 then longP P a L [i] (P i).2 else longP P a L (f ++ [i]) m
end Go.Proofs.YtboehoflaceohaaGreatDoor
namespace Go.Proofs.YtboehoflaceohaaGreatDoor
open Go.RowKit Lx Sm
def linkP (x : Cfg) (l : Int) : Int × Int := ((x.ls[l.toNat]?).map fun y => y.2).getD (0, 0)
def preP (x : Cfg) (i : Int) : Int × Int := linkP x (((x.ps[i.toNat]?).map fun y => y.2.1).getD 0)
def preO (x : Cfg) (i : Int) : Int × Int := ((x.os[i.toNat]?).map fun y => (y.2.1, y.2.2.1)).getD (0, 0)
def portsOf (x : Cfg) (r : Int) : List Int := rowIn (tabs x x.ps.length x.ps.length x.ms.length 1) x.rs.length r
def routesOf (x : Cfg) (r : Int) : List Int := picks (fun y => y.1 == r) x.os x.os.length
def nearP (x : Cfg) (r a : Int) : List Int × Int := longP (preP x) a (portsOf x r) [] 0
def farP (x : Cfg) (r a : Int) : List Int × Int := longP (preO x) a (routesOf x r) [] 0
def routeAt (os : List (Int × Int × Int × Int × Int)) (i : Int) : Int × Int × Int × Int × Int := (os[i.toNat]?).getD (0, 0, 0, 0, 0)
def cheapR (os : List (Int × Int × Int × Int × Int)) (b : Int × Int × Int × Int × Int) : List Int → Int × Int × Int × Int × Int
  | [] => b
  | i :: L => cheapR os (if (routeAt os i).2.2.2.2 < b.2.2.2.2 then routeAt os i else b) L
def cheap (os : List (Int × Int × Int × Int × Int)) : List Int → Int × Int × Int × Int × Int
  | [] => (0, 0, 0, 0, 0)
  | i :: L => cheapR os (routeAt os i) L
/-- the way: its port, its next address, its cost; none -/
def lookP (x : Cfg) (r : Int) : Nat → Int → Int → Int → Option (Int × Int × Int)
  | 0, _, _, _ => none
  | k + 1, a, v, c =>
    match (nearP x r a).1, (farP x r a).1 with
    | p :: _, _ => if (farP x r a).2 ≤ (nearP x r a).2 then some (p, v, c) else match (farP x r a).1 with
      | [] => none
      | f => lookP x r k (cheap x.os f).2.2.2.1 (cheap x.os f).2.2.2.1 (min (c + (cheap x.os f).2.2.2.2) 65535)
    | [], [] => none
    | [], f => lookP x r k (cheap x.os f).2.2.2.1 (cheap x.os f).2.2.2.1 (min (c + (cheap x.os f).2.2.2.2) 65535)
/-- the answer: the way, and whether there is one -/
def lookA (x : Cfg) (r a : Int) : (Int × Int × Int) × Bool := ((lookP x r 7 a 0 0).getD (0, 0, 0), (lookP x r 7 a 0 0).isSome)
end Go.Proofs.YtboehoflaceohaaGreatDoor
namespace Go.Proofs.YtboehoflaceohaaGreatDoor
open Go.RowKit Lx Sm
theorem own_jrc {W : World} {base : Nat} {v : Value} {xs : List Int} (h : W.ownsRow base 3 1 v xs.length (I64 xs)) : ∃ A c, v = .slice A xs.length c ∧ xs.length ≤ c ∧ JR W A xs.length xs := by
  have h0 := h
  rcases h.2 with ⟨rfl, hl⟩ | ⟨g, cap, cur, rfl, hbg, hh, hnc, _⟩
  · exact ⟨none, 0, by rw [hl], by omega, rfl, fun hn => by omega⟩
  · refine ⟨_, cap, rfl, hnc, rfl, fun _ => ⟨g, 0, rfl, (Array.getElem?_eq_some_iff.1 hh).1, fun i hi => ?_⟩⟩
    rw [Nat.zero_add, h0.cellAt i (by omega)]
    simp [I64, List.getD, hi]
/-- one place more -/
def stepP (P : Int → Int × Int) (a : Int) (s : List Int × Int) (i : Int) : List Int × Int := if beg a (P i).1 (P i).2 = false ∨ (P i).2 < s.2 then s else if s.2 < (P i).2 then ([i], (P i).2) else (s.1 ++ [i], s.2)
theorem longP_fold (P : Int → Int × Int) (a : Int) : ∀ (L f : List Int) (m : Int), longP P a L f m = L.foldl (stepP P a) (f, m)
  | [], _, _ => rfl
  | i :: L, f, m => by
    have ih := longP_fold P a L
    simp only [longP, List.foldl_cons, stepP]
    split
    · exact ih _ _
    · split <;> exact ih _ _
theorem foldP_len (P : Int → Int × Int) (a : Int) : ∀ (L : List Int) (s : List Int × Int), (L.foldl (stepP P a) s).1.length ≤ s.1.length + L.length
  | [], _ => by simp
  | i :: L, s => by
    have := foldP_len P a L (stepP P a s i)
    have h2 : (stepP P a s i).1.length ≤ s.1.length + 1 := by
      unfold stepP
      split
      · omega
      · split <;> simp
    simp only [List.foldl_cons, List.length_cons]
    omega
end Go.Proofs.YtboehoflaceohaaGreatDoor
namespace Go.Proofs.YtboehoflaceohaaGreatDoor
open Go.RowKit Lx Sm
theorem cell_up {w W : World} {p : Addr} {v : Value} (h : w.cell? p = some v) (hb : Below w.heap.size w W) : W.cell? p = some v := (hb.cell (World.block_lt_of_cell? w _ h)).trans h
theorem store2 {W : World} {N b : Nat} {t : TypeId} {u0 u1 : Value} (h : Blk W N t #[u0, u1]) (hN : b ≤ N) (w : World) (hB : Below b w W) (v0 v1 : Value) : ∃ W2, W2 = (W.setCell ⟨N, 0, none⟩ v0).setCell ⟨N, 1, none⟩ v1 ∧ W2.cell? ⟨N, 0, none⟩ = some v0 ∧ W2.cell? ⟨N, 1, none⟩ = some v1 ∧ Below b w W2 := by
  have hk : Blk ((W.setCell ⟨N, 0, none⟩ v0).setCell ⟨N, 1, none⟩ v1) N t #[v0, v1] := (h.set_ 0 v0).set_ 1 v1
  exact ⟨_, rfl, hk.cell 0, hk.cell 1, (hB.setCell (by simpa using hN) _).setCell (by simpa using hN) _⟩
theorem store2d {W : World} {N b : Nat} {t : TypeId} {u0 u1 : Value} (h : Blk W N t #[u0, u1]) (hN : b ≤ N) (w : World) (hB : Below b w W) (v0 v1 : Value) : ∃ W2, W2 = ((W.setCell ⟨N, 0, none⟩ v0).setCell ⟨N, 1, none⟩ v1).drew ∧ W2.cell? ⟨N, 0, none⟩ = some v0 ∧ W2.cell? ⟨N, 1, none⟩ = some v1 ∧ Below b w W2 := by
  obtain ⟨W2, rfl, c0, c1, hb⟩ := store2 h hN w hB v0 v1
  exact ⟨_, rfl, c0, c1, hb.drew⟩
end Go.Proofs.YtboehoflaceohaaGreatDoor
namespace Go.Proofs.YtboehoflaceohaaGreatDoor
open Go.RowKit Lx Sm
theorem store5 {W : World} {N b : Nat} {t : TypeId} (hs : Slot W N t 5) (hN : b ≤ N) (w : World) (hB : Below b w W) (v0 v1 v2 v3 v4 : Value) : ∃ W', W' = ((((W.setCell ⟨N, 0, none⟩ v0).setCell ⟨N, 1, none⟩ v1).setCell ⟨N, 2, none⟩ v2).setCell ⟨N, 3, none⟩ v3).setCell ⟨N, 4, none⟩ v4 ∧ Blk W' N t #[v0, v1, v2, v3, v4] ∧ Below b w W' ∧ (∀ g t' cs, g ≠ N → Blk W g t' cs → Blk W' g t' cs) := by
  obtain ⟨cs, hz, hb⟩ := hs
  refine ⟨_, rfl, ?_, (((((hB.setCell (by simpa using hN) v0).setCell (by simpa using hN) v1).setCell (by simpa using hN) v2).setCell (by simpa using hN) v3).setCell (by simpa using hN) v4), fun g t' cs hn hg => (((((hg.far hn v0).far hn v1).far hn v2).far hn v3).far hn v4)⟩
  have h := (((((hb.set_ 0 v0).set_ 1 v1).set_ 2 v2).set_ 3 v3).set_ 4 v4)
  have e : (((((cs.setIfInBounds 0 v0).setIfInBounds 1 v1).setIfInBounds 2 v2).setIfInBounds 3 v3).setIfInBounds 4 v4) = #[v0, v1, v2, v3, v4] := by
    apply Array.ext_getElem?
    intro i
    rcases i with _ | _ | _ | _ | _ | i <;> simp [hz]
  rw [e] at h
  exact h
theorem store9 {W : World} {N b : Nat} {t : TypeId} (hs : Slot W N t 9) (hN : b ≤ N) (w : World) (hB : Below b w W) (v0 v1 v2 v3 v4 v5 v6 v7 v8 : Value) : ∃ W', W' = ((((((((W.setCell ⟨N, 0, none⟩ v0).setCell ⟨N, 1, none⟩ v1).setCell ⟨N, 2, none⟩ v2).setCell ⟨N, 3, none⟩ v3).setCell ⟨N, 4, none⟩ v4).setCell ⟨N, 5, none⟩ v5).setCell ⟨N, 6, none⟩ v6).setCell ⟨N, 7, none⟩ v7).setCell ⟨N, 8, none⟩ v8 ∧ Blk W' N t #[v0, v1, v2, v3, v4, v5, v6, v7, v8] ∧ Below b w W' ∧ (∀ g t' cs, g ≠ N → Blk W g t' cs → Blk W' g t' cs) := by
  obtain ⟨cs, hz, hb⟩ := hs
  refine ⟨_, rfl, ?_, (((((((((hB.setCell (by simpa using hN) v0).setCell (by simpa using hN) v1).setCell (by simpa using hN) v2).setCell (by simpa using hN) v3).setCell (by simpa using hN) v4).setCell (by simpa using hN) v5).setCell (by simpa using hN) v6).setCell (by simpa using hN) v7).setCell (by simpa using hN) v8), fun g t' cs hn hg => (((((((((hg.far hn v0).far hn v1).far hn v2).far hn v3).far hn v4).far hn v5).far hn v6).far hn v7).far hn v8)⟩
  have h := (((((((((hb.set_ 0 v0).set_ 1 v1).set_ 2 v2).set_ 3 v3).set_ 4 v4).set_ 5 v5).set_ 6 v6).set_ 7 v7).set_ 8 v8)
  have e : (((((((((cs.setIfInBounds 0 v0).setIfInBounds 1 v1).setIfInBounds 2 v2).setIfInBounds 3 v3).setIfInBounds 4 v4).setIfInBounds 5 v5).setIfInBounds 6 v6).setIfInBounds 7 v7).setIfInBounds 8 v8) = #[v0, v1, v2, v3, v4, v5, v6, v7, v8] := by
    apply Array.ext_getElem?
    intro i
    rcases i with _ | _ | _ | _ | _ | _ | _ | _ | _ | i <;> simp [hz]
  rw [e] at h
  exact h
theorem store3 {W : World} {N b : Nat} {t : TypeId} (hs : Slot W N t 3) (hN : b ≤ N) (w : World) (hB : Below b w W) (v0 v1 v2 : Value) : ∃ W', W' = ((W.setCell ⟨N, 0, none⟩ v0).setCell ⟨N, 1, none⟩ v1).setCell ⟨N, 2, none⟩ v2 ∧ Blk W' N t #[v0, v1, v2] ∧ Below b w W' ∧ (∀ g t' cs, g ≠ N → Blk W g t' cs → Blk W' g t' cs) := by
  obtain ⟨cs, hz, hb⟩ := hs
  refine ⟨_, rfl, ?_, (((hB.setCell (by simpa using hN) v0).setCell (by simpa using hN) v1).setCell (by simpa using hN) v2), fun g t' cs hn hg => (((hg.far hn v0).far hn v1).far hn v2)⟩
  have h := (((hb.set_ 0 v0).set_ 1 v1).set_ 2 v2)
  have e : (((cs.setIfInBounds 0 v0).setIfInBounds 1 v1).setIfInBounds 2 v2) = #[v0, v1, v2] := by
    apply Array.ext_getElem?
    intro i
    rcases i with _ | _ | _ | i <;> simp [hz]
  rw [e] at h
  exact h
theorem cheap_snoc (os : List (Int × Int × Int × Int × Int)) : ∀ (L : List Int) (b : Int × Int × Int × Int × Int) (q : Int), cheapR os b (L ++ [q]) = if (routeAt os q).2.2.2.2 < (cheapR os b L).2.2.2.2 then routeAt os q else cheapR os b L
  | [], b, q => rfl
  | i :: L, b, q => by
    simp only [List.cons_append, cheapR]
    exact cheap_snoc os L _ q
end Go.Proofs.YtboehoflaceohaaGreatDoor
namespace Go.Proofs.YtboehoflaceohaaGreatDoor
open Go.RowKit Lx Sm
theorem own_ge {W W' : World} {b k n : Nat} {t : TypeId} {v : Value} {ys : List Value} (h : W.ownsRow b t k v n ys) (hk : ∀ g, b ≤ g → g < W.heap.size → W'.heap[g]? = W.heap[g]?) : W'.ownsRow b t k v n ys := by
  refine ⟨h.1, ?_⟩
  rcases h.2 with hn | ⟨g, cap, cur, rfl, hbg, hh, rest⟩
  · exact .inl hn
  · exact .inr ⟨g, cap, cur, rfl, hbg, (hk g hbg (Array.getElem?_eq_some_iff.1 hh).1).trans hh, rest⟩
theorem CWo.ge {W W' : World} {b : Nat} {M : Cm} {x : Cfg} (h : CWo W b M x) (hk : ∀ g, b ≤ g → g < W.heap.size → W'.heap[g]? = W.heap[g]?) : CWo W' b M x :=
  ⟨own_ge h.r hk, own_ge h.l hk, own_ge h.p hk, own_ge h.o hk, own_ge h.g hk, own_ge h.s hk, own_ge h.m hk, h.len, h.oks, fun y hy => ⟨(h.src y hy).1, (h.src y hy).2.1, (h.src y hy).2.2.1, own_ge (h.src y hy).2.2.2 hk⟩, h.ok⟩
theorem far7 (W : World) (N : Nat) (v0 v1 v2 v3 v4 v5 v6 : Value) (g : Nat) (hg : g ≠ N) : (((((((W.setCell ⟨N, 0, none⟩ v0).setCell ⟨N, 1, none⟩ v1).setCell ⟨N, 2, none⟩ v2).setCell ⟨N, 3, none⟩ v3).setCell ⟨N, 4, none⟩ v4).setCell ⟨N, 5, none⟩ v5).setCell ⟨N, 6, none⟩ v6).heap[g]? = W.heap[g]? := by
  have hk : ∀ (W : World) (i : Nat) (u : Value), (W.setCell ⟨N, i, none⟩ u).heap[g]? = W.heap[g]? := fun W i u => Below.heap_setCell W ⟨N, i, none⟩ u g hg
  simp only [hk]
theorem far9 (W : World) (N : Nat) (v0 v1 v2 v3 v4 v5 v6 v7 v8 : Value) (g : Nat) (hg : g ≠ N) : (((((((((W.setCell ⟨N, 0, none⟩ v0).setCell ⟨N, 1, none⟩ v1).setCell ⟨N, 2, none⟩ v2).setCell ⟨N, 3, none⟩ v3).setCell ⟨N, 4, none⟩ v4).setCell ⟨N, 5, none⟩ v5).setCell ⟨N, 6, none⟩ v6).setCell ⟨N, 7, none⟩ v7).setCell ⟨N, 8, none⟩ v8).heap[g]? = W.heap[g]? := by
  have hk : ∀ (W : World) (i : Nat) (u : Value), (W.setCell ⟨N, i, none⟩ u).heap[g]? = W.heap[g]? := fun W i u => Below.heap_setCell W ⟨N, i, none⟩ u g hg
  simp only [hk]
/-- a row of numbers lies in no block of slices -/
theorem jr_ne {W : World} {A : Option Addr} {n N : Nat} {t : TypeId} {cs : Array Value} {xs : List Int} (h : JR W A n xs) (hb : Blk W N t cs) (hc : ∀ (i : Nat) (v : Int), cs[i]? = some (Value.int .i64 v) → False) : ∀ b o, 0 < n → A = some ⟨b, o, none⟩ → b ≠ N := by
  intro b o hn e hbN
  obtain ⟨b', o', e', _, hcell⟩ := h.2 hn
  rw [e] at e'
  cases e'
  subst hbN
  have := hcell 0 hn
  rw [hb.cell] at this
  exact hc _ _ this
theorem jr_other {W W' : World} {A : Option Addr} {n N : Nat} {xs : List Int} (h : JR W A n xs) (hne : ∀ b o, 0 < n → A = some ⟨b, o, none⟩ → b ≠ N) (hz : W.heap.size ≤ W'.heap.size) (hk : ∀ g, g ≠ N → W'.heap[g]? = W.heap[g]?) : JR W' A n xs :=
  ⟨h.1, fun hn => by
    obtain ⟨b, o, e, hlt, hc⟩ := h.2 hn
    refine ⟨b, o, e, Nat.lt_of_lt_of_le hlt hz, fun i hi => ?_⟩
    have := hc i hi
    unfold World.cell? at this ⊢
    rw [hk b (hne b o hn e)]
    exact this⟩
theorem ret_config (tm : Array Value) (N : Nat) (W : World) (v0 v1 v2 v3 v4 v5 v6 : Value) (h2 : tm.getD 2 undef = .pointer (some ⟨N, 0, none⟩)) (c0 : W.cell? ⟨N, 0, none⟩ = some v0) (c1 : W.cell? ⟨N, 1, none⟩ = some v1) (c2 : W.cell? ⟨N, 2, none⟩ = some v2) (c3 : W.cell? ⟨N, 3, none⟩ = some v3) (c4 : W.cell? ⟨N, 4, none⟩ = some v4) (c5 : W.cell? ⟨N, 5, none⟩ = some v5) (c6 : W.cell? ⟨N, 6, none⟩ = some v6) :
    (results Tryz.f24 tm).run Tryz.prog W = .ok (.agg #[v0, v1, v2, v3, v4, v5, v6]) W := by
  have h2' : tm[2]?.getD undef = .pointer (some ⟨N, 0, none⟩) := by simpa using h2
  simp [results, Tryz.results24, go_sem, h2', c0, c1, c2, c3, c4, c5, c6]
section
variable {b : Nat} {T : TP} {x : Cfg} {gs : List Int}
set_option maxHeartbeats 4000000 in
set_option maxRecDepth 100000 in
theorem config_any (w : World) (h : TW w b T x gs) (hrn : ∀ y ∈ x.rs, (str y.1).size ≤ 281474976710656) (hln : ∀ y ∈ x.ls, (str y.1).size ≤ 281474976710656) :
    Calls Tryz.prog 24 #[.pointer (some ⟨T.N, 0, none⟩)] w fun e w' => ∃ (M : Cm) (x' : Cfg), e = .returned (.agg #[.slice M.r.A M.r.n M.r.c, .slice M.l.A M.l.n M.l.c, .slice M.p.A M.p.n M.p.c, .slice M.o.A M.o.n M.o.c, .slice M.g.A M.g.n M.g.c, .slice M.s.A M.s.n M.s.c, .slice M.m.A M.m.n M.m.c]) ∧ CWo w' w.heap.size M x' ∧ Alike x x' ∧ Below w.heap.size w w' := by
  have HB0 := Lib.hid ((Below.refl w.heap.size w).alloc (Nat.le_refl _) (.cells #[.slice none 0 0, .slice none 0 0, .slice none 0 0, .slice none 0 0, .slice none 0 0, .slice none 0 0, .slice none 0 0] 32))
  have HS := Lib.hid (Blk.new w 32 #[.slice none 0 0, .slice none 0 0, .slice none 0 0, .slice none 0 0, .slice none 0 0, .slice none 0 0, .slice none 0 0])
  have HZ : Hid ((w.alloc (.cells #[.slice none 0 0, .slice none 0 0, .slice none 0 0, .slice none 0 0, .slice none 0 0, .slice none 0 0, .slice none 0 0] 32)).heap.size = w.heap.size + 1) := Lib.hid (by simp)
  have HC := Lib.hid (clone_any T.M x _ (h.next HB0.out).net.cw hrn hln)
  have hblk := (h.next HB0.out).blk
  have y0 := hblk.cell 0
  have y1 := hblk.cell 1
  have y2 := hblk.cell 2
  have y3 := hblk.cell 3
  have y4 := hblk.cell 4
  have y5 := hblk.cell 5
  have y6 := hblk.cell 6
  simp only [List.getElem?_toArray, List.getElem?_cons_succ, List.getElem?_cons_zero] at y0 y1 y2 y3 y4 y5 y6
  clear h hrn hln hblk
  go_enter Tryz.func24, Tryz.ntmps24
  go_upto_region 1 with fail
  generalize w.alloc (.cells #[.slice none 0 0, .slice none 0 0, .slice none 0 0, .slice none 0 0, .slice none 0 0, .slice none 0 0, .slice none 0 0] 32) = W0 at *
  go_wp2_with (
    go_at_call 19; refine HC.out.mono ?_; rintro e w2 ⟨M, x', rfl, hc, ha, hb⟩
    have H2 := Lib.hid hc
    have H3 := Lib.hid ha
    have H4 := Lib.hid (below_next HB0.out hb)
    have HS2 := Lib.hid (HS.out.next hb)
    clear y0 y1 y2 y3 y4 y5 y6 hc ha hb
    have s0 : w2.cell? ⟨w.heap.size, 0, none⟩ = some (.slice none 0 0) := HS2.out.cell 0
    have s1 : w2.cell? ⟨w.heap.size, 1, none⟩ = some (.slice none 0 0) := HS2.out.cell 1
    have s2 : w2.cell? ⟨w.heap.size, 2, none⟩ = some (.slice none 0 0) := HS2.out.cell 2
    have s3 : w2.cell? ⟨w.heap.size, 3, none⟩ = some (.slice none 0 0) := HS2.out.cell 3
    have s4 : w2.cell? ⟨w.heap.size, 4, none⟩ = some (.slice none 0 0) := HS2.out.cell 4
    have s5 : w2.cell? ⟨w.heap.size, 5, none⟩ = some (.slice none 0 0) := HS2.out.cell 5
    have s6 : w2.cell? ⟨w.heap.size, 6, none⟩ = some (.slice none 0 0) := HS2.out.cell 6
    have z0 : w2.frozen? ⟨w.heap.size, 0, none⟩ = false := HS2.out.frozen 0
    have z1 : w2.frozen? ⟨w.heap.size, 1, none⟩ = false := HS2.out.frozen 1
    have z2 : w2.frozen? ⟨w.heap.size, 2, none⟩ = false := HS2.out.frozen 2
    have z3 : w2.frozen? ⟨w.heap.size, 3, none⟩ = false := HS2.out.frozen 3
    have z4 : w2.frozen? ⟨w.heap.size, 4, none⟩ = false := HS2.out.frozen 4
    have z5 : w2.frozen? ⟨w.heap.size, 5, none⟩ = false := HS2.out.frozen 5
    have z6 : w2.frozen? ⟨w.heap.size, 6, none⟩ = false := HS2.out.frozen 6)
  have hfr := far7 w2 w.heap.size (.slice M.r.A M.r.n M.r.c) (.slice M.l.A M.l.n M.l.c) (.slice M.p.A M.p.n M.p.c) (.slice M.o.A M.o.n M.o.c) (.slice M.g.A M.g.n M.g.c) (.slice M.s.A M.s.n M.s.c) (.slice M.m.A M.m.n M.m.c)
  obtain ⟨W', hW', hk', hB', _⟩ := store7 HS2.out.slot (Nat.le_refl _) (.slice M.r.A M.r.n M.r.c) (.slice M.l.A M.l.n M.l.c) (.slice M.p.A M.p.n M.p.c) (.slice M.o.A M.o.n M.o.c) (.slice M.g.A M.g.n M.g.c) (.slice M.s.A M.s.n M.s.c) (.slice M.m.A M.m.n M.m.c)
  rw [← hW'] at hfr ⊢
  clear hW' s0 s1 s2 s3 s4 s5 s6 z0 z1 z2 z3 z4 z5 z6
  refine bodyPost_ret (ret_config _ w.heap.size _ _ _ _ _ _ _ _ rfl (hk'.cell 0) (hk'.cell 1) (hk'.cell 2) (hk'.cell 3) (hk'.cell 4) (hk'.cell 5) (hk'.cell 6)) rfl ?_
  exact ⟨M, x', rfl, ((H2.out.ge (fun g hg _ => hfr g (by have := HZ.out; omega))).up (by have := HZ.out; omega)), H3.out, hB' _ H4.out⟩
end
end Go.Proofs.YtboehoflaceohaaGreatDoor
namespace Go.Proofs.YtboehoflaceohaaGreatDoor
open Go.RowKit Lx Sm
/-- a network in which ways may be looked for -/
structure RibOK (x : Cfg) : Prop where
  l : ∀ y ∈ x.ls, 0 ≤ y.2.2 ∧ y.2.2 ≤ 32
  p : ∀ y ∈ x.ps, 0 ≤ y.2.1 ∧ y.2.1 < x.ls.length
  o : ∀ y ∈ x.os, 0 ≤ y.2.2.1 ∧ y.2.2.1 ≤ 32
  c : ∀ y ∈ x.os, 0 ≤ y.2.2.2.2 ∧ y.2.2.2.2 ≤ 65535
theorem longP_mem (P : Int → Int × Int) (a : Int) : ∀ (L f : List Int) (m : Int) (q : Int), q ∈ (longP P a L f m).1 → q ∈ L ∨ q ∈ f
  | [], f, m, q, h => .inr h
  | i :: L, f, m, q, h => by
    unfold longP at h
    split at h
    · rcases longP_mem P a L _ _ q h with h | h
      · exact .inl (List.mem_cons_of_mem _ h)
      · exact .inr h
    · split at h
      · rcases longP_mem P a L _ _ q h with h | h
        · exact .inl (List.mem_cons_of_mem _ h)
        · simp only [List.mem_singleton] at h; subst h; exact .inl (List.mem_cons_self ..)
      · rcases longP_mem P a L _ _ q h with h | h
        · exact .inl (List.mem_cons_of_mem _ h)
        · rw [List.mem_append] at h
          rcases h with h | h
          · exact .inr h
          · simp only [List.mem_singleton] at h; subst h; exact .inl (List.mem_cons_self ..)
theorem longP_len (P : Int → Int × Int) (a : Int) (L : List Int) : (longP P a L [] 0).1.length ≤ L.length := by
  have := foldP_len P a L ([], 0)
  rw [longP_fold]
  simpa using this
theorem preP_alike {x x' : Cfg} (h : Alike x x') : preP x' = preP x := by
  funext i; unfold preP linkP; rw [h.l, h.p]
theorem preO_alike {x x' : Cfg} (h : Alike x x') : preO x' = preO x := by
  funext i; unfold preO; rw [h.o]
theorem portsOf_mem {x : Cfg} {r q : Int} (h : q ∈ portsOf x r) : ∃ j : Nat, j < x.ps.length ∧ q = j := by
  unfold portsOf rowIn at h
  split at h
  · have h2 : q ∈ picks (fun p => p.1 == ((r.toNat : Nat) : Int)) x.ps x.ps.length := h
    obtain ⟨j, h1, h2, _⟩ := picks_mem h2
    exact ⟨j, h1, h2⟩
  · cases h
theorem portsOf_len (x : Cfg) (r : Int) : (portsOf x r).length ≤ x.ps.length := by
  unfold portsOf rowIn
  split
  · exact picks_len (fun p => p.1 == ((r.toNat : Nat) : Int)) x.ps x.ps.length
  · simp
theorem routesOf_mem {x : Cfg} {r q : Int} (h : q ∈ routesOf x r) : ∃ j : Nat, j < x.os.length ∧ q = j := by
  obtain ⟨j, h1, h2, _⟩ := picks_mem h
  exact ⟨j, h1, h2⟩
theorem cheapR_in (os : List (Int × Int × Int × Int × Int)) : ∀ (L : List Int) (b : Int × Int × Int × Int × Int), b ∈ os → (∀ q ∈ L, ∃ j : Nat, j < os.length ∧ q = j) → cheapR os b L ∈ os
  | [], b, h, _ => h
  | i :: L, b, h, hL => by
    unfold cheapR
    refine cheapR_in os L _ ?_ (fun q hq => hL q (List.mem_cons_of_mem _ hq))
    split
    · obtain ⟨j, hj, rfl⟩ := hL i (List.mem_cons_self ..)
      unfold routeAt
      rw [Int.toNat_natCast, List.getElem?_eq_getElem hj]
      exact List.getElem_mem hj
    · exact h
theorem cheap_in {os : List (Int × Int × Int × Int × Int)} {L : List Int} (h : 0 < L.length) (hL : ∀ q ∈ L, ∃ j : Nat, j < os.length ∧ q = j) : cheap os L ∈ os := by
  cases L with
  | nil => simp at h
  | cons i L =>
    refine cheapR_in os L _ ?_ (fun q hq => hL q (List.mem_cons_of_mem _ hq))
    obtain ⟨j, hj, rfl⟩ := hL i (List.mem_cons_self ..)
    unfold routeAt
    rw [Int.toNat_natCast, List.getElem?_eq_getElem hj]
    exact List.getElem_mem hj
theorem look_near {x : Cfg} {r a v c : Int} {k : Nat} {p : Int} {l : List Int} {nb : Int} (h : nearP x r a = (p :: l, nb)) (hb : (farP x r a).2 ≤ nb) : lookP x r (k + 1) a v c = some (p, v, c) := by
  unfold lookP; rw [h]; simp [hb]
theorem look_far {x : Cfg} {r a v c : Int} {k : Nat} (h : (nearP x r a).1 = [] ∨ (nearP x r a).2 < (farP x r a).2) (hf : (farP x r a).1 ≠ []) : lookP x r (k + 1) a v c = lookP x r k (cheap x.os (farP x r a).1).2.2.2.1 (cheap x.os (farP x r a).1).2.2.2.1 (min (c + (cheap x.os (farP x r a).1).2.2.2.2) 65535) := by
  conv => lhs; unfold lookP
  generalize nearP x r a = N at *
  generalize farP x r a = F at *
  obtain ⟨NL, nb⟩ := N
  obtain ⟨FL, fb⟩ := F
  dsimp only at h hf ⊢
  cases NL with
  | nil => cases FL with
    | nil => exact absurd rfl hf
    | cons => rfl
  | cons p l =>
    have h2 : ¬ fb ≤ nb := by
      rcases h with h | h
      · cases h
      · omega
    cases FL with
    | nil => exact absurd rfl hf
    | cons => simp [h2]
theorem look_none {x : Cfg} {r a v c : Int} {k : Nat} (h : (nearP x r a).1 = [] ∨ (nearP x r a).2 < (farP x r a).2) (hf : (farP x r a).1 = []) : lookP x r (k + 1) a v c = none := by
  unfold lookP
  generalize nearP x r a = N at *
  generalize farP x r a = F at *
  obtain ⟨NL, nb⟩ := N
  obtain ⟨FL, fb⟩ := F
  dsimp only at h hf ⊢
  subst hf
  cases NL with
  | nil => rfl
  | cons p l =>
    have h2 : ¬ fb ≤ nb := by
      rcases h with h | h
      · cases h
      · omega
    simp [h2]
theorem store3z {W : World} {N b : Nat} {t : TypeId} {u0 u1 u2 : Value} (h : Blk W N t #[u0, u1, u2]) (hN : b ≤ N) (w : World) (hB : Below b w W) (v0 v1 v2 : Value) : ∃ W', W' = ((W.setCell ⟨N, 0, none⟩ v0).setCell ⟨N, 1, none⟩ v1).setCell ⟨N, 2, none⟩ v2 ∧ W'.cell? ⟨N, 0, none⟩ = some v0 ∧ W'.cell? ⟨N, 1, none⟩ = some v1 ∧ W'.cell? ⟨N, 2, none⟩ = some v2 ∧ Below b w W' := by
  have hk : Blk (((W.setCell ⟨N, 0, none⟩ v0).setCell ⟨N, 1, none⟩ v1).setCell ⟨N, 2, none⟩ v2) N t #[v0, v1, v2] := ((h.set_ 0 v0).set_ 1 v1).set_ 2 v2
  exact ⟨_, rfl, hk.cell 0, hk.cell 1, hk.cell 2, ((hB.setCell (by simpa using hN) _).setCell (by simpa using hN) _).setCell (by simpa using hN) _⟩
section
variable {b : Nat} {T : TP} {x : Cfg} {gs : List Int}
end
end Go.Proofs.YtboehoflaceohaaGreatDoor

