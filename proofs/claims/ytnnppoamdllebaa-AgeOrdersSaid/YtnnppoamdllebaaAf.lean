/- A table of what was heard as plain entries: heard, ticked, got, told; over the seat's program. -/
import Derived.Test.YtnnppoamdllebaaAk
import Derived.Test.YtnnppoamdllebaaAtk
import Derived.Test.YtnnppoamdllebaaAa
namespace Go.Proofs.Ytnnppoamdllebaa
open Go.RowKit Go.MapKept Go.ChangeMaps Sm Ag
theorem TB.new (w : World) : TB (w.alloc (.cells #[.map none] 33)) w.heap.size none [] := ⟨Blk.new _ _ _, .inl ⟨rfl, rfl⟩⟩
namespace Ag
def es (T : Row) : List En := T.map (·.2.e)
def findP (M : List En) (x : Th) : Option En := M.find? fun e => decide (e.t = x)
def putP (M : List En) (y : En) : List En := if (findP M y.t).isSome then M.map fun z => if z.t = y.t then y else z else M ++ [y]
theorem es_len (T : Row) : (es T).length = T.length := by simp [es]
theorem es_old (T : Row) : es (T.filterMap old1) = (es T).filterMap old := by
  unfold es
  induction T with
  | nil => rfl
  | cons p r ih =>
    rw [List.map_cons, List.filterMap_cons, List.filterMap_cons]
    have e1 : old1 p = (old p.2.e).map fun e => (p.1, { p.2 with e := e }) := rfl
    rw [e1]
    cases h : old p.2.e with
    | none => exact ih
    | some e => simp only [Option.map_some]; rw [List.map_cons]; exact congrArg _ ih
theorem es_find (T : Row) (x : Th) : (find T x).map (·.e) = findP (es T) x := by
  unfold find findP es
  rw [List.find?_map]
  simp [Function.comp_def]
theorem es_some (T : Row) (x : Th) : (find T x).isSome = (findP (es T) x).isSome := by rw [← es_find]; simp
theorem es_put (T : Row) (ck : Nat) (y : Ex) : es (put T ck y) = putP (es T) y.e := by
  unfold put putP
  rw [← es_some]
  split
  · unfold es Ag.upd
    rw [List.map_map, List.map_map]
    refine List.map_congr_left fun p _ => ?_
    simp only [Function.comp]
    split <;> rfl
  · simp [es]
end Ag
/-- a table that holds these entries -/
def TP (w : World) (N : Nat) (mb : Option Nat) (M : List En) : Prop := ∃ T, TB w N mb T ∧ es T = M
section
variable {w w' : World} {N : Nat} {mb : Option Nat} {M : List En}
theorem TP.next (h : TP w N mb M) (hb : Below w.heap.size w w') : TP w' N mb M := by
  obtain ⟨T, h1, h2⟩ := h
  exact ⟨T, h1.next hb, h2⟩
theorem TP.lt (h : TP w N mb M) : N < w.heap.size := by
  obtain ⟨T, h1, _⟩ := h
  exact h1.ltN
theorem TP.blk (h : TP w N mb M) (hc : Chg w w' N mb) {g : Nat} {t : TypeId} {cs : Array Value} (hg : Blk w g t cs) (hn : g ≠ N) : Blk w' g t cs := by
  obtain ⟨T, h1, _⟩ := h
  refine (hc.block g hg.lt hn (fun e => ?_)).trans hg
  rcases h1.map with ⟨e1, _⟩ | ⟨b, clock, e1, hm⟩
  · rw [e1] at e; cases e
  · rw [e1] at e
    cases e
    have := hm.block
    unfold Blk at hg
    rw [hg] at this
    cases this
theorem TP.ar (h : TP w N mb M) (hc : Chg w w' N mb) {A : Option Addr} {n : Nat} {xs : List Int} (ha : AR w A n xs) : AR w' A n xs := by
  obtain ⟨T, h1, _⟩ := h
  exact h1.ar hc ha
theorem TP.new (w : World) : TP (w.alloc (.cells #[.map none] 33)) w.heap.size none [] := ⟨[], TB.new w, rfl⟩
end
/-- what Hear leaves -/
def HP (w : World) (N : Nat) (mb : Option Nat) (M : List En) (w' : World) : Prop := ∃ mb', TP w' N mb' M ∧ Chg w w' N mb ∧ ∀ j, mb' = some j → mb = some j ∨ w.heap.size ≤ j
theorem hear_p (w : World) (N : Nat) (mb : Option Nat) (M : List En) (x : Th) (m : Ms) (A : Option Addr) (n cp : Nat) (h : TP w N mb M) (hx : wfT x) (hroom : M.length < 65536) (ha : AR w A n m.l) (hn : n ≤ 1000000) :
    Calls Try.prog 10 #[.pointer (some ⟨N, 0, none⟩), tv x, mv m A n cp] w fun e w' => e = .returned (.bool true) ∧ HP w N mb (putP M ⟨x, 0, m⟩) w' := by
  obtain ⟨T, h1, rfl⟩ := h
  refine (hear_any w N mb T x m A n cp h1 hx (by rw [es_len] at hroom; exact hroom) ha hn).mono ?_
  rintro e w' ⟨rfl, mb', ck, A', c', h2, h3, h4, _⟩
  exact ⟨rfl, mb', ⟨_, h2, es_put _ _ _⟩, h3, h4⟩
theorem tick_p (w : World) (N : Nat) (mb : Option Nat) (M : List En) (h : TP w N mb M) (hlen : M.length ≤ 1000000) :
    Calls Try.prog 13 #[.pointer (some ⟨N, 0, none⟩)] w fun e w' => e = .returned (.int .i64 ((M.length : Int) - ((M.filterMap old).length : Int))) ∧ TP w' N mb (M.filterMap old) ∧ Chg w w' N mb := by
  obtain ⟨T, h1, rfl⟩ := h
  refine (tick_any w N mb T h1 (by rw [es_len] at hlen; exact hlen)).mono ?_
  rintro e w' ⟨rfl, h2, h3⟩
  rw [← es_old, es_len, es_len]
  exact ⟨rfl, ⟨_, h2, rfl⟩, h3⟩
theorem len_p (w : World) (N : Nat) (mb : Option Nat) (M : List En) (h : TP w N mb M) :
    Calls Try.prog 9 #[.pointer (some ⟨N, 0, none⟩)] w fun e w' => e = .returned (.int .i64 M.length) ∧ w = w' := by
  obtain ⟨T, h1, rfl⟩ := h
  rw [es_len]
  exact len_any w N mb T h1
/-- an entry handed out, as a value -/
def Out (w w' : World) (e : En) (v : Value) : Prop := ∃ A n c, v = ev ⟨e, A, n, c⟩ ∧ AR w' A n e.m.l ∧ n ≤ 1000000 ∧ NewA w' w.heap.size A n
theorem get_p (w : World) (N : Nat) (mb : Option Nat) (M : List En) (x : Th) (h : TP w N mb M) (hx : wfT x) :
    Calls Try.prog 20 #[.pointer (some ⟨N, 0, none⟩), tv x] w fun e w' => ∃ v, e = .returned (.tuple #[v, .bool (findP M x).isSome]) ∧ Out w w' ((findP M x).getD z0.e) v ∧ Below w.heap.size w w' := by
  obtain ⟨T, h1, rfl⟩ := h
  refine (get_any w N mb T x h1 hx).mono ?_
  rintro e w' ⟨A', c', rfl, h2, h3, h4⟩
  rw [es_some]
  have e1 : ((find T x).getD z0).e = (findP (es T) x).getD z0.e := by
    rw [← es_find]
    cases find T x <;> rfl
  rw [e1] at h2 ⊢
  exact ⟨_, rfl, ⟨A', _, c', rfl, h2, (h1.found x).2.2.2, h3⟩, h4⟩
def AllP (M : List En) (kind : Int) (L : List En) : Prop := L.Pairwise (fun a b => ltT a.t b.t) ∧ ∀ e, e ∈ L ↔ e ∈ M ∧ e.t.1 = kind
theorem all_p (w : World) (N : Nat) (mb : Option Nat) (M : List En) (kind : Int) (h : TP w N mb M) (hlen : M.length ≤ 100000) :
    Calls Try.prog 17 #[.pointer (some ⟨N, 0, none⟩), .int .i64 kind] w fun e w' => ∃ (A : Option Addr) (c : Nat) (L : List Ex), e = .returned (.slice A L.length c) ∧ RI encE 15 w' A L.length L ∧ Ents w' L ∧ AllP M kind (L.map (·.e)) ∧ Below w.heap.size w w' := by
  obtain ⟨T, h1, rfl⟩ := h
  refine (all_any w N mb T kind h1 (by rw [es_len] at hlen; exact hlen)).mono ?_
  rintro e w' ⟨A, c, L, rfl, h2, h3, ⟨h4, h5⟩, h6⟩
  refine ⟨A, c, L, rfl, h2, h3, ⟨h4, fun e => ?_⟩, h6⟩
  rw [h5]
  unfold es
  rw [List.mem_map]
  constructor
  · rintro ⟨p, hp, h7, h8⟩; exact ⟨⟨p, hp, h7⟩, h8⟩
  · rintro ⟨⟨p, hp, h7⟩, h8⟩; exact ⟨p, hp, h7, h8⟩
/-- a table of one's own: it, and its map, lie from 'base' on -/
def Mine (base N : Nat) (mb : Option Nat) : Prop := base ≤ N ∧ ∀ j, mb = some j → base ≤ j
theorem Mine.below {base N : Nat} {mb : Option Nat} (h : Mine base N mb) {w w' : World} (hc : Chg w w' N mb) (hB : base ≤ w.heap.size) : Below base w w' := hc.below hB h.1 h.2
theorem Mine.heard {base N : Nat} {mb mb' : Option Nat} (h : Mine base N mb) {w : World} (hB : base ≤ w.heap.size) (hm : ∀ j, mb' = some j → mb = some j ∨ w.heap.size ≤ j) : Mine base N mb' :=
  ⟨h.1, fun j hj => by rcases hm j hj with h1 | h1; exact h.2 j h1; omega⟩
def x1 : Th := (1, 0, 0, 0, 0)
def m5 : Ms := ⟨0, 0, 0, 0, 0, 5, 0, false, []⟩
theorem wf_x1 : wfT x1 := by unfold wfT x1 i64 isA; simp
set_option maxRecDepth 100000 in
set_option maxHeartbeats 2000000 in
theorem first15_any (w : World) : Calls Try.prog 7 #[] w fun e w' => e = .returned (.bool true) ∧ Below w.heap.size w w' := by
  have hT := (TP.new w).next (w' := (w.alloc (.cells #[.map none] 33)).alloc (.cells #[.int .i64 1, .int .i64 0, .int .u32 0, .int .u32 0, .int .u32 0] 28)) ((Below.refl _ _).alloc (Nat.le_refl _) _)
  have hk := Blk.new (w.alloc (.cells #[.map none] 33)) 28 #[.int .i64 1, .int .i64 0, .int .u32 0, .int .u32 0, .int .u32 0]
  rw [sz_alloc] at hk
  have hb := ((Below.refl w.heap.size w).alloc (Nat.le_refl _) (.cells #[.map none] 33)).alloc (by simp) (.cells #[.int .i64 1, .int .i64 0, .int .u32 0, .int .u32 0, .int .u32 0] 28)
  go_enter Try.func7, Try.ntmps7
  go_upto_region 3 with fail
  generalize (w.alloc (.cells #[.map none] 33)).alloc (.cells #[.int .i64 1, .int .i64 0, .int .u32 0, .int .u32 0, .int .u32 0] 28) = W1 at *
  have q0 : W1.cell? ⟨w.heap.size + 1, 0, none⟩ = some (.int .i64 1) := hk.cell 0
  have q1 : W1.cell? ⟨w.heap.size + 1, 1, none⟩ = some (.int .i64 0) := hk.cell 1
  have q2 : W1.cell? ⟨w.heap.size + 1, 2, none⟩ = some (.int .u32 0) := hk.cell 2
  have q3 : W1.cell? ⟨w.heap.size + 1, 3, none⟩ = some (.int .u32 0) := hk.cell 3
  have q4 : W1.cell? ⟨w.heap.size + 1, 4, none⟩ = some (.int .u32 0) := hk.cell 4
  have hm : Mine w.heap.size w.heap.size none := ⟨Nat.le_refl _, by simp⟩
  have hC := hear_p W1 w.heap.size none [] x1 m5 none 0 0 hT wf_x1 (by simp) (AR.none_ _ _) (by omega)
  unfold tv mv at hC
  dsimp only [x1, m5] at hC
  have HT := Lib.hid hT
  have HK := Lib.hid hk
  have HB := Lib.hid hb
  have HM := Lib.hid hm
  clear hT hk hb hm
  go_wp2_with fail
  refine hC.mono ?_
  clear hC
  rintro e w2 ⟨rfl, mb, ht, hc, hmb⟩
  have HM2 := Lib.hid (HM.out.heard HB.out.size hmb)
  have HB2 := Lib.hid (HB.out.trans (HM.out.below hc HB.out.size))
  have HK2 := Lib.hid (HT.out.blk hc HK.out (by omega))
  have HT2 : Hid (TP w2 w.heap.size mb [⟨x1, 0, m5⟩]) := Lib.hid ht
  clear ht hc hmb HT HK HB HM
  go_wp2_with fail
  refine (tick_p w2 w.heap.size mb _ HT2.out (by simp)).mono ?_
  rintro e w3 ⟨rfl, ht, hc⟩
  have HB3 := Lib.hid (HB2.out.trans (HM2.out.below hc HB2.out.size))
  have HK3 := Lib.hid (HT2.out.blk hc HK2.out (by omega))
  have HT3 : Hid (TP w3 w.heap.size mb [⟨x1, 1, m5⟩]) := Lib.hid ht
  clear ht hc HT2 HK2 HB2
  go_wp2_with fail
  refine (tick_p w3 w.heap.size mb _ HT3.out (by simp)).mono ?_
  rintro e w4 ⟨rfl, ht, hc⟩
  have HB4 := Lib.hid (HB3.out.trans (HM2.out.below hc HB3.out.size))
  have HK4 := Lib.hid (HT3.out.blk hc HK3.out (by omega))
  have HT4 : Hid (TP w4 w.heap.size mb [⟨x1, 2, m5⟩]) := Lib.hid ht
  clear ht hc HT3 HK3 HB3
  go_wp2_with fail
  refine (tick_p w4 w.heap.size mb _ HT4.out (by simp)).mono ?_
  rintro e w5 ⟨rfl, ht, hc⟩
  have HB5 := Lib.hid (HB4.out.trans (HM2.out.below hc HB4.out.size))
  have hk5 := HT4.out.blk hc HK4.out (by omega)
  have HT5 : Hid (TP w5 w.heap.size mb [⟨x1, 3, m5⟩]) := Lib.hid ht
  clear ht hc HT4 HK4 HB4
  have q0 : w5.cell? ⟨w.heap.size + 1, 0, none⟩ = some (.int .i64 1) := hk5.cell 0
  have q1 : w5.cell? ⟨w.heap.size + 1, 1, none⟩ = some (.int .i64 0) := hk5.cell 1
  have q2 : w5.cell? ⟨w.heap.size + 1, 2, none⟩ = some (.int .u32 0) := hk5.cell 2
  have q3 : w5.cell? ⟨w.heap.size + 1, 3, none⟩ = some (.int .u32 0) := hk5.cell 3
  have q4 : w5.cell? ⟨w.heap.size + 1, 4, none⟩ = some (.int .u32 0) := hk5.cell 4
  clear hk5
  have hC := get_p w5 w.heap.size mb _ x1 HT5.out wf_x1
  rw [show findP [⟨x1, 3, m5⟩] x1 = some ⟨x1, 3, m5⟩ from rfl] at hC
  unfold tv at hC
  dsimp only [x1, Option.isSome_some, Option.getD_some] at hC
  go_wp2_with fail
  refine hC.mono ?_
  clear hC
  rintro e w6 ⟨v, rfl, ⟨A, n, cc, rfl, _, _, _⟩, hb6⟩
  have HB6 := Lib.hid (HB5.out.trans (hb6.mono HB5.out.size))
  have HT6 : Hid (∀ W, Below w6.heap.size w6 W → TP W w.heap.size mb [⟨x1, 3, m5⟩]) := Lib.hid fun W hW => (HT5.out.next hb6).next hW
  clear hb6 HT5 HB5
  dsimp only [ev, encE, m5]
  go_wp2_with fail
  have hb7 : Below w6.heap.size w6 (w6.alloc (.cells #[.int .i64 1, .int .i64 0, .int .u32 0, .int .u32 0, .int .u32 0, .int .i64 3, .int .i64 0, .int .u32 0, .int .u32 0, .int .u32 0, .int .u32 0, .int .i64 5, .int .i64 0, .bool false, .slice A n cc] 56)) := (Below.refl _ _).alloc (Nat.le_refl _) _
  have HT7 := Lib.hid (HT6.out _ hb7)
  have HB7 := Lib.hid (HB6.out.trans (hb7.mono HB6.out.size))
  clear HT6 HB6 hb7
  refine (tick_p _ w.heap.size mb _ HT7.out (by simp)).mono ?_
  rintro e w8 ⟨rfl, ht, hc⟩
  have HB8 := Lib.hid (HB7.out.trans (HM2.out.below hc HB7.out.size))
  have HT8 : Hid (TP w8 w.heap.size mb []) := Lib.hid ht
  clear ht hc HT7 HB7
  have hz : ((([⟨x1, 3, m5⟩] : List En).length : Int) - ((([⟨x1, 3, m5⟩] : List En).filterMap old).length : Int)) = 1 := rfl
  rw [hz]
  have hC := len_p w8 w.heap.size mb [] HT8.out
  dsimp only [List.length_nil] at hC
  go_wp2_with fail
  refine hC.mono ?_
  rintro e w9 ⟨rfl, rfl⟩
  go_wp2
  go_ret
  exact ⟨rfl, HB8.out⟩
end Go.Proofs.Ytnnppoamdllebaa

