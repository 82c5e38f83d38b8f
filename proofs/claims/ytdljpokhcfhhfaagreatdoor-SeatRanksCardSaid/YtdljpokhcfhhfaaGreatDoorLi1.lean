/- The small functions of the drawn networks: an address on a link, a place's name, a link, a port; over the seat's program. What the drawn line of routers is made of: a network's variable whose rows grow, one by one; the line as plain data; over the seat's types. -/
import Derived.Test.YtdljpokhcfhhfaaGreatDoorMe
import Derived.Test.YtdljpokhcfhhfaaGreatDoorAd
namespace Go.Proofs.YtdljpokhcfhhfaaGreatDoor
open Go.RowKit Lx Sm
/-- an address of a place on a link -/
def adr (l n : Nat) : Int := 167772160 + (l : Int) * 256 + (n : Int)
theorem adr_u32 {l n : Nat} (hl : l < 256) (hn : n < 256) : U32 (adr l n) := by unfold U32 adr; omega
theorem adr_or (l n : Nat) (hl : l < 256) (hn : n < 256) : bits BinOp.or IntKind.u32 (bits BinOp.or IntKind.u32 167772160 ((l : Int) * 256)) (n : Int) = adr l n := by
  have p24 : (2 : Int) ^ 24 = 16777216 := by decide
  have p8 : (2 : Int) ^ 8 = 256 := by decide
  rw [Ad.or_join 167772160 ((l : Int) * 256) 24 (by omega) (by omega) (by decide) (by omega) (by omega) (by omega), Ad.or_join (167772160 + (l : Int) * 256) (n : Int) 8 (by omega) (by omega) (by omega) (by omega) (by omega) (by omega)]
  rfl
theorem naddr_any (l n : Nat) (hl : l < 256) (hn : n < 256) (w : World) :
    Calls Tryz.prog 43 #[.int .i64 (l : Int), .int .i64 (n : Int)] w fun e w' => e = .returned (.int .u32 (adr l n)) ∧ w' = w := by
  have HA := Lib.hid (adr_or l n hl hn)
  go_enter Tryz.func43, Tryz.ntmps43
  go_wp2
  go_ret
  exact ⟨by rw [← HA.out]; rfl, rfl⟩
/-- a place's name -/
def nm (c : UInt8) (n : Nat) : List UInt8 := [c, UInt8.ofNat (48 + n)]
theorem nm_cases {n : Nat} (h : n < 10) : n = 0 ∨ n = 1 ∨ n = 2 ∨ n = 3 ∨ n = 4 ∨ n = 5 ∨ n = 6 ∨ n = 7 ∨ n = 8 ∨ n = 9 := by omega
theorem nname_any (n : Nat) (hn : n < 10) (c : UInt8) (hc : c = 108 ∨ c = 114) (w : World) :
    Calls Tryz.prog 73 #[.string ⟨#[c]⟩, .int .i64 (n : Int)] w fun e w' => e = .returned (.string (str (nm c n))) ∧ w' = w := by
  rcases hc with rfl | rfl <;> rcases nm_cases hn with rfl | rfl | rfl | rfl | rfl | rfl | rfl | rfl | rfl | rfl <;>
    (go_enter Tryz.func73, Tryz.ntmps73
     go_wp2
     go_ret
     exact ⟨by rfl, rfl⟩)
theorem nlink_any (n : Nat) (hn : n < 10) (w : World) :
    Calls Tryz.prog 72 #[.int .i64 (n : Int)] w fun e w' => e = .returned (.agg #[.string (str (nm 108 n)), .int .u32 (adr n 0), .int .i64 24]) ∧ Below w.heap.size w w' := by
  have HN := Lib.hid fun W => nname_any n hn 108 (.inl rfl) W
  have HA := Lib.hid fun W => naddr_any n 0 (by omega) (by omega) W
  generalize str (nm 108 n) = S at *
  generalize adr n 0 = R at *
  go_enter Tryz.func72, Tryz.ntmps72
  go_wp2_with (first
    | (go_at_call 73; refine (HN.out _).mono ?_; rintro e w1 ⟨rfl, rfl⟩)
    | (go_at_call 43; refine (HA.out _).mono ?_; rintro e w1 ⟨rfl, rfl⟩))
  go_returns
  exact ⟨rfl, (Below.refl _ _).alloc (Nat.le_refl _) _⟩
theorem nport_any (r l : Nat) (hr : r < 200) (hl : l < 200) (w : World) :
    Calls Tryz.prog 74 #[.int .i64 (r : Int), .int .i64 (l : Int)] w fun e w' => e = .returned (.agg #[.int .i64 (r : Int), .int .i64 (l : Int), .int .u32 (adr l (r + 1))]) ∧ Below w.heap.size w w' := by
  have HA := Lib.hid fun W => naddr_any l (r + 1) (by omega) (by omega) W
  have hr1 : ((r + 1 : Nat) : Int) = (r : Int) + 1 := by omega
  rw [hr1] at HA
  generalize adr l (r + 1) = R at *
  go_enter Tryz.func74, Tryz.ntmps74
  go_wp2_with (go_at_call 43; refine (HA.out _).mono ?_; rintro e w1 ⟨rfl, rfl⟩)
  go_returns
  exact ⟨rfl, (Below.refl _ _).alloc (Nat.le_refl _) _⟩
theorem ngroups_any (w : World) :
    Calls Tryz.prog 75 #[] w fun e w' => e = .returned (.agg #[.int .u32 3758096384, .int .i64 4]) ∧ Below w.heap.size w w' := by
  go_enter Tryz.func75, Tryz.ntmps75
  go_wp2
  go_returns
  exact ⟨rfl, (Below.refl _ _).alloc (Nat.le_refl _) _⟩
end Go.Proofs.YtdljpokhcfhhfaaGreatDoor
namespace Go.Proofs.YtdljpokhcfhhfaaGreatDoor
open Go.RowKit Lx Sm
/-- the links of a line, its routers, its ports, its routes -/
def lsK (k : Nat) : List (List UInt8 × Int × Int) := (List.range k).map fun i : Nat => (nm 108 i, adr i 0, 24)
def rsK (k : Nat) : List (List UInt8 × Int) := (List.range k).map fun i : Nat => (nm 114 i, 1)
def psK (k : Nat) : List (Int × Int × Int) := (List.range k).flatMap fun i : Nat => [((i : Int), (i : Int), adr i (i + 1)), ((i : Int), (i : Int) + 1, adr (i + 1) (i + 1))]
def rtK (i k : Nat) : List (Int × Int × Int × Int × Int) := if k < i then [((i : Int), adr k 0, 24, adr i i, (i : Int) - (k : Int))] else if i + 1 < k then [((i : Int), adr k 0, 24, adr (i + 1) (i + 2), (k : Int) - (i : Int))] else []
def colK (i k : Nat) : List (Int × Int × Int × Int × Int) := (List.range k).flatMap (rtK i)
def osK (n i : Nat) : List (Int × Int × Int × Int × Int) := (List.range i).flatMap fun j => colK j (n + 1)
def lineCfg (n r : Nat) : Cfg := ⟨rsK n, lsK (n + 1), psK n, osK n n, [(3758096384, 4, adr r (r + 1))], [], []⟩
theorem lsK_s (k : Nat) : lsK (k + 1) = lsK k ++ [(nm 108 k, adr k 0, 24)] := by simp [lsK, List.range_succ]
theorem rsK_s (k : Nat) : rsK (k + 1) = rsK k ++ [(nm 114 k, 1)] := by simp [rsK, List.range_succ]
theorem psK_s (k : Nat) : psK (k + 1) = psK k ++ [((k : Int), (k : Int), adr k (k + 1)), ((k : Int), (k : Int) + 1, adr (k + 1) (k + 1))] := by simp [psK, List.range_succ, List.flatMap_append]
theorem colK_s (i k : Nat) : colK i (k + 1) = colK i k ++ rtK i k := by simp [colK, List.range_succ, List.flatMap_append]
theorem osK_s (n i : Nat) : osK n (i + 1) = osK n i ++ colK i (n + 1) := by simp [osK, List.range_succ, List.flatMap_append]
theorem lsK_at {k q : Nat} (h : q < k) : (lsK k)[q]? = some (nm 108 q, adr q 0, 24) := by simp [lsK, h]
theorem lsK_len (k : Nat) : (lsK k).length = k := by simp [lsK]
theorem rsK_len (k : Nat) : (rsK k).length = k := by simp [rsK]
theorem psK_len : ∀ k : Nat, (psK k).length = 2 * k
  | 0 => rfl
  | k + 1 => by rw [psK_s, List.length_append, psK_len k]; simp; omega
theorem rtK_len (i k : Nat) : (rtK i k).length ≤ 1 := by unfold rtK; split <;> (try split) <;> simp
theorem colK_len (i : Nat) : ∀ k : Nat, (colK i k).length ≤ k
  | 0 => Nat.le_refl _
  | k + 1 => by rw [colK_s, List.length_append]; have := colK_len i k; have := rtK_len i k; omega
theorem osK_len (n : Nat) : ∀ i : Nat, (osK n i).length ≤ i * (n + 1)
  | 0 => by simp [osK]
  | i + 1 => by rw [osK_s, List.length_append, Nat.succ_mul]; have := osK_len n i; have := colK_len i (n + 1); omega
/-- the network's variable and its four rows -/
structure LIl (w : World) (N R : Nat) (vr vl vp vo : Value) (rs : List (List UInt8 × Int)) (ls : List (List UInt8 × Int × Int)) (ps : List (Int × Int × Int)) (os : List (Int × Int × Int × Int × Int)) (W : World) : Prop where
  lo : Below w.heap.size w W
  hN : w.heap.size ≤ N
  hR : w.heap.size ≤ R
  ne : R ≠ N
  blk : Blk W N 30 #[vr, vl, vp, vo, .slice none 0 0, .slice none 0 0, .slice none 0 0]
  res : Slot W R 30 7
  r : W.ownsRow w.heap.size 77 2 vr rs.length (rs.flatMap CRouter)
  l : W.ownsRow w.heap.size 125 3 vl ls.length (ls.flatMap CLink)
  p : W.ownsRow w.heap.size 80 3 vp ps.length (ps.flatMap CPort)
  o : W.ownsRow w.heap.size 128 5 vo os.length (os.flatMap CRoute)
section
variable {w W W' W2 : World} {N R : Nat} {vr vl vp vo v' : Value} {rs : List (List UInt8 × Int)} {ls : List (List UInt8 × Int × Int)} {ps : List (Int × Int × Int)} {os : List (Int × Int × Int × Int × Int)}
theorem LIl.next (h : LIl w N R vr vl vp vo rs ls ps os W) (hb : Below W.heap.size W W') : LIl w N R vr vl vp vo rs ls ps os W' :=
  ⟨h.lo.trans (hb.mono h.lo.size), h.hN, h.hR, h.ne, h.blk.next hb, h.res.next hb, ownk_next h.r hb, ownk_next h.l hb, ownk_next h.p hb, ownk_next h.o hb⟩
/-- a row of another type, behind an append to a row -/
theorem own_by {b : Nat} {t t' : TypeId} {k k' n n' : Nat} {v u : Value} {ys zs : List Value} (h : W.ownsRow b t k v n ys) (ho : W.ownsRow b t' k' u n' zs) (hg : W.grownBy W2 u.ownBlock) (ht : t ≠ t') : W2.ownsRow b t k v n ys :=
  own_at h fun g e => hg.block g (h.lt g e).2 (fun e2 => by
    obtain ⟨cs, h1⟩ := own_blk h e
    obtain ⟨cs', h2⟩ := own_blk ho e2.symm
    unfold Blk at h1 h2
    rw [h1] at h2
    cases h2
    exact ht rfl)
theorem blk_by {b g : Nat} {t t' : TypeId} {k' n' : Nat} {u : Value} {zs : List Value} {cs : Array Value} (h : Blk W g t cs) (ho : W.ownsRow b t' k' u n' zs) (hg : W.grownBy W2 u.ownBlock) (ht : t ≠ t') : Blk W2 g t cs :=
  (hg.block g h.lt (fun e2 => by
    obtain ⟨cs', h2⟩ := own_blk ho e2.symm
    unfold Blk at h h2
    rw [h] at h2
    cases h2
    exact ht rfl)).trans h
theorem row_not {b g : Nat} {t t' : TypeId} {k' n' : Nat} {u : Value} {zs : List Value} {cs : Array Value} (h : Blk W g t cs) (ho : W.ownsRow b t' k' u n' zs) (ht : t ≠ t') : u.ownBlock ≠ some g := fun e => by
  obtain ⟨cs', h2⟩ := own_blk ho e
  unfold Blk at h h2
  rw [h] at h2
  cases h2
  exact ht rfl
theorem LIl.step_r (h : LIl w N R vr vl vp vo rs ls ps os W) {new : List (List UInt8 × Int)} (hg : W.grownBy W2 vr.ownBlock) (ho : W2.ownsRow w.heap.size 77 2 v' (rs ++ new).length ((rs ++ new).flatMap CRouter)) :
    LIl w N R v' vl vp vo (rs ++ new) ls ps os (W2.setCell ⟨N, 0, none⟩ v') := by
  have hN2 := blk_by h.blk h.r hg (by decide)
  obtain ⟨cs, hz, hR1⟩ := h.res
  have hR2 := blk_by hR1 h.r hg (by decide)
  exact ⟨(h.lo.grown hg h.lo.size (fun j e => (h.r.lt j e).1)).setCell h.hN v', h.hN, h.hR, h.ne, hN2.set_to 0 v' (by simp), ⟨cs, hz, hR2.far h.ne v'⟩, ownk_far ho hN2.slot (by decide), ownk_far (own_by h.l h.r hg (by decide)) hN2.slot (by decide), ownk_far (own_by h.p h.r hg (by decide)) hN2.slot (by decide), ownk_far (own_by h.o h.r hg (by decide)) hN2.slot (by decide)⟩
theorem LIl.step_l (h : LIl w N R vr vl vp vo rs ls ps os W) {new : List (List UInt8 × Int × Int)} (hg : W.grownBy W2 vl.ownBlock) (ho : W2.ownsRow w.heap.size 125 3 v' (ls ++ new).length ((ls ++ new).flatMap CLink)) :
    LIl w N R vr v' vp vo rs (ls ++ new) ps os (W2.setCell ⟨N, 1, none⟩ v') := by
  have hN2 := blk_by h.blk h.l hg (by decide)
  obtain ⟨cs, hz, hR1⟩ := h.res
  have hR2 := blk_by hR1 h.l hg (by decide)
  exact ⟨(h.lo.grown hg h.lo.size (fun j e => (h.l.lt j e).1)).setCell h.hN v', h.hN, h.hR, h.ne, hN2.set_to 1 v' (by simp), ⟨cs, hz, hR2.far h.ne v'⟩, ownk_far (own_by h.r h.l hg (by decide)) hN2.slot (by decide), ownk_far ho hN2.slot (by decide), ownk_far (own_by h.p h.l hg (by decide)) hN2.slot (by decide), ownk_far (own_by h.o h.l hg (by decide)) hN2.slot (by decide)⟩
theorem LIl.step_p (h : LIl w N R vr vl vp vo rs ls ps os W) {new : List (Int × Int × Int)} (hg : W.grownBy W2 vp.ownBlock) (ho : W2.ownsRow w.heap.size 80 3 v' (ps ++ new).length ((ps ++ new).flatMap CPort)) :
    LIl w N R vr vl v' vo rs ls (ps ++ new) os (W2.setCell ⟨N, 2, none⟩ v') := by
  have hN2 := blk_by h.blk h.p hg (by decide)
  obtain ⟨cs, hz, hR1⟩ := h.res
  have hR2 := blk_by hR1 h.p hg (by decide)
  exact ⟨(h.lo.grown hg h.lo.size (fun j e => (h.p.lt j e).1)).setCell h.hN v', h.hN, h.hR, h.ne, hN2.set_to 2 v' (by simp), ⟨cs, hz, hR2.far h.ne v'⟩, ownk_far (own_by h.r h.p hg (by decide)) hN2.slot (by decide), ownk_far (own_by h.l h.p hg (by decide)) hN2.slot (by decide), ownk_far ho hN2.slot (by decide), ownk_far (own_by h.o h.p hg (by decide)) hN2.slot (by decide)⟩
theorem LIl.step_o (h : LIl w N R vr vl vp vo rs ls ps os W) {new : List (Int × Int × Int × Int × Int)} (hg : W.grownBy W2 vo.ownBlock) (ho : W2.ownsRow w.heap.size 128 5 v' (os ++ new).length ((os ++ new).flatMap CRoute)) :
    LIl w N R vr vl vp v' rs ls ps (os ++ new) (W2.setCell ⟨N, 3, none⟩ v') := by
  have hN2 := blk_by h.blk h.o hg (by decide)
  obtain ⟨cs, hz, hR1⟩ := h.res
  have hR2 := blk_by hR1 h.o hg (by decide)
  exact ⟨(h.lo.grown hg h.lo.size (fun j e => (h.o.lt j e).1)).setCell h.hN v', h.hN, h.hR, h.ne, hN2.set_to 3 v' (by simp), ⟨cs, hz, hR2.far h.ne v'⟩, ownk_far (own_by h.r h.o hg (by decide)) hN2.slot (by decide), ownk_far (own_by h.l h.o hg (by decide)) hN2.slot (by decide), ownk_far (own_by h.p h.o hg (by decide)) hN2.slot (by decide), ownk_far ho hN2.slot (by decide)⟩
/-- the ranges stored: a new row of one -/
theorem LIl.fin (h : LIl w N R vr vl vp vo rs ls ps os W) (a : Int) : ∃ W9, W9 = (W.alloc (.cells #[.int .u32 3758096384, .int .i64 4, .int .u32 a] 149)).setCell ⟨N, 4, none⟩ (.slice (some ⟨W.heap.size, 0, none⟩) 1 1) ∧
    Below w.heap.size w W9 ∧ Blk W9 N 30 #[vr, vl, vp, vo, .slice (some ⟨W.heap.size, 0, none⟩) 1 1, .slice none 0 0, .slice none 0 0] ∧ Slot W9 R 30 7 ∧
    W9.ownsRow w.heap.size 77 2 vr rs.length (rs.flatMap CRouter) ∧ W9.ownsRow w.heap.size 125 3 vl ls.length (ls.flatMap CLink) ∧ W9.ownsRow w.heap.size 80 3 vp ps.length (ps.flatMap CPort) ∧ W9.ownsRow w.heap.size 128 5 vo os.length (os.flatMap CRoute) ∧
    W9.ownsRow w.heap.size 149 3 (.slice (some ⟨W.heap.size, 0, none⟩) 1 1) [((3758096384 : Int), (4 : Int), a)].length ([((3758096384 : Int), (4 : Int), a)].flatMap CRange) := by
  have hb1 : Below W.heap.size W (W.alloc (.cells #[.int .u32 3758096384, .int .i64 4, .int .u32 a] 149)) := (Below.refl _ _).alloc (Nat.le_refl _) _
  have h1 := h.next hb1
  have hr : (W.alloc (.cells #[.int .u32 3758096384, .int .i64 4, .int .u32 a] 149)).ownsRow w.heap.size 149 3 (.slice (some ⟨W.heap.size, 0, none⟩) 1 1) 1 ([((3758096384 : Int), (4 : Int), a)].flatMap CRange) :=
    ⟨rfl, .inr ⟨W.heap.size, 1, #[.int .u32 3758096384, .int .i64 4, .int .u32 a], rfl, h.lo.size, Blk.new _ _ _, Nat.le_refl _, by decide, rfl, rfl⟩⟩
  refine ⟨_, rfl, h1.lo.setCell h1.hN _, h1.blk.set_to 4 _ (by simp), ?_, ownk_far h1.r h1.blk.slot (by decide), ownk_far h1.l h1.blk.slot (by decide), ownk_far h1.p h1.blk.slot (by decide), ownk_far h1.o h1.blk.slot (by decide), ownk_far hr h1.blk.slot (by decide)⟩
  obtain ⟨cs, hz, hR1⟩ := h1.res
  exact ⟨cs, hz, hR1.far h.ne _⟩
end
def Kl (row : Option Nat) (a : Nat) (i : Nat) (w : World) (_ : Value) (w' : World) : Prop := if i = a then w.grownBy w' row else Below w.heap.size w w'
theorem Kl.grown {row : Option Nat} {a i : Nat} {w w' : World} {v : Value} (k : Kl row a i w v w') : w.grownBy w' row := by
  unfold Kl at k
  split at k
  · exact k
  · exact grown_below k
theorem Kl.below {row : Option Nat} {a i : Nat} {w w' : World} {v : Value} (k : Kl row a i w v w') (h : i ≠ a) : Below w.heap.size w w' := by unfold Kl at k; rwa [if_neg h] at k
theorem Kl.mk {row : Option Nat} {a i : Nat} {w w' : World} {v : Value} (h : i ≠ a) (k : Below w.heap.size w w') : Kl row a i w v w' := by unfold Kl; rw [if_neg h]; exact k
theorem Kl.app {row : Option Nat} {a : Nat} {w w' : World} {v : Value} (k : w.grownBy w' row) : Kl row a a w v w' := by unfold Kl; rw [if_pos rfl]; exact k
theorem Tg.stepl {W5 w w' : World} {row : Option Nat} {a i : Nat} {l : List Nat} {v : Value} (h : Tg W5 row a l w) (k : Kl row a i w v w') : Tg W5 row a (l ++ [i]) w' := by
  by_cases e : i = a
  · subst e
    unfold Tg
    rw [if_pos (by simp)]
    exact h.grown.trans k.grown
  · have k := k.below e
    unfold Tg at h ⊢
    have hm : a ∈ l ++ [i] ↔ a ∈ l := by simp [Ne.symm e]
    by_cases ha : a ∈ l
    · rw [if_pos ha] at h
      rw [if_pos (hm.2 ha)]
      exact h.trans (grown_below k)
    · rw [if_neg ha] at h
      rw [if_neg (fun q => ha (hm.1 q))]
      exact h.trans (k.mono h.size)
theorem own_some {W : World} {b n k : Nat} {t : TypeId} {v : Value} {ys : List Value} (h : W.ownsRow b t k v n ys) (hn : 0 < n) : ∃ g cap, v = .slice (some ⟨g, 0, none⟩) n cap := by
  rcases h.2 with ⟨_, e⟩ | ⟨g, cap, cur, e, _⟩
  · omega
  · exact ⟨g, cap, e⟩
theorem blk_news {W : World} {h : Nat} {t : TypeId} {cs : Array Value} {l : List Value} (hb : Blk W h t cs) (hl : cs.toList = l) (j : Nat) (u : Value) (hj : l[j]? = some u) : W.cell? ((⟨h, 0, none⟩ : Addr).add j) = some u := by
  rw [Go.WideShapes.add_plain, Nat.zero_add, hb.cell, ← Array.getElem?_toList, hl, hj]
theorem ret_line (tm : Array Value) (N : Nat) (W : World) (v0 v1 v2 v3 v4 v5 v6 : Value) (h2 : tm.getD 4 undef = .pointer (some ⟨N, 0, none⟩)) (c0 : W.cell? ⟨N, 0, none⟩ = some v0) (c1 : W.cell? ⟨N, 1, none⟩ = some v1) (c2 : W.cell? ⟨N, 2, none⟩ = some v2) (c3 : W.cell? ⟨N, 3, none⟩ = some v3) (c4 : W.cell? ⟨N, 4, none⟩ = some v4) (c5 : W.cell? ⟨N, 5, none⟩ = some v5) (c6 : W.cell? ⟨N, 6, none⟩ = some v6) :
    (results Tryz.f42 tm).run Tryz.prog W = .ok (.agg #[v0, v1, v2, v3, v4, v5, v6]) W := by
  have h2' : tm[4]?.getD undef = .pointer (some ⟨N, 0, none⟩) := by simpa using h2
  simp [results, Tryz.results42, go_sem, h2', c0, c1, c2, c3, c4, c5, c6]
theorem line_ok (n r : Nat) (hn : n ≤ 8) (hr : r < 100) : (lineCfg n r).ok := by
  have hrt : ∀ i k, i < 9 → k < 10 → ∀ y ∈ rtK i k, U32 y.2.1 ∧ U32 y.2.2.2.1 := by
    intro i k hi hk y hy
    unfold rtK at hy
    split at hy
    · simp only [List.mem_singleton] at hy; subst hy
      exact ⟨adr_u32 (by omega) (by omega), adr_u32 (by omega) (by omega)⟩
    · split at hy
      · simp only [List.mem_singleton] at hy; subst hy
        exact ⟨adr_u32 (by omega) (by omega), adr_u32 (by omega) (by omega)⟩
      · cases hy
  refine ⟨fun y hy => ?_, fun y hy => ?_, fun y hy => ?_, fun y hy => ?_, fun y hy => (by cases hy), fun y hy => (by cases hy)⟩
  · simp only [lineCfg, lsK, List.mem_map, List.mem_range] at hy
    obtain ⟨i, hi, rfl⟩ := hy
    exact adr_u32 (by omega) (by omega)
  · simp only [lineCfg, psK, List.mem_flatMap, List.mem_range] at hy
    obtain ⟨i, hi, hy⟩ := hy
    simp only [List.mem_cons, List.not_mem_nil, or_false] at hy
    rcases hy with rfl | rfl <;> exact adr_u32 (by omega) (by omega)
  · simp only [lineCfg, osK, colK, List.mem_flatMap, List.mem_range] at hy
    obtain ⟨i, hi, k, hk, hy⟩ := hy
    exact hrt i k (by omega) (by omega) y hy
  · simp only [lineCfg, List.mem_singleton] at hy
    subst hy
    exact ⟨⟨(by decide : (0 : Int) ≤ 3758096384), (by decide : (3758096384 : Int) ≤ 4294967295)⟩, adr_u32 (by omega) (by omega)⟩
theorem info_router : ∃ i z, Tryz.prog.info? 77 = some i ∧ i.zero = some z ∧ z.cells.size = 2 ∧ i.size = 2 ∧ i.bytes = 24 := info_cells (by kernel_rfl)
theorem info_link : ∃ i z, Tryz.prog.info? 125 = some i ∧ i.zero = some z ∧ z.cells.size = 3 ∧ i.size = 3 ∧ i.bytes = 32 := info_cells (by kernel_rfl)
theorem info_port : ∃ i z, Tryz.prog.info? 80 = some i ∧ i.zero = some z ∧ z.cells.size = 3 ∧ i.size = 3 ∧ i.bytes = 24 := info_cells (by kernel_rfl)
theorem info_route : ∃ i z, Tryz.prog.info? 128 = some i ∧ i.zero = some z ∧ z.cells.size = 5 ∧ i.size = 5 ∧ i.bytes = 40 := info_cells (by kernel_rfl)
end Go.Proofs.YtdljpokhcfhhfaaGreatDoor

