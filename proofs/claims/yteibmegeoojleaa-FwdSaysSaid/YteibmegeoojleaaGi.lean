/- The document's rows and lost ports, its Find, Used, IsLost; over the seat's program. -/
import Derived.Test.YteibmegeoojleaaGg
import Derived.Lib.AppendIntMem
import Derived.Deep.RegionHeld3
import Derived.Deep.RegionLaw
import Derived.Deep.DeepAppendRoom
import Derived.Maps.AppendAt
namespace Go.Proofs.Yteibmegeoojleaa
open Go.ChangeShapes Go.WideShapes Go.ChangeAt Go.RowKit
section
variable {α : Type} {P : Program} {sl e : TypeId} {enc : α → List Value} {k bytes : Nat}

theorem run_items (E : Elem P sl e enc k bytes) (w : World) (base : Nat) (ot : TypeId) (v : Value) (n : Nat) (xs : List α) (hown : w.ownsRow base e k v n (xs.flatMap enc))
    (A : Option Addr) (m c : Nat) (ys : List α) (hri : RI enc k w A m ys) (hn : n ≤ 1048576) (hm : m ≤ 1048576) (hbase : base ≤ w.heap.size) :
    ∃ v' w', (Builtin.append_ #[sl, sl] ot #[v, .slice A m c]).run P w = .ok v' w' ∧ w'.ownsRow base e k v' (n + m) ((xs ++ ys).flatMap enc) ∧ Below base w w' ∧ w.grownBy w' v.ownBlock := by
  obtain ⟨i, z, hi, hz, hsz, hby, hzc⟩ := E.info
  have ht := E.under
  cases A with
  | none =>
    have h0 : m = 0 := by
      rcases Nat.eq_zero_or_pos m with h0 | h0
      · exact h0
      · obtain ⟨b, o, e, _⟩ := hri.2 h0
        cases e
    subst h0
    obtain rfl : ys = [] := List.eq_nil_of_length_eq_zero hri.len
    have hrun : (Builtin.append_ #[sl, sl] ot #[v, .slice none 0 c]).run P w = .ok v w := by
      rcases hown.2 with ⟨rfl, rfl⟩ | ⟨g, cap, cur, rfl, _, _, hnc, _⟩
      · simp [Builtin.append_, run_underlying ht, sizeOf, typeInfo, hi, Builtin.lenOf, Builtin.firstCells]
      · simp [Builtin.append_, run_underlying ht, sizeOf, typeInfo, hi, Builtin.lenOf, Builtin.firstCells, hnc, storeCells]
    exact ⟨v, w, hrun, by rw [List.append_nil]; exact hown, Below.refl _ _, ⟨rfl, rfl, rfl, Nat.le_refl _, fun _ _ _ => rfl⟩⟩
  | some ad =>
    have hb1 : (n + m) * bytes ≤ 2097152 * 1000 := Nat.mul_le_mul (by omega) E.by_
    obtain ⟨v', w', hr, h2, h3, _, _⟩ := run_append_own_at (P := P) w base sl ot e i z k bytes ht hi hz hsz hby hzc E.pos v n _ hown ad m c (ys.flatMap enc) (by rw [flat_szG E.len, hri.len]) (ri_cellsG E.len E.pos hri)
      (by intro u hu; rw [List.mem_flatMap] at hu; obtain ⟨y, _, hy⟩ := hu; exact E.one y u hy) (by unfold maxLen; omega) (by omega) hbase
    exact ⟨v', w', hr, by rw [List.flatMap_append]; exact h2, (Below.refl base w).grown h3 hbase (by intro j hj; exact (hown.lt j hj).1), h3⟩
theorem step_items (E : Elem P sl e enc k bytes) {w : World} {ops : Array Oper} {o : Oper} {a : Act} {K : Act → World → Prop} {Q : Exit → Act → World → Prop} {E' : Prop} (hgd : o.guard = none) (s x : Operand)
    (ho : o.op = .call { callee := .builtin .append, args := #[s, x], argTypes := #[sl, sl] })
    (base : Nat) (v : Value) (n : Nat) (xs : List α) (hs : a.eval s = v) (hown : w.ownsRow base e k v n (xs.flatMap enc))
    (A : Option Addr) (m c : Nat) (ys : List α) (hx : a.eval x = .slice A m c) (hri : RI enc k w A m ys) (hn : n ≤ 1048576) (hm : m ≤ 1048576) (hbase : base ≤ w.heap.size)
    (h : ∀ v' w', w'.ownsRow base e k v' (n + m) ((xs ++ ys).flatMap enc) → Below base w w' → w.grownBy w' v.ownBlock → K (a.put o.dst v') w') :
    if Region.wanted o (yielded ops a.tmps) = true then Oper.wp P o a w K Q else E' := by
  rw [if_pos (by simp [Region.wanted, hgd])]
  obtain ⟨v', w', hr, h2, h3, h4⟩ := run_items E w base o.type v n xs hown A m c ys hri hn hm hbase
  have hk := h v' w' h2 h3 h4
  simp only [Oper.wp, execOp, ho, resolve, invoke, builtin, Sem.run_bind, Sem.run_pure, Result.andThen_ok, List.map_toArray, List.map_cons, List.map_nil, hs, hx, hr]
  exact hk
end
end Go.Proofs.Yteibmegeoojleaa
namespace Go.Proofs.Yteibmegeoojleaa
open Go.ChangeShapes Go.WideShapes Go.ChangeAt Go.RowKit Sm Go.Maps
theorem own0 {w : World} {b k n : Nat} {e : TypeId} {v : Value} {xs : List Value} (h : w.ownsRow b e k v n xs) : w.ownsRow 0 e k v n xs := ⟨h.1, h.2.imp id fun ⟨g, cap, cur, h1, _, h3⟩ => ⟨g, cap, cur, h1, Nat.zero_le _, h3⟩⟩
theorem own_ri {α : Type} {enc : α → List Value} {k n c : Nat} {w : World} {b : Nat} {e : TypeId} {A : Option Addr} {xs : List α} (hk : ∀ x, (enc x).length = k) (hl : xs.length = n) (h : w.ownsRow b e k (.slice A n c) n (xs.flatMap enc)) : RI enc k w A n xs := by
  subst hl
  obtain ⟨A', c', he, _, hr⟩ := RI.of_own hk h
  cases he
  exact hr
theorem elemR8 : Elem Try.prog 38 57 CRw 6 56 := ⟨Try.underlying38, (by obtain ⟨i, hi, hz, hs, hb⟩ := info_parts (show (Try.prog.info? 57).map (fun i => (i.zero, i.size, i.bytes)) = some (some (.agg #[.int .i64 0, .int .i64 0, .int .i64 0, .int .u32 0, .int .u32 0, .slice none 0 0]), 6, 56) by kernel_rfl); exact ⟨i, _, hi, hz, hs, hb, rfl⟩), fun _ => rfl, fun x u hu => by simp [CRw] at hu; rcases hu with rfl | rfl | rfl | rfl | rfl | rfl <;> rfl, by omega, by omega⟩
theorem elemL8 : Elem Try.prog 40 59 CLo 3 16 := ⟨Try.underlying40, (by obtain ⟨i, hi, hz, hs, hb⟩ := info_parts (show (Try.prog.info? 59).map (fun i => (i.zero, i.size, i.bytes)) = some (some (.agg #[.int .i64 0, .int .u32 0, .int .u32 0]), 3, 16) by kernel_rfl); exact ⟨i, _, hi, hz, hs, hb, rfl⟩), fun _ => rfl, fun x u hu => by simp [CLo] at hu; rcases hu with rfl | rfl | rfl <;> rfl, by omega, by omega⟩
set_option maxRecDepth 100000 in
set_option maxHeartbeats 4000000 in
theorem lost8_any (A : Option Addr) (n c : Nat) (L : List Lo) (w : World) (h : RI CLo 3 w A n L) (hn : n ≤ 20) :
    Calls Try.prog 11 #[.slice A n c] w fun e w' => ∃ A' c', e = .returned (.slice A' n c') ∧ w'.ownsRow 0 59 3 (.slice A' n c') n (L.flatMap CLo) ∧ Below w.heap.size w w' := by
  have HR := Lib.hid h
  have HLEN := Lib.hid h.len
  clear h
  go_enter Try.func11, Try.ntmps11
  go_wp2
  go_loopw [3, 4] (fun sv iv wr => ∃ (k : Nat), k ≤ n ∧ iv = .int .i64 k ∧ Hid (wr.ownsRow w.heap.size 59 3 sv k ((L.take k).flatMap CLo)) ∧ Hid (Below w.heap.size w wr)) (fun _ iv _ => n - (intOf iv).toNat)
  case atStart => exact ⟨0, Nat.zero_le _, rfl, Lib.hid (World.ownsRow_nil _ _ _ _), Lib.hid (Below.refl _ _)⟩
  case round =>
    obtain ⟨k, hk, rfl, HO, HB⟩ := hrel
    rcases Nat.lt_or_ge k n with hlt | hge
    · have hi0 : (k : Int) < (n : Int) := by omega
      obtain ⟨b5, o5, x, rfl, hbl, hx, hcl⟩ := HR.out.at_ hlt
      have HT : Hid (L.take (k + 1) = L.take k ++ [x]) := Lib.hid (by rw [List.take_add_one, hx]; rfl)
      obtain ⟨x0, x1, x2⟩ := x
      have t0 : ∀ W, Below w.heap.size w W → W.cell? ⟨b5, o5 + k * 3, none⟩ = some (.int .i64 x0) := fun W hW => (hW.cell (p := ⟨b5, o5 + k * 3, none⟩) hbl).trans (hcl 0 _ rfl)
      have t1 : ∀ W, Below w.heap.size w W → W.cell? ⟨b5, o5 + k * 3 + 1, none⟩ = some (.int .u32 x1) := fun W hW => (hW.cell (p := ⟨b5, o5 + k * 3 + 1, none⟩) hbl).trans (hcl 1 _ rfl)
      have t2 : ∀ W, Below w.heap.size w W → W.cell? ⟨b5, o5 + k * 3 + 2, none⟩ = some (.int .u32 x2) := fun W hW => (hW.cell (p := ⟨b5, o5 + k * 3 + 2, none⟩) hbl).trans (hcl 2 _ rfl)
      have hB := HB.out
      have hBs := HB.out.size
      clear hx hcl hbl
      go_upto_region 5 with fail
      go_region_held3 (fun w' => Below w.heap.size w w')
        (first | with_reducible assumption | with_reducible exact hB.drew | with_reducible exact ((hB.drew).alloc hBs _) | with_reducible exact (hB.alloc hBs _).drew | with_reducible exact (hB.alloc hBs _))
        ((refine step_items elemL8 (by rfl) _ _ (by rfl) w.heap.size _ k (L.take k) (by rfl) (by first | exact (World.ownsRow.drew HO.out).alloc _ | exact HO.out.alloc _ | exact World.ownsRow.drew (HO.out.alloc _)) _ 1 _ [_] (by rfl) (RI.new (enc := CLo) (k := 3) _ _ ⟨x0, x1, x2⟩ (by rfl) (by rfl)) (by omega) (by omega) (by first | exact hBs | exact Nat.le_trans hBs (by simp)) ?_; intro v4 w4 hown4 hb4x hg4; clear hg4; have HB4 : Below w.heap.size w w4 := Below.trans (by first | exact hB.drew | exact (hB.drew).alloc hBs _ | exact hB.alloc hBs _) hb4x; clear hb4x))
      have HO4 := Lib.hid hown4
      rw [← HT.out] at HO4
      have HBH := Lib.hid HB4
      clear hown4 HB4 hB t0 t1 t2
      go_wp2
      go_roundw
      case rel => exact ⟨k + 1, by omega, by go_num, HO4, HBH⟩
      case measure => simp [intOf]; omega
    · obtain rfl : k = n := by omega
      have hd : decide ((k : Int) < (k : Int)) = false := by simp
      have HL := HO.out
      rw [← HLEN.out, List.take_length] at HL
      obtain ⟨A9, c9, rfl, _, _⟩ := RI.of_own (enc := CLo) (k := 3) (xs := L) (fun _ => rfl) HL
      have HR9 := Lib.hid (own0 HL)
      clear HL
      go_wp2
      go_ret
      exact ⟨A9, c9, by rw [HLEN.out]; rfl, by have := HR9.out; rwa [HLEN.out] at this, HB.out⟩
set_option maxRecDepth 100000 in
set_option maxHeartbeats 4000000 in
theorem other8_any (A : Option Addr) (n c : Nat) (L : List PMr) (w : World) (h : RI CRw 6 w A n L) (hn : n ≤ 20) :
    Calls Try.prog 10 #[.slice A n c] w fun e w' => ∃ A' c', e = .returned (.slice A' n c') ∧ w'.ownsRow 0 57 6 (.slice A' n c') n (L.flatMap CRw) ∧ Below w.heap.size w w' := by
  have HR := Lib.hid h
  have HLEN := Lib.hid h.len
  clear h
  go_enter Try.func10, Try.ntmps10
  go_wp2
  go_loopw [3, 4] (fun sv iv wr => ∃ (k : Nat), k ≤ n ∧ iv = .int .i64 k ∧ Hid (wr.ownsRow w.heap.size 57 6 sv k ((L.take k).flatMap CRw)) ∧ Hid (Below w.heap.size w wr)) (fun _ iv _ => n - (intOf iv).toNat)
  case atStart => exact ⟨0, Nat.zero_le _, rfl, Lib.hid (World.ownsRow_nil _ _ _ _), Lib.hid (Below.refl _ _)⟩
  case round =>
    obtain ⟨k, hk, rfl, HO, HB⟩ := hrel
    rcases Nat.lt_or_ge k n with hlt | hge
    · have hi0 : (k : Int) < (n : Int) := by omega
      obtain ⟨b5, o5, x, rfl, hbl, hx, hcl⟩ := HR.out.at_ hlt
      have HT : Hid (L.take (k + 1) = L.take k ++ [x]) := Lib.hid (by rw [List.take_add_one, hx]; rfl)
      obtain ⟨⟨x0, x1, x2, ⟨x3, x4⟩, xs⟩, xA, xc⟩ := x
      have t0 : ∀ W, Below w.heap.size w W → W.cell? ⟨b5, o5 + k * 6, none⟩ = some (.int .i64 x0) := fun W hW => (hW.cell (p := ⟨b5, o5 + k * 6, none⟩) hbl).trans (hcl 0 _ rfl)
      have t1 : ∀ W, Below w.heap.size w W → W.cell? ⟨b5, o5 + k * 6 + 1, none⟩ = some (.int .i64 x1) := fun W hW => (hW.cell (p := ⟨b5, o5 + k * 6 + 1, none⟩) hbl).trans (hcl 1 _ rfl)
      have t2 : ∀ W, Below w.heap.size w W → W.cell? ⟨b5, o5 + k * 6 + 2, none⟩ = some (.int .i64 x2) := fun W hW => (hW.cell (p := ⟨b5, o5 + k * 6 + 2, none⟩) hbl).trans (hcl 2 _ rfl)
      have t3 : ∀ W, Below w.heap.size w W → W.cell? ⟨b5, o5 + k * 6 + 3, none⟩ = some (.int .u32 x3) := fun W hW => (hW.cell (p := ⟨b5, o5 + k * 6 + 3, none⟩) hbl).trans (hcl 3 _ rfl)
      have t4 : ∀ W, Below w.heap.size w W → W.cell? ⟨b5, o5 + k * 6 + 4, none⟩ = some (.int .u32 x4) := fun W hW => (hW.cell (p := ⟨b5, o5 + k * 6 + 4, none⟩) hbl).trans (hcl 4 _ rfl)
      have t5 : ∀ W, Below w.heap.size w W → W.cell? ⟨b5, o5 + k * 6 + 5, none⟩ = some (.slice xA xs.length xc) := fun W hW => (hW.cell (p := ⟨b5, o5 + k * 6 + 5, none⟩) hbl).trans (hcl 5 _ rfl)
      have hB := HB.out
      have hBs := HB.out.size
      clear hx hcl hbl
      go_upto_region 5 with fail
      go_region_held3 (fun w' => Below w.heap.size w w')
        (first | with_reducible assumption | with_reducible exact hB.drew | with_reducible exact ((hB.drew).alloc hBs _) | with_reducible exact (hB.alloc hBs _).drew | with_reducible exact (hB.alloc hBs _))
        ((refine step_items elemR8 (by rfl) _ _ (by rfl) w.heap.size _ k (L.take k) (by rfl) (by first | exact (World.ownsRow.drew HO.out).alloc _ | exact HO.out.alloc _ | exact World.ownsRow.drew (HO.out.alloc _)) _ 1 _ [_] (by rfl) (RI.new (enc := CRw) (k := 6) _ _ ⟨⟨x0, x1, x2, ⟨x3, x4⟩, xs⟩, xA, xc⟩ (by rfl) (by rfl)) (by omega) (by omega) (by first | exact hBs | exact Nat.le_trans hBs (by simp)) ?_; intro v4 w4 hown4 hb4x hg4; clear hg4; have HB4 : Below w.heap.size w w4 := Below.trans (by first | exact hB.drew | exact (hB.drew).alloc hBs _ | exact hB.alloc hBs _) hb4x; clear hb4x))
      have HO4 := Lib.hid hown4
      rw [← HT.out] at HO4
      have HBH := Lib.hid HB4
      clear hown4 HB4 hB t0 t1 t2 t3 t4 t5
      go_wp2
      go_roundw
      case rel => exact ⟨k + 1, by omega, by go_num, HO4, HBH⟩
      case measure => simp [intOf]; omega
    · obtain rfl : k = n := by omega
      have hd : decide ((k : Int) < (k : Int)) = false := by simp
      have HL := HO.out
      rw [← HLEN.out, List.take_length] at HL
      obtain ⟨A9, c9, rfl, _, _⟩ := RI.of_own (enc := CRw) (k := 6) (xs := L) (fun _ => rfl) HL
      have HR9 := Lib.hid (own0 HL)
      clear HL
      go_wp2
      go_ret
      exact ⟨A9, c9, by rw [HLEN.out]; rfl, by have := HR9.out; rwa [HLEN.out] at this, HB.out⟩
end Go.Proofs.Yteibmegeoojleaa

