/- append of any row of items, nil let in, to nothing: the items in new memory. No program is imported. conf.copied, topo.copied at each type of item: the items in new memory; over the seat's program. -/
import Derived.Test.YtdljpokhcfhhfaaGreatDoorCf
import Derived.Laws.AppendOwnNone
import Derived.Test.YtdljpokhcfhhfaaGreatDoorProg
namespace Go.Proofs.YtdljpokhcfhhfaaGreatDoor
open Go.RowKit Lx
theorem flat_len {α : Type} {enc : α → List Value} {k : Nat} (hk : ∀ x, (enc x).length = k) (xs : List α) : (xs.flatMap enc).length = xs.length * k := by
  induction xs with
  | nil => simp
  | cons x r ih => rw [List.flatMap_cons, List.length_append, ih, hk, List.length_cons, Nat.succ_mul]; omega
theorem flat_at {α : Type} {enc : α → List Value} {k : Nat} (hk : ∀ x, (enc x).length = k) (h0 : 0 < k) : ∀ (xs : List α) (j : Nat) (u : Value), (xs.flatMap enc)[j]? = some u → ∃ (i q : Nat) (x : α), j = i * k + q ∧ xs[i]? = some x ∧ (enc x)[q]? = some u
  | [], j, u, h => by simp at h
  | x :: r, j, u, h => by
    rw [List.flatMap_cons] at h
    rcases Nat.lt_or_ge j k with hj | hj
    · rw [List.getElem?_append_left (by rw [hk]; exact hj)] at h
      exact ⟨0, j, x, by omega, rfl, h⟩
    · rw [List.getElem?_append_right (by rw [hk]; exact hj), hk] at h
      obtain ⟨i, q, y, e, h1, h2⟩ := flat_at hk h0 r (j - k) u h
      exact ⟨i + 1, q, y, by rw [Nat.succ_mul]; omega, by simpa using h1, h2⟩
/-- .. and what is owned so reads as the items -/
theorem IR.of_own {α : Type} {enc : α → List Value} {k : Nat} {w : World} {base : Nat} {e : TypeId} {v : Value} {xs : List α} (hk : ∀ x, (enc x).length = k) (h : w.ownsRow base e k v xs.length (xs.flatMap enc)) : ∃ A c, v = .slice A xs.length c ∧ xs.length ≤ c ∧ IR enc k w A xs.length xs := by
  rcases h.2 with ⟨rfl, hl⟩ | ⟨g, cap, cur, rfl, _, hh, hnc, _, hsz, ht⟩
  · exact ⟨none, 0, by rw [hl], by omega, rfl, fun hn => by omega⟩
  · refine ⟨_, cap, rfl, hnc, rfl, fun _ => ⟨g, 0, rfl, (Array.getElem?_eq_some_iff.1 hh).1, fun i x hx j v hv => ?_⟩⟩
    have hat : ∀ (ys : List α) (i : Nat) (x : α), ys[i]? = some x → (enc x)[j]? = some v → (ys.flatMap enc)[i * k + j]? = some v := by
      intro ys
      induction ys with
      | nil => intro i x h; simp at h
      | cons y ys ih =>
        intro i x h hne
        rw [List.flatMap_cons]
        cases i with
        | zero =>
          simp only [List.getElem?_cons_zero, Option.some.injEq] at h
          subst h
          rw [Nat.zero_mul, Nat.zero_add, List.getElem?_append_left (List.getElem?_eq_some_iff.1 hne).1]
          exact hne
        | succ i =>
          simp only [List.getElem?_cons_succ] at h
          rw [List.getElem?_append_right (by rw [hk, Nat.succ_mul]; omega), hk, show (i + 1) * k + j - k = i * k + j by rw [Nat.succ_mul]; omega]
          exact ih i x h hne
    have hc := hat xs i x hx hv
    rw [Nat.zero_add, cell_of_row w g (i * k + j) cur e (0, 0) hh]
    rw [← ht, List.getElem?_take] at hc
    split at hc
    · simpa using hc
    · cases hc
theorem wpList_append_ir {α : Type} {enc : α → List Value} {k : Nat} (hk : ∀ x, (enc x).length = k) (h0 : 0 < k) (hone : ∀ x, ∀ u ∈ enc x, u.oneCell' = true) {P : Program} {w : World} {ops : Array Oper} {rest : List Oper} {o : Oper} {a : Act} {Q : Exit → Act → World → Prop} (hgd : o.guard = none) (s x : Operand) (t : TypeId)
    (ho : o.op = .call { callee := .builtin .append, args := #[s, x], argTypes := #[t, t] })
    (e : TypeId) (i : TypeInfo) (z : Value) (bytes : Nat) (ht : P.underlying t = some (.slice e)) (hi : P.info? e = some i) (hz : i.zero = some z) (hsize : i.size = k) (hby : i.bytes = bytes) (hzs : z.cells.size = k) (hbs : bytes ≤ 1000)
    (hs : a.eval s = .slice none 0 0) (A : Option Addr) (m c : Nat) (ys : List α) (hx : a.eval x = .slice A m c) (hir : IR enc k w A m ys) (hm : m ≤ 1000000)
    (h : ∀ v' w', w'.ownsRow w.heap.size e k v' m (ys.flatMap enc) → Below w.heap.size w w' → wpList P ops Q rest (a.put o.dst v') w') : wpList P ops Q (o :: rest) a w := by
  cases A with
  | none =>
    have hm0 : m = 0 := by
      rcases Nat.eq_zero_or_pos m with h0 | h0
      · exact h0
      · obtain ⟨b, o, e, _⟩ := hir.2 h0
        cases e
    subst hm0
    obtain rfl : ys = [] := List.eq_nil_of_length_eq_zero hir.1
    refine wpList_plain hgd fun K hK => ?_
    have hrun : (Builtin.append_ #[t, t] o.type #[.slice none 0 0, .slice none 0 c]).run P w = .ok (.slice none 0 0) w := by
      simp [Builtin.append_, run_underlying ht, sizeOf, typeInfo, hi, Builtin.lenOf, Builtin.firstCells]
    unfold Oper.wp
    simp [execOp, ho, resolve, invoke, builtin, hs, hx, hrun, Result.andThen]
    exact hK _ _ (h _ w (World.ownsRow_nil _ _ _ _) (Below.refl _ _))
  | some ad =>
    refine wpList_append_own w hgd s x t ho w.heap.size e i z k bytes ht hi hz hsize hby hzs h0 (.slice none 0 0) 0 [] hs (World.ownsRow_nil _ _ _ _) ad m c (ys.flatMap enc) hx (by rw [flat_len hk, hir.1]) ?_ ?_ (by unfold maxLen; omega) ?_ (Nat.le_refl _) ?_
    · intro j u hj
      obtain ⟨i', q, y, rfl, h1, h2⟩ := flat_at hk h0 ys j u hj
      have hil := (List.getElem?_eq_some_iff.1 h1).1
      obtain ⟨b, o', e', _, hc⟩ := hir.2 (by have := hir.1; omega)
      cases e'
      rw [WideShapes.add_plain, ← Nat.add_assoc]
      exact hc i' y h1 q u h2
    · intro u hu
      obtain ⟨y, _, hy⟩ := List.mem_flatMap.1 hu
      exact hone y u hy
    · have : (0 + m) * bytes ≤ 1000000 * 1000 := Nat.mul_le_mul (by omega) hbs
      omega
    · intro v' w' g2 g3 _
      rw [Nat.zero_add] at g2
      refine h v' w' (by simpa using g2) ((Below.refl _ _).grown g3 (Nat.le_refl _) ?_)
      intro j hj
      cases hj
end Go.Proofs.YtdljpokhcfhhfaaGreatDoor
namespace Go.Proofs.YtdljpokhcfhhfaaGreatDoor
open Go.RowKit Lx
def CInt : Int → List Value := fun a => [.int .i64 a]
theorem info_cells {P : Program} {t : TypeId} {k b : Nat} (h : (P.info? t).map (fun i => (i.zero.map (fun z => z.cells.size), i.size, i.bytes)) = some (some k, k, b)) : ∃ i z, P.info? t = some i ∧ i.zero = some z ∧ z.cells.size = k ∧ i.size = k ∧ i.bytes = b := by
  cases hi : P.info? t with
  | none => rw [hi] at h; cases h
  | some i =>
    rw [hi] at h
    simp only [Option.map_some, Option.some.injEq, Prod.mk.injEq] at h
    obtain ⟨h1, h2, h3⟩ := h
    cases hz : i.zero with
    | none => rw [hz] at h1; cases h1
    | some z => rw [hz] at h1; exact ⟨i, z, rfl, hz, by simpa using h1, h2, h3⟩
theorem router_len : ∀ x : List UInt8 × Int, (CRouter x).length = 2 := fun ⟨_, _⟩ => rfl
theorem router_one : ∀ x : List UInt8 × Int, ∀ u ∈ CRouter x, u.oneCell' = true := by
  rintro ⟨_, _⟩ u hu
  simp [CRouter] at hu
  rcases hu with rfl | rfl <;> rfl
theorem copied_router (A : Option Addr) (n c : Nat) (xs : List (List UInt8 × Int)) (w : World) (h : IR CRouter 2 w A n xs) (hn : n ≤ 1000000) :
    Calls Tryz.prog 97 #[.slice A n c] w fun e w' => ∃ A' c', e = .returned (.slice A' n c') ∧ n ≤ c' ∧ w'.ownsRow w.heap.size 77 2 (.slice A' n c') n (xs.flatMap CRouter) ∧ IR CRouter 2 w' A' n xs ∧ Below w.heap.size w w' := by
  obtain ⟨i, z, hi, hz, hzs, hsz, hby⟩ := info_cells (P := Tryz.prog) (t := 77) (k := 2) (b := 24) (by kernel_rfl)
  have H := Lib.hid h
  clear h
  go_enter Tryz.func97, Tryz.ntmps97
  go_wp2_with (at_builtin; refine wpList_append_ir router_len (by decide) router_one rfl _ _ 22 rfl 77 i z 24 Tryz.underlying22 hi hz hsz hby hzs (by decide) rfl A n c xs rfl H.out hn ?_; intro v' w' hown hb)
  have hl := H.out.1
  have ho : w'.ownsRow w.heap.size 77 2 v' xs.length (xs.flatMap CRouter) := by rw [hl]; exact hown
  obtain ⟨A', c', rfl, hc, hir⟩ := IR.of_own router_len ho
  rw [hl] at hc hir ho
  have HH := Lib.hid hc
  have HI := Lib.hid hir
  have HO := Lib.hid ho
  have HB := Lib.hid hb
  clear hown ho hir hc hb
  rw [hl]
  go_ret
  exact ⟨A', c', rfl, HH.out, HO.out, HI.out, HB.out⟩
theorem link_len : ∀ x : List UInt8 × Int × Int, (CLink x).length = 3 := fun ⟨_, _, _⟩ => rfl
theorem link_one : ∀ x : List UInt8 × Int × Int, ∀ u ∈ CLink x, u.oneCell' = true := by
  rintro ⟨_, _, _⟩ u hu
  simp [CLink] at hu
  rcases hu with rfl | rfl | rfl <;> rfl
theorem copied_link (A : Option Addr) (n c : Nat) (xs : List (List UInt8 × Int × Int)) (w : World) (h : IR CLink 3 w A n xs) (hn : n ≤ 1000000) :
    Calls Tryz.prog 98 #[.slice A n c] w fun e w' => ∃ A' c', e = .returned (.slice A' n c') ∧ n ≤ c' ∧ w'.ownsRow w.heap.size 125 3 (.slice A' n c') n (xs.flatMap CLink) ∧ IR CLink 3 w' A' n xs ∧ Below w.heap.size w w' := by
  obtain ⟨i, z, hi, hz, hzs, hsz, hby⟩ := info_cells (P := Tryz.prog) (t := 125) (k := 3) (b := 32) (by kernel_rfl)
  have H := Lib.hid h
  clear h
  go_enter Tryz.func98, Tryz.ntmps98
  go_wp2_with (at_builtin; refine wpList_append_ir link_len (by decide) link_one rfl _ _ 23 rfl 125 i z 32 Tryz.underlying23 hi hz hsz hby hzs (by decide) rfl A n c xs rfl H.out hn ?_; intro v' w' hown hb)
  have hl := H.out.1
  have ho : w'.ownsRow w.heap.size 125 3 v' xs.length (xs.flatMap CLink) := by rw [hl]; exact hown
  obtain ⟨A', c', rfl, hc, hir⟩ := IR.of_own link_len ho
  rw [hl] at hc hir ho
  have HH := Lib.hid hc
  have HI := Lib.hid hir
  have HO := Lib.hid ho
  have HB := Lib.hid hb
  clear hown ho hir hc hb
  rw [hl]
  go_ret
  exact ⟨A', c', rfl, HH.out, HO.out, HI.out, HB.out⟩
theorem port_len : ∀ x : Int × Int × Int, (CPort x).length = 3 := fun ⟨_, _, _⟩ => rfl
theorem port_one : ∀ x : Int × Int × Int, ∀ u ∈ CPort x, u.oneCell' = true := by
  rintro ⟨_, _, _⟩ u hu
  simp [CPort] at hu
  rcases hu with rfl | rfl | rfl <;> rfl
theorem copied_port (A : Option Addr) (n c : Nat) (xs : List (Int × Int × Int)) (w : World) (h : IR CPort 3 w A n xs) (hn : n ≤ 1000000) :
    Calls Tryz.prog 99 #[.slice A n c] w fun e w' => ∃ A' c', e = .returned (.slice A' n c') ∧ n ≤ c' ∧ w'.ownsRow w.heap.size 80 3 (.slice A' n c') n (xs.flatMap CPort) ∧ IR CPort 3 w' A' n xs ∧ Below w.heap.size w w' := by
  obtain ⟨i, z, hi, hz, hzs, hsz, hby⟩ := info_cells (P := Tryz.prog) (t := 80) (k := 3) (b := 24) (by kernel_rfl)
  have H := Lib.hid h
  clear h
  go_enter Tryz.func99, Tryz.ntmps99
  go_wp2_with (at_builtin; refine wpList_append_ir port_len (by decide) port_one rfl _ _ 24 rfl 80 i z 24 Tryz.underlying24 hi hz hsz hby hzs (by decide) rfl A n c xs rfl H.out hn ?_; intro v' w' hown hb)
  have hl := H.out.1
  have ho : w'.ownsRow w.heap.size 80 3 v' xs.length (xs.flatMap CPort) := by rw [hl]; exact hown
  obtain ⟨A', c', rfl, hc, hir⟩ := IR.of_own port_len ho
  rw [hl] at hc hir ho
  have HH := Lib.hid hc
  have HI := Lib.hid hir
  have HO := Lib.hid ho
  have HB := Lib.hid hb
  clear hown ho hir hc hb
  rw [hl]
  go_ret
  exact ⟨A', c', rfl, HH.out, HO.out, HI.out, HB.out⟩
theorem route_len : ∀ x : Int × Int × Int × Int × Int, (CRoute x).length = 5 := fun ⟨_, _, _, _, _⟩ => rfl
theorem route_one : ∀ x : Int × Int × Int × Int × Int, ∀ u ∈ CRoute x, u.oneCell' = true := by
  rintro ⟨_, _, _, _, _⟩ u hu
  simp [CRoute] at hu
  rcases hu with rfl | rfl | rfl | rfl | rfl <;> rfl
theorem copied_route (A : Option Addr) (n c : Nat) (xs : List (Int × Int × Int × Int × Int)) (w : World) (h : IR CRoute 5 w A n xs) (hn : n ≤ 1000000) :
    Calls Tryz.prog 100 #[.slice A n c] w fun e w' => ∃ A' c', e = .returned (.slice A' n c') ∧ n ≤ c' ∧ w'.ownsRow w.heap.size 128 5 (.slice A' n c') n (xs.flatMap CRoute) ∧ IR CRoute 5 w' A' n xs ∧ Below w.heap.size w w' := by
  obtain ⟨i, z, hi, hz, hzs, hsz, hby⟩ := info_cells (P := Tryz.prog) (t := 128) (k := 5) (b := 40) (by kernel_rfl)
  have H := Lib.hid h
  clear h
  go_enter Tryz.func100, Tryz.ntmps100
  go_wp2_with (at_builtin; refine wpList_append_ir route_len (by decide) route_one rfl _ _ 25 rfl 128 i z 40 Tryz.underlying25 hi hz hsz hby hzs (by decide) rfl A n c xs rfl H.out hn ?_; intro v' w' hown hb)
  have hl := H.out.1
  have ho : w'.ownsRow w.heap.size 128 5 v' xs.length (xs.flatMap CRoute) := by rw [hl]; exact hown
  obtain ⟨A', c', rfl, hc, hir⟩ := IR.of_own route_len ho
  rw [hl] at hc hir ho
  have HH := Lib.hid hc
  have HI := Lib.hid hir
  have HO := Lib.hid ho
  have HB := Lib.hid hb
  clear hown ho hir hc hb
  rw [hl]
  go_ret
  exact ⟨A', c', rfl, HH.out, HO.out, HI.out, HB.out⟩
theorem range_len : ∀ x : Int × Int × Int, (CRange x).length = 3 := fun ⟨_, _, _⟩ => rfl
theorem range_one : ∀ x : Int × Int × Int, ∀ u ∈ CRange x, u.oneCell' = true := by
  rintro ⟨_, _, _⟩ u hu
  simp [CRange] at hu
  rcases hu with rfl | rfl | rfl <;> rfl
theorem copied_range (A : Option Addr) (n c : Nat) (xs : List (Int × Int × Int)) (w : World) (h : IR CRange 3 w A n xs) (hn : n ≤ 1000000) :
    Calls Tryz.prog 101 #[.slice A n c] w fun e w' => ∃ A' c', e = .returned (.slice A' n c') ∧ n ≤ c' ∧ w'.ownsRow w.heap.size 149 3 (.slice A' n c') n (xs.flatMap CRange) ∧ IR CRange 3 w' A' n xs ∧ Below w.heap.size w w' := by
  obtain ⟨i, z, hi, hz, hzs, hsz, hby⟩ := info_cells (P := Tryz.prog) (t := 149) (k := 3) (b := 24) (by kernel_rfl)
  have H := Lib.hid h
  clear h
  go_enter Tryz.func101, Tryz.ntmps101
  go_wp2_with (at_builtin; refine wpList_append_ir range_len (by decide) range_one rfl _ _ 26 rfl 149 i z 24 Tryz.underlying26 hi hz hsz hby hzs (by decide) rfl A n c xs rfl H.out hn ?_; intro v' w' hown hb)
  have hl := H.out.1
  have ho : w'.ownsRow w.heap.size 149 3 v' xs.length (xs.flatMap CRange) := by rw [hl]; exact hown
  obtain ⟨A', c', rfl, hc, hir⟩ := IR.of_own range_len ho
  rw [hl] at hc hir ho
  have HH := Lib.hid hc
  have HI := Lib.hid hir
  have HO := Lib.hid ho
  have HB := Lib.hid hb
  clear hown ho hir hc hb
  rw [hl]
  go_ret
  exact ⟨A', c', rfl, HH.out, HO.out, HI.out, HB.out⟩
theorem source_len : ∀ x : Int × Int × Int, (CSource x).length = 3 := fun ⟨_, _, _⟩ => rfl
theorem source_one : ∀ x : Int × Int × Int, ∀ u ∈ CSource x, u.oneCell' = true := by
  rintro ⟨_, _, _⟩ u hu
  simp [CSource] at hu
  rcases hu with rfl | rfl | rfl <;> rfl
theorem copied_source (A : Option Addr) (n c : Nat) (xs : List (Int × Int × Int)) (w : World) (h : IR CSource 3 w A n xs) (hn : n ≤ 1000000) :
    Calls Tryz.prog 102 #[.slice A n c] w fun e w' => ∃ A' c', e = .returned (.slice A' n c') ∧ n ≤ c' ∧ w'.ownsRow w.heap.size 147 3 (.slice A' n c') n (xs.flatMap CSource) ∧ IR CSource 3 w' A' n xs ∧ Below w.heap.size w w' := by
  obtain ⟨i, z, hi, hz, hzs, hsz, hby⟩ := info_cells (P := Tryz.prog) (t := 147) (k := 3) (b := 16) (by kernel_rfl)
  have H := Lib.hid h
  clear h
  go_enter Tryz.func102, Tryz.ntmps102
  go_wp2_with (at_builtin; refine wpList_append_ir source_len (by decide) source_one rfl _ _ 27 rfl 147 i z 16 Tryz.underlying27 hi hz hsz hby hzs (by decide) rfl A n c xs rfl H.out hn ?_; intro v' w' hown hb)
  have hl := H.out.1
  have ho : w'.ownsRow w.heap.size 147 3 v' xs.length (xs.flatMap CSource) := by rw [hl]; exact hown
  obtain ⟨A', c', rfl, hc, hir⟩ := IR.of_own source_len ho
  rw [hl] at hc hir ho
  have HH := Lib.hid hc
  have HI := Lib.hid hir
  have HO := Lib.hid ho
  have HB := Lib.hid hb
  clear hown ho hir hc hb
  rw [hl]
  go_ret
  exact ⟨A', c', rfl, HH.out, HO.out, HI.out, HB.out⟩
theorem member_len : ∀ x : Mb, (CMember x).length = 4 := fun ⟨_, _, _, _, _, _, _⟩ => rfl
theorem member_one : ∀ x : Mb, ∀ u ∈ CMember x, u.oneCell' = true := by
  rintro ⟨_, _, _, _, _, _, _⟩ u hu
  simp [CMember] at hu
  rcases hu with rfl | rfl | rfl | rfl <;> rfl
theorem copied_member (A : Option Addr) (n c : Nat) (xs : List (Mb)) (w : World) (h : IR CMember 4 w A n xs) (hn : n ≤ 1000000) :
    Calls Tryz.prog 103 #[.slice A n c] w fun e w' => ∃ A' c', e = .returned (.slice A' n c') ∧ n ≤ c' ∧ w'.ownsRow w.heap.size 115 4 (.slice A' n c') n (xs.flatMap CMember) ∧ IR CMember 4 w' A' n xs ∧ Below w.heap.size w w' := by
  obtain ⟨i, z, hi, hz, hzs, hsz, hby⟩ := info_cells (P := Tryz.prog) (t := 115) (k := 4) (b := 40) (by kernel_rfl)
  have H := Lib.hid h
  clear h
  go_enter Tryz.func103, Tryz.ntmps103
  go_wp2_with (at_builtin; refine wpList_append_ir member_len (by decide) member_one rfl _ _ 28 rfl 115 i z 40 Tryz.underlying28 hi hz hsz hby hzs (by decide) rfl A n c xs rfl H.out hn ?_; intro v' w' hown hb)
  have hl := H.out.1
  have ho : w'.ownsRow w.heap.size 115 4 v' xs.length (xs.flatMap CMember) := by rw [hl]; exact hown
  obtain ⟨A', c', rfl, hc, hir⟩ := IR.of_own member_len ho
  rw [hl] at hc hir ho
  have HH := Lib.hid hc
  have HI := Lib.hid hir
  have HO := Lib.hid ho
  have HB := Lib.hid hb
  clear hown ho hir hc hb
  rw [hl]
  go_ret
  exact ⟨A', c', rfl, HH.out, HO.out, HI.out, HB.out⟩
theorem addr_len : ∀ x : Int, (CAddr x).length = 1 := fun _ => rfl
theorem addr_one : ∀ x : Int, ∀ u ∈ CAddr x, u.oneCell' = true := by
  rintro _ u hu
  simp [CAddr] at hu
  subst hu; rfl
theorem copied_addr (A : Option Addr) (n c : Nat) (xs : List (Int)) (w : World) (h : IR CAddr 1 w A n xs) (hn : n ≤ 1000000) :
    Calls Tryz.prog 105 #[.slice A n c] w fun e w' => ∃ A' c', e = .returned (.slice A' n c') ∧ n ≤ c' ∧ w'.ownsRow w.heap.size 42 1 (.slice A' n c') n (xs.flatMap CAddr) ∧ IR CAddr 1 w' A' n xs ∧ Below w.heap.size w w' := by
  obtain ⟨i, z, hi, hz, hzs, hsz, hby⟩ := info_cells (P := Tryz.prog) (t := 42) (k := 1) (b := 4) (by kernel_rfl)
  have H := Lib.hid h
  clear h
  go_enter Tryz.func105, Tryz.ntmps105
  go_wp2_with (at_builtin; refine wpList_append_ir addr_len (by decide) addr_one rfl _ _ 31 rfl 42 i z 4 Tryz.underlying31 hi hz hsz hby hzs (by decide) rfl A n c xs rfl H.out hn ?_; intro v' w' hown hb)
  have hl := H.out.1
  have ho : w'.ownsRow w.heap.size 42 1 v' xs.length (xs.flatMap CAddr) := by rw [hl]; exact hown
  obtain ⟨A', c', rfl, hc, hir⟩ := IR.of_own addr_len ho
  rw [hl] at hc hir ho
  have HH := Lib.hid hc
  have HI := Lib.hid hir
  have HO := Lib.hid ho
  have HB := Lib.hid hb
  clear hown ho hir hc hb
  rw [hl]
  go_ret
  exact ⟨A', c', rfl, HH.out, HO.out, HI.out, HB.out⟩
theorem taddr_len : ∀ x : Int, (CAddr x).length = 1 := fun _ => rfl
theorem taddr_one : ∀ x : Int, ∀ u ∈ CAddr x, u.oneCell' = true := by
  rintro _ u hu
  simp [CAddr] at hu
  subst hu; rfl
theorem tint_len : ∀ x : Int, (CInt x).length = 1 := fun _ => rfl
theorem tint_one : ∀ x : Int, ∀ u ∈ CInt x, u.oneCell' = true := by
  rintro _ u hu
  simp [CInt] at hu
  subst hu; rfl
theorem copied_tint (A : Option Addr) (n c : Nat) (xs : List (Int)) (w : World) (h : IR CInt 1 w A n xs) (hn : n ≤ 1000000) :
    Calls Tryz.prog 187 #[.slice A n c] w fun e w' => ∃ A' c', e = .returned (.slice A' n c') ∧ n ≤ c' ∧ w'.ownsRow w.heap.size 3 1 (.slice A' n c') n (xs.flatMap CInt) ∧ IR CInt 1 w' A' n xs ∧ Below w.heap.size w w' := by
  obtain ⟨i, z, hi, hz, hzs, hsz, hby⟩ := info_cells (P := Tryz.prog) (t := 3) (k := 1) (b := 8) (by kernel_rfl)
  have H := Lib.hid h
  clear h
  go_enter Tryz.func187, Tryz.ntmps187
  go_wp2_with (at_builtin; refine wpList_append_ir tint_len (by decide) tint_one rfl _ _ 52 rfl 3 i z 8 Tryz.underlying52 hi hz hsz hby hzs (by decide) rfl A n c xs rfl H.out hn ?_; intro v' w' hown hb)
  have hl := H.out.1
  have ho : w'.ownsRow w.heap.size 3 1 v' xs.length (xs.flatMap CInt) := by rw [hl]; exact hown
  obtain ⟨A', c', rfl, hc, hir⟩ := IR.of_own tint_len ho
  rw [hl] at hc hir ho
  have HH := Lib.hid hc
  have HI := Lib.hid hir
  have HO := Lib.hid ho
  have HB := Lib.hid hb
  clear hown ho hir hc hb
  rw [hl]
  go_ret
  exact ⟨A', c', rfl, HH.out, HO.out, HI.out, HB.out⟩
end Go.Proofs.YtdljpokhcfhhfaaGreatDoor

