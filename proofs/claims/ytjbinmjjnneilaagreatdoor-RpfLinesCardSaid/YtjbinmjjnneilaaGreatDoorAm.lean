/- rpf.aims: the addresses of a network's sources, those that its members list, its roots; sorted, each once; over the seat's program. -/
import Derived.Test.YtjbinmjjnneilaaGreatDoorSo
import Derived.Test.YtjbinmjjnneilaaGreatDoorKa
import Derived.Test.YtjbinmjjnneilaaGreatDoorCl0
import Derived.Test.YtjbinmjjnneilaaGreatDoorRb
import Derived.Test.YtjbinmjjnneilaaGreatDoorStr
import Derived.Test.YtjbinmjjnneilaaGreatDoorGr0
import Derived.Laws.AppendOwnNone
namespace Go.Proofs.YtjbinmjjnneilaaGreatDoor
open Go.RowKit Lx Sm Go.Maps
/-- append of any addresses that read as a list, nil let in, behind what the call owns -/
theorem wpList_app_ad {w : World} {ops : Array Oper} {rest : List Oper} {o : Oper} {a : Act} {Q : Exit → Act → World → Prop} (hgd : o.guard = none) (s x : Operand)
    (ho : o.op = .call { callee := .builtin .append, args := #[s, x], argTypes := #[71, 71] })
    (base : Nat) (v : Value) (n : Nat) (xs : List Int) (hs : a.eval s = v) (hown : w.ownsRow base 43 1 v n (A32 xs))
    (A : Option Addr) (m c : Nat) (ys : List Int) (hx : a.eval x = .slice A m c) (har : AR w A m ys) (hn : n ≤ 1048576) (hm : m ≤ 1048576) (hbase : base ≤ w.heap.size)
    (h : ∀ v' w', w'.ownsRow base 43 1 v' (n + m) (A32 (xs ++ ys)) → Below base w w' → wpList Tryz.prog ops Q rest (a.put o.dst v') w') : wpList Tryz.prog ops Q (o :: rest) a w := by
  obtain ⟨i, hi, hz, hsize, hby⟩ := info_parts info_u32
  have ht := Tryz.underlying71
  cases A with
  | none =>
    have h0 : m = 0 := by
      rcases Nat.eq_zero_or_pos m with h0 | h0
      · exact h0
      · obtain ⟨b, o, e, _⟩ := har.2.2 h0
        cases e
    subst h0
    obtain rfl : ys = [] := List.eq_nil_of_length_eq_zero har.len
    refine wpList_plain hgd fun K hK => ?_
    have hrun : (Builtin.append_ #[71, 71] o.type #[v, .slice none 0 c]).run Tryz.prog w = .ok v w := by
      rcases hown.2 with ⟨rfl, rfl⟩ | ⟨g, cap, cur, rfl, _, _, hnc, _⟩
      · simp [Builtin.append_, run_underlying ht, sizeOf, typeInfo, hi, Builtin.lenOf, Builtin.firstCells]
      · simp [Builtin.append_, run_underlying ht, sizeOf, typeInfo, hi, Builtin.lenOf, Builtin.firstCells, hnc, storeCells]
    unfold Oper.wp
    simp [execOp, ho, resolve, invoke, builtin, hs, hx, hrun, Result.andThen]
    exact hK _ _ (h v w (by rw [List.append_nil]; exact hown) (Below.refl _ _))
  | some ad =>
    refine wpList_append_own w hgd s x 71 ho base 43 i (.int .u32 0) 1 4 ht hi hz hsize hby rfl (by decide) v n (A32 xs) hs hown ad m c (A32 ys) hx (by rw [A32_len, har.len]; omega) ?_ (A32_one _) (by unfold maxLen; omega) (by omega) hbase ?_
    · intro j u hj
      have hjm : j < m := by
        have := (List.getElem?_eq_some_iff.1 hj).1
        rw [A32_len, har.len] at this
        exact this
      obtain ⟨b, o', e', _, hc⟩ := har.2.2 (by omega)
      cases e'
      rw [WideShapes.add_plain, hc j hjm, ← hj, A32_at (by rw [har.len]; exact hjm)]
    · intro v' w' hown' hg _
      refine h v' w' (by rw [A32_app]; exact hown') ((Below.refl _ _).grown hg hbase ?_)
      intro k hk
      exact (hown.lt k hk).1
theorem ar_one {w : World} {g : Nat} {t : TypeId} {a : Int} (h : Blk w g t #[.int .u32 a]) (ha : isA a) : AR w (some ⟨g, 0, none⟩) 1 [a] :=
  ⟨rfl, fun x hx => by simp at hx; subst hx; exact ha, fun _ => ⟨g, 0, rfl, h.lt, fun i hi => by
    have e : i = 0 := by omega
    subst e
    simpa using h.cell 0⟩⟩
/-- no two neighbours alike -/
def Apart (xs : List Int) : Prop := ∀ k, k + 1 < xs.length → xs.getD (k + 1) 0 ≠ xs.getD k 0
theorem compact_any (A : Option Addr) (n c : Nat) (xs : List Int) (w : World) (h : AR w A n xs) (hn : n ≤ 1048576) (ha : Apart xs) :
    Calls Tryz.prog 60 #[.slice A n c] w fun e w' => e = .returned (.slice A n c) ∧ Below w.heap.size w w' := by
  by_cases hs : n < 2
  · have hd : (n : Int) < 2 := by omega
    go_enter Tryz.func60, Tryz.ntmps60
    go_wp2
    go_ret
    exact ⟨rfl, Below.refl _ _⟩
  · have hd : ¬ (n : Int) < 2 := by omega
    have hd2 : decide ((n : Int) < 2) = false := by simpa using hd
    have H := Lib.hid h
    have hl := h.len
    have HA := Lib.hid ha
    clear h ha
    go_enter Tryz.func60, Tryz.ntmps60
    go_wp2
    go_loopw [3] (fun i wr => ∃ k : Nat, k + 1 ≤ n ∧ i = .int .i64 ((k : Int) + 1) ∧ Hid (Below w.heap.size w wr)) (fun i _ => n - (intOf i).toNat)
    case atStart => exact ⟨0, by omega, rfl, Lib.hid (Below.refl _ _)⟩
    case round =>
      obtain ⟨k, hk, rfl, HB⟩ := hrel
      by_cases hk1 : k + 1 < n
      · obtain ⟨b, o, rfl, hb, hc⟩ := (H.out.next HB.out).2.2 (show 0 < n by omega)
        obtain ⟨x, hx⟩ : ∃ x, xs.getD (k + 1) 0 = x := ⟨_, rfl⟩
        obtain ⟨y, hy⟩ : ∃ y, xs.getD k 0 = y := ⟨_, rfl⟩
        have hne := HA.out k (by omega)
        rw [hx, hy] at hne
        have c1 : wr.cell? ⟨b, o + (k + 1), none⟩ = some (.int .u32 x) := by rw [← hx]; exact hc (k + 1) hk1
        have c0 : wr.cell? ⟨b, o + k, none⟩ = some (.int .u32 y) := by rw [← hy]; exact hc k (by omega)
        have hxy : (x == y) = false := by simpa using hne
        have hlt : (k : Int) + 1 < (n : Int) := by omega
        have i0 : (k : Int) < (n : Int) := by omega
        clear hc hx hy hne
        go_upto_region 6 with fail
        refine wp_region_since (by kernel_rfl) (by kernel_rfl) ?_
        have d1 : ∀ p : Snc wr, p.W.cell? ⟨b, o + (k + 1), none⟩ = some (.int .u32 x) := fun p => (p.b.cell (p := ⟨b, o + (k + 1), none⟩) hb).trans c1
        have d0 : ∀ p : Snc wr, p.W.cell? ⟨b, o + k, none⟩ = some (.int .u32 y) := fun p => (p.b.cell (p := ⟨b, o + k, none⟩) hb).trans c0
        repeat (go_big_quiet_step (fail))
        refine wpQuiet_nil ?_
        rintro w5 ⟨P5, rfl⟩
        have HB5 := Lib.hid (below_next HB.out P5.b)
        clear c0 c1 d0 d1 HB
        go_wp2
        go_roundw
        case rel => exact ⟨k + 1, by omega, by go_num, HB5⟩
        case measure => simp [intOf]; omega
      · have hlt : decide ((k : Int) + 1 < (n : Int)) = false := by simp; omega
        go_wp2
        go_ret
        exact ⟨rfl, HB.out⟩
def aimsP (x : Cfg) : List Int := x.ss.map (·.2.1) ++ (x.ms.flatMap (·.xs) ++ x.gs.map (·.2.2))
theorem bel2 {W1 wr W : World} (h : Below W1.heap.size W1 wr) (hW : Below wr.heap.size wr W) : Below W1.heap.size W1 W := below_next h hW
theorem blk_new2 (w : World) (o : Obj) (t : TypeId) (cs : Array Value) : Blk ((w.alloc o).alloc (.cells cs t)) (w.heap.size + 1) t cs := by
  have := Blk.new (w.alloc o) t cs
  simpa using this
set_option maxRecDepth 100000 in
set_option maxHeartbeats 4000000 in
theorem aims_any (M : Cm) (x : Cfg) (w : World) (h : CW w M x) (hn : (aimsP x).length ≤ 12) (ha : Apart (sortA (aimsP x))) (hi : IsAs (sortA (aimsP x))) :
    Calls Tryz.prog 28 #[.agg #[.slice M.r.A M.r.n M.r.c, .slice M.l.A M.l.n M.l.c, .slice M.p.A M.p.n M.p.c, .slice M.o.A M.o.n M.o.c, .slice M.g.A M.g.n M.g.c, .slice M.s.A M.s.n M.s.c, .slice M.m.A M.m.n M.m.c]] w fun e w' => ∃ A c, e = .returned (.slice A (aimsP x).length c) ∧ AR w' A (aimsP x).length (sortA (aimsP x)) ∧ Below w.heap.size w w' := by
  have HB1 := Lib.hid ((Below.refl w.heap.size w).alloc (Nat.le_refl _) (.cells #[.slice M.r.A M.r.n M.r.c, .slice M.l.A M.l.n M.l.c, .slice M.p.A M.p.n M.p.c, .slice M.o.A M.o.n M.o.c, .slice M.g.A M.g.n M.g.c, .slice M.s.A M.s.n M.s.c, .slice M.m.A M.m.n M.m.c] 37))
  have HK := Lib.hid (Blk.new w 37 #[.slice M.r.A M.r.n M.r.c, .slice M.l.A M.l.n M.l.c, .slice M.p.A M.p.n M.p.c, .slice M.o.A M.o.n M.o.c, .slice M.g.A M.g.n M.g.c, .slice M.s.A M.s.n M.s.c, .slice M.m.A M.m.n M.m.c])
  have H := Lib.hid h
  have hsn := Lib.hid h.s.len
  have hmn := Lib.hid h.m.len
  have hgn := Lib.hid h.g.len
  have hs6 : M.s.n ≤ 1000000 := h.sok.2
  have hm6 : M.m.n ≤ 1000000 := h.mok.2
  have hg6 : M.g.n ≤ 1000000 := h.gok.2
  have hL1 : x.ss.length ≤ (aimsP x).length := by unfold aimsP; simp
  have hL2 : ∀ k, k ≤ x.ms.length → x.ss.length + ((x.ms.take k).flatMap (·.xs)).length ≤ (aimsP x).length := by
    intro k hk
    have e : x.ms.flatMap (·.xs) = (x.ms.take k).flatMap (·.xs) ++ (x.ms.drop k).flatMap (·.xs) := by rw [← List.flatMap_append, List.take_append_drop]
    unfold aimsP
    rw [e, List.length_append, List.length_append, List.length_append, List.length_map]
    omega
  have hL3 : (aimsP x).length = x.ss.length + (x.ms.flatMap (·.xs)).length + x.gs.length := by unfold aimsP; rw [List.length_append, List.length_append, List.length_map, List.length_map]; omega
  have HL := Lib.hid (And.intro hL1 (And.intro hL2 hL3))
  have HN := Lib.hid (And.intro hn (And.intro ha hi))
  clear h hL1 hL2 hL3 hn ha hi
  go_enter Tryz.func28, Tryz.ntmps28
  go_upto_region 2 with fail
  have hz1 : (w.alloc (.cells #[.slice M.r.A M.r.n M.r.c, .slice M.l.A M.l.n M.l.c, .slice M.p.A M.p.n M.p.c, .slice M.o.A M.o.n M.o.c, .slice M.g.A M.g.n M.g.c, .slice M.s.A M.s.n M.s.c, .slice M.m.A M.m.n M.m.c] 37)).heap.size = w.heap.size + 1 := by simp
  generalize w.alloc (.cells #[.slice M.r.A M.r.n M.r.c, .slice M.l.A M.l.n M.l.c, .slice M.p.A M.p.n M.p.c, .slice M.o.A M.o.n M.o.c, .slice M.g.A M.g.n M.g.c, .slice M.s.A M.s.n M.s.c, .slice M.m.A M.m.n M.m.c] 37) = W1 at *
  have y5 : ∀ W, Below W1.heap.size W1 W → W.cell? ⟨w.heap.size, 5, none⟩ = some (.slice M.s.A M.s.n M.s.c) := fun W hW => (HK.out.next hW).cell 5
  have y6 : ∀ W, Below W1.heap.size W1 W → W.cell? ⟨w.heap.size, 6, none⟩ = some (.slice M.m.A M.m.n M.m.c) := fun W hW => (HK.out.next hW).cell 6
  have y4 : ∀ W, Below W1.heap.size W1 W → W.cell? ⟨w.heap.size, 4, none⟩ = some (.slice M.g.A M.g.n M.g.c) := fun W hW => (HK.out.next hW).cell 4
  have Y6 := Lib.hid y6
  have Y4 := Lib.hid y4
  have z5 := y5 W1 (Below.refl _ _)
  clear y4 y5 y6
  go_wp2_with fail
  go_loopw [3, 13] (fun all iv wr => ∃ (k : Nat) (A : Option Addr) (c : Nat) (L : List Int), k ≤ M.s.n ∧ iv = .int .i64 k ∧ all = .slice A L.length c ∧ Hid (L = (x.ss.take k).map (·.2.1)) ∧ Hid (wr.ownsRow W1.heap.size 43 1 (.slice A L.length c) L.length (A32 L)) ∧ Hid (Below W1.heap.size W1 wr)) (fun _ iv _ => M.s.n - (intOf iv).toNat)
  case atStart => exact ⟨0, none, 0, [], Nat.zero_le _, rfl, rfl, Lib.hid rfl, Lib.hid (by simpa [A32] using World.ownsRow_nil _ _ _ _), Lib.hid (Below.refl _ _)⟩
  case round =>
    obtain ⟨k, A, c, L, hk, rfl, rfl, HL0, HO, HB⟩ := hrel
    rcases Nat.lt_or_ge k M.s.n with hlt | hge
    · obtain ⟨bq, oq, ⟨l1, s1, g1⟩, hA, hb, hx, hc0, hc1, hc2⟩ := ISource.cells (IR.next H.out.s (below_next HB1.out HB.out)) hlt
      have hi0 : (k : Int) < (M.s.n : Int) := by omega
      have HT : Hid (L ++ [s1] = (x.ss.take (k + 1)).map (·.2.1)) := Lib.hid (by rw [HL0.out, List.take_add_one, hx]; simp)
      have HU := Lib.hid (show isA s1 from (H.out.ok.2.2.2.2.1 _ (List.mem_of_getElem? hx)).1)
      have hLn : L.length ≤ 1000000 := by rw [HL0.out, List.length_map, List.length_take]; omega
      rw [hA]
      clear z5 hx
      go_wp2_with (at_builtin; refine wpList_app_ad rfl _ _ rfl W1.heap.size _ L.length _ rfl ((HO.out.alloc _).alloc _) _ 1 1 [s1] rfl (ar_one (blk_new2 wr _ _ _) HU.out) (by omega) (by omega) (by have := HB.out.size; simp; omega) ?_; intro v2 w2 hown2 hb2)
      obtain ⟨A2, c2, rfl, _, _⟩ := own_slice hown2
      have HO2 : Hid (w2.ownsRow W1.heap.size 43 1 (.slice A2 (L ++ [s1]).length c2) (L ++ [s1]).length (A32 (L ++ [s1]))) := Lib.hid (by simpa using hown2)
      have HB2 := Lib.hid (((HB.out.alloc HB.out.size _).alloc (by have := HB.out.size; simp; omega) _).trans hb2)
      clear hown2 hb2 hc0 hc1 hc2
      go_wp2
      go_roundw
      case rel => exact ⟨k + 1, A2, c2, L ++ [s1], hlt, by go_num, by simp, HT, HO2, HB2⟩
      case measure => simp [intOf]; omega
    · obtain rfl : k = M.s.n := by omega
      have hd : decide ((M.s.n : Int) < (M.s.n : Int)) = false := by simp
      have z6 := Y6.out wr HB.out
      go_wp2_with fail
      go_loopw [3, 27] (fun all iv wr => ∃ (k : Nat) (A : Option Addr) (c : Nat) (L : List Int), k ≤ M.m.n ∧ iv = .int .i64 k ∧ all = .slice A L.length c ∧ Hid (L = x.ss.map (·.2.1) ++ (x.ms.take k).flatMap (·.xs)) ∧ Hid (wr.ownsRow W1.heap.size 43 1 (.slice A L.length c) L.length (A32 L)) ∧ Hid (Below W1.heap.size W1 wr)) (fun _ iv _ => M.m.n - (intOf iv).toNat)
      case atStart => exact ⟨0, A, c, L, Nat.zero_le _, rfl, rfl, Lib.hid (by rw [HL0.out, ← hsn.out, List.take_length]; simp), HO, HB⟩
      case round =>
        obtain ⟨k, A, c, L, hk, rfl, rfl, HL0, HO, HB⟩ := hrel
        rcases Nat.lt_or_ge k M.m.n with hlt | hge
        · obtain ⟨bq, oq, ⟨l1, g1, o1, A1, n1, c1, ys1⟩, hA, hb, hx, hc0, hc1, hc2, hc3⟩ := IMember.cells (IR.next H.out.m (below_next HB1.out HB.out)) hlt
          have hi0 : (k : Int) < (M.m.n : Int) := by omega
          have HT : Hid (L ++ ys1 = x.ss.map (·.2.1) ++ (x.ms.take (k + 1)).flatMap (·.xs)) := Lib.hid (by rw [HL0.out, List.take_add_one, hx]; simp [List.flatMap_append])
          have hsrc := H.out.src _ (List.mem_of_getElem? hx)
          have HS := Lib.hid (hsrc.1.next (below_next HB1.out HB.out))
          have hn1 : n1 ≤ 1000000 := hsrc.2.2
          have hyl : ys1.length = n1 := hsrc.1.len
          have hLn : L.length ≤ 1000000 := by
            have := HL.out.2.1 k (by rw [hmn.out]; omega)
            have := HN.out.1
            rw [HL0.out, List.length_append, List.length_map]
            omega
          subst hyl
          clear hsrc
          rw [hA]
          clear z6 hx
          go_wp2_with (at_builtin; refine wpList_app_ad rfl _ _ rfl W1.heap.size _ L.length _ rfl (HO.out.alloc _) A1 ys1.length c1 ys1 rfl (HS.out.next ((Below.refl _ _).alloc (Nat.le_refl _) _)) (by omega) (by omega) (by have := HB.out.size; simp; omega) ?_; intro v2 w2 hown2 hb2)
          obtain ⟨A2, c2, rfl, _, _⟩ := own_slice hown2
          have HO2 : Hid (w2.ownsRow W1.heap.size 43 1 (.slice A2 (L ++ ys1).length c2) (L ++ ys1).length (A32 (L ++ ys1))) := Lib.hid (by simpa using hown2)
          have HB2 := Lib.hid ((HB.out.alloc HB.out.size _).trans hb2)
          clear hown2 hb2 hc0 hc1 hc2 hc3
          go_wp2
          go_roundw
          case rel => exact ⟨k + 1, A2, c2, L ++ ys1, hlt, by go_num, by simp, HT, HO2, HB2⟩
          case measure => simp [intOf]; omega
        · obtain rfl : k = M.m.n := by omega
          have hd : decide ((M.m.n : Int) < (M.m.n : Int)) = false := by simp
          have z4 := Y4.out wr HB.out
          go_wp2_with fail
          go_loopw [3, 39] (fun all iv wr => ∃ (k : Nat) (A : Option Addr) (c : Nat) (L : List Int), k ≤ M.g.n ∧ iv = .int .i64 k ∧ all = .slice A L.length c ∧ Hid (L = x.ss.map (·.2.1) ++ (x.ms.flatMap (·.xs) ++ (x.gs.take k).map (·.2.2))) ∧ Hid (wr.ownsRow W1.heap.size 43 1 (.slice A L.length c) L.length (A32 L)) ∧ Hid (Below W1.heap.size W1 wr)) (fun _ iv _ => M.g.n - (intOf iv).toNat)
          case atStart => exact ⟨0, A, c, L, Nat.zero_le _, rfl, rfl, Lib.hid (by rw [HL0.out, ← hmn.out, List.take_length]; simp), HO, HB⟩
          case round =>
            obtain ⟨k, A, c, L, hk, rfl, rfl, HL0, HO, HB⟩ := hrel
            rcases Nat.lt_or_ge k M.g.n with hlt | hge
            · obtain ⟨bq, oq, ⟨a1, b1, r1⟩, hA, hb, hx, hc0, hc1, hc2⟩ := IRange.cells (IR.next H.out.g (below_next HB1.out HB.out)) hlt
              have hi0 : (k : Int) < (M.g.n : Int) := by omega
              have HT : Hid (L ++ [r1] = x.ss.map (·.2.1) ++ (x.ms.flatMap (·.xs) ++ (x.gs.take (k + 1)).map (·.2.2))) := Lib.hid (by rw [HL0.out, List.take_add_one, hx]; simp)
              have HU := Lib.hid (show isA r1 from (H.out.ok.2.2.2.1 _ (List.mem_of_getElem? hx)).2)
              have hLn : L.length ≤ 1000000 := by
                have := HL.out.2.2
                have := HN.out.1
                rw [HL0.out, List.length_append, List.length_append, List.length_map, List.length_map, List.length_take]
                omega
              rw [hA]
              clear z4 hx
              go_wp2_with (at_builtin; refine wpList_app_ad rfl _ _ rfl W1.heap.size _ L.length _ rfl ((HO.out.alloc _).alloc _) _ 1 1 [r1] rfl (ar_one (blk_new2 wr _ _ _) HU.out) (by omega) (by omega) (by have := HB.out.size; simp; omega) ?_; intro v2 w2 hown2 hb2)
              obtain ⟨A2, c2, rfl, _, _⟩ := own_slice hown2
              have HO2 : Hid (w2.ownsRow W1.heap.size 43 1 (.slice A2 (L ++ [r1]).length c2) (L ++ [r1]).length (A32 (L ++ [r1]))) := Lib.hid (by simpa using hown2)
              have HB2 := Lib.hid (((HB.out.alloc HB.out.size _).alloc (by have := HB.out.size; simp; omega) _).trans hb2)
              clear hown2 hb2 hc0 hc1 hc2
              go_wp2
              go_roundw
              case rel => exact ⟨k + 1, A2, c2, L ++ [r1], hlt, by go_num, by simp, HT, HO2, HB2⟩
              case measure => simp [intOf]; omega
            · obtain rfl : k = M.g.n := by omega
              have hd : decide ((M.g.n : Int) < (M.g.n : Int)) = false := by simp
              have HLL : Hid (L = aimsP x) := Lib.hid (by rw [HL0.out, ← hgn.out, List.take_length]; rfl)
              obtain ⟨hn12, ha, hi⟩ := HN.out
              rw [← HLL.out] at hn12 ha hi
              obtain ⟨A9, c9, e9, hnc, hg9⟩ := own_slice HO.out
              cases e9
              by_cases h00 : L.length = 0
              · obtain rfl : L = [] := List.eq_nil_of_length_eq_zero h00
                clear ha hi hg9 hnc
                go_wp2_with (first
                  | (go_at_call 59; refine (sort0_any A c _).mono ?_; rintro e w3 ⟨rfl, hb3⟩; have HB3 := Lib.hid (bel2 HB.out hb3); clear hb3)
                  | (go_at_call 60
                     refine (compact_any A 0 c [] _ (AR.none_ _ _) (by decide) (fun k hk => absurd hk (by simp))).mono ?_; rintro e w4 ⟨rfl, hb4⟩; have HB4 := Lib.hid (bel2 HB3.out hb4); clear hb4))
                go_ret
                rw [← HLL.out]
                exact ⟨A, c, rfl, AR.none_ _ _, below_next HB1.out HB4.out⟩
              have hn0 : 0 < L.length := by omega
              obtain ⟨g, rfl, hbg, hgl⟩ := hg9 hn0
              have HSO := Lib.hid (sort_any W1.heap.size g L.length c L wr HO.out hn0 hn12)
              have HAI := Lib.hid (And.intro ha hi)
              clear ha hi hbg hgl hnc
              go_wp2_with (first
                | (go_at_call 59; refine HSO.out.mono ?_; rintro e w3 ⟨rfl, hS⟩; have HS3 := Lib.hid hS; clear hS)
                | (go_at_call 60
                   obtain ⟨A7, c7, e7, _, har, _⟩ := own_forma HS3.out.own HAI.out.2
                   cases e7
                   refine (compact_any _ L.length c (sortA L) _ har (by omega) HAI.out.1).mono ?_; rintro e w4 ⟨rfl, hb4⟩; have HA4 := Lib.hid (har.next hb4); have HB4 := Lib.hid (below_next (HB.out.trans (HS3.out.below HB.out.size)) hb4); clear hb4 har))
              go_ret
              rw [← HLL.out]
              exact ⟨_, c, rfl, HA4.out, below_next HB1.out HB4.out⟩
end Go.Proofs.YtjbinmjjnneilaaGreatDoor

