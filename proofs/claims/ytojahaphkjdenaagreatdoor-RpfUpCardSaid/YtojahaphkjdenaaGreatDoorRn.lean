/- rpf.aims: the addresses of a network's sources, those that its members list, its roots; sorted, each once; over the seat's program. rpf.Round: whether some way towards what may be joined, or a root, goes round; over the seat's program. rpf.Round, whole; over the seat's program. -/
import Derived.Test.YtojahaphkjdenaaGreatDoorPa
import Derived.Test.YtojahaphkjdenaaGreatDoorKa
import Derived.Test.YtojahaphkjdenaaGreatDoorCl0
import Derived.Test.YtojahaphkjdenaaGreatDoorRb
import Derived.Test.YtojahaphkjdenaaGreatDoorStr
import Derived.Test.YtojahaphkjdenaaGreatDoorGr
import Derived.Laws.AppendOwnNone
import Derived.Test.YtojahaphkjdenaaGreatDoorRc
namespace Go.Proofs.YtojahaphkjdenaaGreatDoor
open Go.RowKit Lx Sm Go.Maps
/-- append of any addresses that read as a list, nil let in, behind what the call owns -/
theorem wpList_app_ad {w : World} {ops : Array Oper} {rest : List Oper} {o : Oper} {a : Act} {Q : Exit → Act → World → Prop} (hgd : o.guard = none) (s x : Operand)
    (ho : o.op = .call { callee := .builtin .append, args := #[s, x], argTypes := #[52, 52] })
    (base : Nat) (v : Value) (n : Nat) (xs : List Int) (hs : a.eval s = v) (hown : w.ownsRow base 32 1 v n (A32 xs))
    (A : Option Addr) (m c : Nat) (ys : List Int) (hx : a.eval x = .slice A m c) (har : AR w A m ys) (hn : n ≤ 1048576) (hm : m ≤ 1048576) (hbase : base ≤ w.heap.size)
    (h : ∀ v' w', w'.ownsRow base 32 1 v' (n + m) (A32 (xs ++ ys)) → Below base w w' → wpList Tryz.prog ops Q rest (a.put o.dst v') w') : wpList Tryz.prog ops Q (o :: rest) a w := by
  obtain ⟨i, hi, hz, hsize, hby⟩ := info_parts info_u32
  have ht := Tryz.underlying52
  cases A with
  | none =>
    have h0 : m = 0 := by
      rcases Nat.eq_zero_or_pos m with h0 | h0
      · exact h0
      · obtain ⟨b, o, e, _⟩ := har.2.2 h0
        cases e
    subst h0
    obtain rfl : ys = [] := List.eq_nil_of_length_eq_zero har.len
    refine wpList_plain hgd fun K hK => ?_
    have hrun : (Builtin.append_ #[52, 52] o.type #[v, .slice none 0 c]).run Tryz.prog w = .ok v w := by
      rcases hown.2 with ⟨rfl, rfl⟩ | ⟨g, cap, cur, rfl, _, _, hnc, _⟩
      · simp [Builtin.append_, run_underlying ht, sizeOf, typeInfo, hi, Builtin.lenOf, Builtin.firstCells]
      · simp [Builtin.append_, run_underlying ht, sizeOf, typeInfo, hi, Builtin.lenOf, Builtin.firstCells, hnc, storeCells]
    unfold Oper.wp
    simp [execOp, ho, resolve, invoke, builtin, hs, hx, hrun, Result.andThen]
    exact hK _ _ (h v w (by rw [List.append_nil]; exact hown) (Below.refl _ _))
  | some ad =>
    refine wpList_append_own w hgd s x 52 ho base 32 i (.int .u32 0) 1 4 ht hi hz hsize hby rfl (by decide) v n (A32 xs) hs hown ad m c (A32 ys) hx (by rw [A32_len, har.len]; omega) ?_ (A32_one _) (by unfold maxLen; omega) (by omega) hbase ?_
    · intro j u hj
      have hjm : j < m := by
        have := (List.getElem?_eq_some_iff.1 hj).1
        rw [A32_len, har.len] at this
        exact this
      obtain ⟨b, o', e', _, hc⟩ := har.2.2 (by omega)
      cases e'
      rw [WideShapes.add_plain, hc j hjm, ← hj, A32_at (by rw [har.len]; exact hjm)]
    · intro v' w' hown' hg _
      refine h v' w' (by rw [A32_app]; exact hown') ((Below.refl _ _).grown hg hbase ?_)
      intro k hk
      exact (hown.lt k hk).1
theorem ar_one {w : World} {g : Nat} {t : TypeId} {a : Int} (h : Blk w g t #[.int .u32 a]) (ha : isA a) : AR w (some ⟨g, 0, none⟩) 1 [a] :=
  ⟨rfl, fun x hx => by simp at hx; subst hx; exact ha, fun _ => ⟨g, 0, rfl, h.lt, fun i hi => by
    have e : i = 0 := by omega
    subst e
    simpa using h.cell 0⟩⟩
/-- no two neighbours alike -/
def Apart (xs : List Int) : Prop := ∀ k, k + 1 < xs.length → xs.getD (k + 1) 0 ≠ xs.getD k 0
theorem compact_any (A : Option Addr) (n c : Nat) (xs : List Int) (w : World) (h : AR w A n xs) (hn : n ≤ 1048576) (ha : Apart xs) :
    Calls Tryz.prog 168 #[.slice A n c] w fun e w' => e = .returned (.slice A n c) ∧ Below w.heap.size w w' := by
  by_cases hs : n < 2
  · have hd : (n : Int) < 2 := by omega
    go_enter Tryz.func168, Tryz.ntmps168
    go_wp2
    go_ret
    exact ⟨rfl, Below.refl _ _⟩
  · have hd : ¬ (n : Int) < 2 := by omega
    have hd2 : decide ((n : Int) < 2) = false := by simpa using hd
    have H := Lib.hid h
    have hl := h.len
    have HA := Lib.hid ha
    clear h ha
    go_enter Tryz.func168, Tryz.ntmps168
    go_wp2
    go_loopw [3] (fun i wr => ∃ k : Nat, k + 1 ≤ n ∧ i = .int .i64 ((k : Int) + 1) ∧ Hid (Below w.heap.size w wr)) (fun i _ => n - (intOf i).toNat)
    case atStart => exact ⟨0, by omega, rfl, Lib.hid (Below.refl _ _)⟩
    case round =>
      obtain ⟨k, hk, rfl, HB⟩ := hrel
      by_cases hk1 : k + 1 < n
      · obtain ⟨b, o, rfl, hb, hc⟩ := (H.out.next HB.out).2.2 (show 0 < n by omega)
        obtain ⟨x, hx⟩ : ∃ x, xs.getD (k + 1) 0 = x := ⟨_, rfl⟩
        obtain ⟨y, hy⟩ : ∃ y, xs.getD k 0 = y := ⟨_, rfl⟩
        have hne := HA.out k (by omega)
        rw [hx, hy] at hne
        have c1 : wr.cell? ⟨b, o + (k + 1), none⟩ = some (.int .u32 x) := by rw [← hx]; exact hc (k + 1) hk1
        have c0 : wr.cell? ⟨b, o + k, none⟩ = some (.int .u32 y) := by rw [← hy]; exact hc k (by omega)
        have hxy : (x == y) = false := by simpa using hne
        have hlt : (k : Int) + 1 < (n : Int) := by omega
        have i0 : (k : Int) < (n : Int) := by omega
        clear hc hx hy hne
        go_upto_region 6 with fail
        refine wp_region_since (by kernel_rfl) (by kernel_rfl) ?_
        have d1 : ∀ p : Snc wr, p.W.cell? ⟨b, o + (k + 1), none⟩ = some (.int .u32 x) := fun p => (p.b.cell (p := ⟨b, o + (k + 1), none⟩) hb).trans c1
        have d0 : ∀ p : Snc wr, p.W.cell? ⟨b, o + k, none⟩ = some (.int .u32 y) := fun p => (p.b.cell (p := ⟨b, o + k, none⟩) hb).trans c0
        repeat (go_big_quiet_step (fail))
        refine wpQuiet_nil ?_
        rintro w5 ⟨P5, rfl⟩
        have HB5 := Lib.hid (below_next HB.out P5.b)
        clear c0 c1 d0 d1 HB
        go_wp2
        go_roundw
        case rel => exact ⟨k + 1, by omega, by go_num, HB5⟩
        case measure => simp [intOf]; omega
      · have hlt : decide ((k : Int) + 1 < (n : Int)) = false := by simp; omega
        go_wp2
        go_ret
        exact ⟨rfl, HB.out⟩
def aimsP (x : Cfg) : List Int := x.ss.map (·.2.1) ++ (x.ms.flatMap (·.xs) ++ x.gs.map (·.2.2))
theorem bel2 {W1 wr W : World} (h : Below W1.heap.size W1 wr) (hW : Below wr.heap.size wr W) : Below W1.heap.size W1 W := below_next h hW
theorem blk_new2 (w : World) (o : Obj) (t : TypeId) (cs : Array Value) : Blk ((w.alloc o).alloc (.cells cs t)) (w.heap.size + 1) t cs := by
  have := Blk.new (w.alloc o) t cs
  simpa using this
set_option maxRecDepth 100000 in
set_option maxHeartbeats 4000000 in
theorem aims_any (M : Cm) (x : Cfg) (w : World) (h : CW w M x) (hn : (aimsP x).length ≤ 12) (ha : Apart (sortA (aimsP x))) (hi : IsAs (sortA (aimsP x))) :
    Calls Tryz.prog 103 #[.agg #[.slice M.r.A M.r.n M.r.c, .slice M.l.A M.l.n M.l.c, .slice M.p.A M.p.n M.p.c, .slice M.o.A M.o.n M.o.c, .slice M.g.A M.g.n M.g.c, .slice M.s.A M.s.n M.s.c, .slice M.m.A M.m.n M.m.c]] w fun e w' => ∃ A c, e = .returned (.slice A (aimsP x).length c) ∧ AR w' A (aimsP x).length (sortA (aimsP x)) ∧ Below w.heap.size w w' := by
  have HB1 := Lib.hid ((Below.refl w.heap.size w).alloc (Nat.le_refl _) (.cells #[.slice M.r.A M.r.n M.r.c, .slice M.l.A M.l.n M.l.c, .slice M.p.A M.p.n M.p.c, .slice M.o.A M.o.n M.o.c, .slice M.g.A M.g.n M.g.c, .slice M.s.A M.s.n M.s.c, .slice M.m.A M.m.n M.m.c] 30))
  have HK := Lib.hid (Blk.new w 30 #[.slice M.r.A M.r.n M.r.c, .slice M.l.A M.l.n M.l.c, .slice M.p.A M.p.n M.p.c, .slice M.o.A M.o.n M.o.c, .slice M.g.A M.g.n M.g.c, .slice M.s.A M.s.n M.s.c, .slice M.m.A M.m.n M.m.c])
  have H := Lib.hid h
  have hsn := Lib.hid h.s.len
  have hmn := Lib.hid h.m.len
  have hgn := Lib.hid h.g.len
  have hs6 : M.s.n ≤ 1000000 := h.sok.2
  have hm6 : M.m.n ≤ 1000000 := h.mok.2
  have hg6 : M.g.n ≤ 1000000 := h.gok.2
  have hL1 : x.ss.length ≤ (aimsP x).length := by unfold aimsP; simp
  have hL2 : ∀ k, k ≤ x.ms.length → x.ss.length + ((x.ms.take k).flatMap (·.xs)).length ≤ (aimsP x).length := by
    intro k hk
    have e : x.ms.flatMap (·.xs) = (x.ms.take k).flatMap (·.xs) ++ (x.ms.drop k).flatMap (·.xs) := by rw [← List.flatMap_append, List.take_append_drop]
    unfold aimsP
    rw [e, List.length_append, List.length_append, List.length_append, List.length_map]
    omega
  have hL3 : (aimsP x).length = x.ss.length + (x.ms.flatMap (·.xs)).length + x.gs.length := by unfold aimsP; rw [List.length_append, List.length_append, List.length_map, List.length_map]; omega
  have HL := Lib.hid (And.intro hL1 (And.intro hL2 hL3))
  have HN := Lib.hid (And.intro hn (And.intro ha hi))
  clear h hL1 hL2 hL3 hn ha hi
  go_enter Tryz.func103, Tryz.ntmps103
  go_upto_region 2 with fail
  have hz1 : (w.alloc (.cells #[.slice M.r.A M.r.n M.r.c, .slice M.l.A M.l.n M.l.c, .slice M.p.A M.p.n M.p.c, .slice M.o.A M.o.n M.o.c, .slice M.g.A M.g.n M.g.c, .slice M.s.A M.s.n M.s.c, .slice M.m.A M.m.n M.m.c] 30)).heap.size = w.heap.size + 1 := by simp
  generalize w.alloc (.cells #[.slice M.r.A M.r.n M.r.c, .slice M.l.A M.l.n M.l.c, .slice M.p.A M.p.n M.p.c, .slice M.o.A M.o.n M.o.c, .slice M.g.A M.g.n M.g.c, .slice M.s.A M.s.n M.s.c, .slice M.m.A M.m.n M.m.c] 30) = W1 at *
  have y5 : ∀ W, Below W1.heap.size W1 W → W.cell? ⟨w.heap.size, 5, none⟩ = some (.slice M.s.A M.s.n M.s.c) := fun W hW => (HK.out.next hW).cell 5
  have y6 : ∀ W, Below W1.heap.size W1 W → W.cell? ⟨w.heap.size, 6, none⟩ = some (.slice M.m.A M.m.n M.m.c) := fun W hW => (HK.out.next hW).cell 6
  have y4 : ∀ W, Below W1.heap.size W1 W → W.cell? ⟨w.heap.size, 4, none⟩ = some (.slice M.g.A M.g.n M.g.c) := fun W hW => (HK.out.next hW).cell 4
  have Y6 := Lib.hid y6
  have Y4 := Lib.hid y4
  have z5 := y5 W1 (Below.refl _ _)
  clear y4 y5 y6
  go_wp2_with fail
  go_loopw [3, 13] (fun all iv wr => ∃ (k : Nat) (A : Option Addr) (c : Nat) (L : List Int), k ≤ M.s.n ∧ iv = .int .i64 k ∧ all = .slice A L.length c ∧ Hid (L = (x.ss.take k).map (·.2.1)) ∧ Hid (wr.ownsRow W1.heap.size 32 1 (.slice A L.length c) L.length (A32 L)) ∧ Hid (Below W1.heap.size W1 wr)) (fun _ iv _ => M.s.n - (intOf iv).toNat)
  case atStart => exact ⟨0, none, 0, [], Nat.zero_le _, rfl, rfl, Lib.hid rfl, Lib.hid (by simpa [A32] using World.ownsRow_nil _ _ _ _), Lib.hid (Below.refl _ _)⟩
  case round =>
    obtain ⟨k, A, c, L, hk, rfl, rfl, HL0, HO, HB⟩ := hrel
    rcases Nat.lt_or_ge k M.s.n with hlt | hge
    · obtain ⟨bq, oq, ⟨l1, s1, g1⟩, hA, hb, hx, hc0, hc1, hc2⟩ := ISource.cells (IR.next H.out.s (below_next HB1.out HB.out)) hlt
      have hi0 : (k : Int) < (M.s.n : Int) := by omega
      have HT : Hid (L ++ [s1] = (x.ss.take (k + 1)).map (·.2.1)) := Lib.hid (by rw [HL0.out, List.take_add_one, hx]; simp)
      have HU := Lib.hid (show isA s1 from (H.out.ok.2.2.2.2.1 _ (List.mem_of_getElem? hx)).1)
      have hLn : L.length ≤ 1000000 := by rw [HL0.out, List.length_map, List.length_take]; omega
      rw [hA]
      clear z5 hx
      go_wp2_with (at_builtin; refine wpList_app_ad rfl _ _ rfl W1.heap.size _ L.length _ rfl ((HO.out.alloc _).alloc _) _ 1 1 [s1] rfl (ar_one (blk_new2 wr _ _ _) HU.out) (by omega) (by omega) (by have := HB.out.size; simp; omega) ?_; intro v2 w2 hown2 hb2)
      obtain ⟨A2, c2, rfl, _, _⟩ := own_slice hown2
      have HO2 : Hid (w2.ownsRow W1.heap.size 32 1 (.slice A2 (L ++ [s1]).length c2) (L ++ [s1]).length (A32 (L ++ [s1]))) := Lib.hid (by simpa using hown2)
      have HB2 := Lib.hid (((HB.out.alloc HB.out.size _).alloc (by have := HB.out.size; simp; omega) _).trans hb2)
      clear hown2 hb2 hc0 hc1 hc2
      go_wp2
      go_roundw
      case rel => exact ⟨k + 1, A2, c2, L ++ [s1], hlt, by go_num, by simp, HT, HO2, HB2⟩
      case measure => simp [intOf]; omega
    · obtain rfl : k = M.s.n := by omega
      have hd : decide ((M.s.n : Int) < (M.s.n : Int)) = false := by simp
      have z6 := Y6.out wr HB.out
      go_wp2_with fail
      go_loopw [3, 27] (fun all iv wr => ∃ (k : Nat) (A : Option Addr) (c : Nat) (L : List Int), k ≤ M.m.n ∧ iv = .int .i64 k ∧ all = .slice A L.length c ∧ Hid (L = x.ss.map (·.2.1) ++ (x.ms.take k).flatMap (·.xs)) ∧ Hid (wr.ownsRow W1.heap.size 32 1 (.slice A L.length c) L.length (A32 L)) ∧ Hid (Below W1.heap.size W1 wr)) (fun _ iv _ => M.m.n - (intOf iv).toNat)
      case atStart => exact ⟨0, A, c, L, Nat.zero_le _, rfl, rfl, Lib.hid (by rw [HL0.out, ← hsn.out, List.take_length]; simp), HO, HB⟩
      case round =>
        obtain ⟨k, A, c, L, hk, rfl, rfl, HL0, HO, HB⟩ := hrel
        rcases Nat.lt_or_ge k M.m.n with hlt | hge
        · obtain ⟨bq, oq, ⟨l1, g1, o1, A1, n1, c1, ys1⟩, hA, hb, hx, hc0, hc1, hc2, hc3⟩ := IMember.cells (IR.next H.out.m (below_next HB1.out HB.out)) hlt
          have hi0 : (k : Int) < (M.m.n : Int) := by omega
          have HT : Hid (L ++ ys1 = x.ss.map (·.2.1) ++ (x.ms.take (k + 1)).flatMap (·.xs)) := Lib.hid (by rw [HL0.out, List.take_add_one, hx]; simp [List.flatMap_append])
          have hsrc := H.out.src _ (List.mem_of_getElem? hx)
          have HS := Lib.hid (hsrc.1.next (below_next HB1.out HB.out))
          have hn1 : n1 ≤ 1000000 := hsrc.2.2
          have hyl : ys1.length = n1 := hsrc.1.len
          have hLn : L.length ≤ 1000000 := by
            have := HL.out.2.1 k (by rw [hmn.out]; omega)
            have := HN.out.1
            rw [HL0.out, List.length_append, List.length_map]
            omega
          subst hyl
          clear hsrc
          rw [hA]
          clear z6 hx
          go_wp2_with (at_builtin; refine wpList_app_ad rfl _ _ rfl W1.heap.size _ L.length _ rfl (HO.out.alloc _) A1 ys1.length c1 ys1 rfl (HS.out.next ((Below.refl _ _).alloc (Nat.le_refl _) _)) (by omega) (by omega) (by have := HB.out.size; simp; omega) ?_; intro v2 w2 hown2 hb2)
          obtain ⟨A2, c2, rfl, _, _⟩ := own_slice hown2
          have HO2 : Hid (w2.ownsRow W1.heap.size 32 1 (.slice A2 (L ++ ys1).length c2) (L ++ ys1).length (A32 (L ++ ys1))) := Lib.hid (by simpa using hown2)
          have HB2 := Lib.hid ((HB.out.alloc HB.out.size _).trans hb2)
          clear hown2 hb2 hc0 hc1 hc2 hc3
          go_wp2
          go_roundw
          case rel => exact ⟨k + 1, A2, c2, L ++ ys1, hlt, by go_num, by simp, HT, HO2, HB2⟩
          case measure => simp [intOf]; omega
        · obtain rfl : k = M.m.n := by omega
          have hd : decide ((M.m.n : Int) < (M.m.n : Int)) = false := by simp
          have z4 := Y4.out wr HB.out
          go_wp2_with fail
          go_loopw [3, 39] (fun all iv wr => ∃ (k : Nat) (A : Option Addr) (c : Nat) (L : List Int), k ≤ M.g.n ∧ iv = .int .i64 k ∧ all = .slice A L.length c ∧ Hid (L = x.ss.map (·.2.1) ++ (x.ms.flatMap (·.xs) ++ (x.gs.take k).map (·.2.2))) ∧ Hid (wr.ownsRow W1.heap.size 32 1 (.slice A L.length c) L.length (A32 L)) ∧ Hid (Below W1.heap.size W1 wr)) (fun _ iv _ => M.g.n - (intOf iv).toNat)
          case atStart => exact ⟨0, A, c, L, Nat.zero_le _, rfl, rfl, Lib.hid (by rw [HL0.out, ← hmn.out, List.take_length]; simp), HO, HB⟩
          case round =>
            obtain ⟨k, A, c, L, hk, rfl, rfl, HL0, HO, HB⟩ := hrel
            rcases Nat.lt_or_ge k M.g.n with hlt | hge
            · obtain ⟨bq, oq, ⟨a1, b1, r1⟩, hA, hb, hx, hc0, hc1, hc2⟩ := IRange.cells (IR.next H.out.g (below_next HB1.out HB.out)) hlt
              have hi0 : (k : Int) < (M.g.n : Int) := by omega
              have HT : Hid (L ++ [r1] = x.ss.map (·.2.1) ++ (x.ms.flatMap (·.xs) ++ (x.gs.take (k + 1)).map (·.2.2))) := Lib.hid (by rw [HL0.out, List.take_add_one, hx]; simp)
              have HU := Lib.hid (show isA r1 from (H.out.ok.2.2.2.1 _ (List.mem_of_getElem? hx)).2)
              have hLn : L.length ≤ 1000000 := by
                have := HL.out.2.2
                have := HN.out.1
                rw [HL0.out, List.length_append, List.length_append, List.length_map, List.length_map, List.length_take]
                omega
              rw [hA]
              clear z4 hx
              go_wp2_with (at_builtin; refine wpList_app_ad rfl _ _ rfl W1.heap.size _ L.length _ rfl ((HO.out.alloc _).alloc _) _ 1 1 [r1] rfl (ar_one (blk_new2 wr _ _ _) HU.out) (by omega) (by omega) (by have := HB.out.size; simp; omega) ?_; intro v2 w2 hown2 hb2)
              obtain ⟨A2, c2, rfl, _, _⟩ := own_slice hown2
              have HO2 : Hid (w2.ownsRow W1.heap.size 32 1 (.slice A2 (L ++ [r1]).length c2) (L ++ [r1]).length (A32 (L ++ [r1]))) := Lib.hid (by simpa using hown2)
              have HB2 := Lib.hid (((HB.out.alloc HB.out.size _).alloc (by have := HB.out.size; simp; omega) _).trans hb2)
              clear hown2 hb2 hc0 hc1 hc2
              go_wp2
              go_roundw
              case rel => exact ⟨k + 1, A2, c2, L ++ [r1], hlt, by go_num, by simp, HT, HO2, HB2⟩
              case measure => simp [intOf]; omega
            · obtain rfl : k = M.g.n := by omega
              have hd : decide ((M.g.n : Int) < (M.g.n : Int)) = false := by simp
              have HLL : Hid (L = aimsP x) := Lib.hid (by rw [HL0.out, ← hgn.out, List.take_length]; rfl)
              obtain ⟨hn12, ha, hi⟩ := HN.out
              rw [← HLL.out] at hn12 ha hi
              obtain ⟨A9, c9, e9, hnc, hg9⟩ := own_slice HO.out
              cases e9
              by_cases h00 : L.length = 0
              · obtain rfl : L = [] := List.eq_nil_of_length_eq_zero h00
                clear ha hi hg9 hnc
                go_wp2_with (first
                  | (go_at_call 167; refine (sort0_any A c _).mono ?_; rintro e w3 ⟨rfl, hb3⟩; have HB3 := Lib.hid (bel2 HB.out hb3); clear hb3)
                  | (go_at_call 168
                     refine (compact_any A 0 c [] _ (AR.none_ _ _) (by decide) (fun k hk => absurd hk (by simp))).mono ?_; rintro e w4 ⟨rfl, hb4⟩; have HB4 := Lib.hid (bel2 HB3.out hb4); clear hb4))
                go_ret
                rw [← HLL.out]
                exact ⟨A, c, rfl, AR.none_ _ _, below_next HB1.out HB4.out⟩
              have hn0 : 0 < L.length := by omega
              obtain ⟨g, rfl, hbg, hgl⟩ := hg9 hn0
              have HSO := Lib.hid (sort_any W1.heap.size g L.length c L wr HO.out hn0 (by omega))
              have HAI := Lib.hid (And.intro ha hi)
              clear ha hi hbg hgl hnc
              go_wp2_with (first
                | (go_at_call 167; refine HSO.out.mono ?_; rintro e w3 ⟨rfl, hS⟩; have HS3 := Lib.hid hS; clear hS)
                | (go_at_call 168
                   obtain ⟨A7, c7, e7, _, har, _⟩ := own_forma HS3.out.own HAI.out.2
                   cases e7
                   refine (compact_any _ L.length c (sortA L) _ har (by omega) HAI.out.1).mono ?_; rintro e w4 ⟨rfl, hb4⟩; have HA4 := Lib.hid (har.next hb4); have HB4 := Lib.hid (below_next (HB.out.trans (HS3.out.below HB.out.size)) hb4); clear hb4 har))
              go_ret
              rw [← HLL.out]
              exact ⟨_, c, rfl, HA4.out, below_next HB1.out HB4.out⟩
end Go.Proofs.YtojahaphkjdenaaGreatDoor
namespace Go.Proofs.YtojahaphkjdenaaGreatDoor
open Go.RowKit Lx Sm Go.Maps
/-- who is next to each router, as many as were asked -/
def nxR (x : Cfg) (a : Int) (k : Nat) : List Int := (List.range x.rs.length).map fun q : Nat => if q < k then nextP x (q : Int) a else 0
theorem nxR_len (x : Cfg) (a : Int) (k : Nat) : (nxR x a k).length = x.rs.length := by simp [nxR]
theorem nxR_set (x : Cfg) (a : Int) (k : Nat) (hk : k < x.rs.length) : (I64 (nxR x a k)).set k (.int .i64 (nextP x (k : Int) a)) = I64 (nxR x a (k + 1)) := by
  apply List.ext_getElem?
  intro i
  rw [List.getElem?_set]
  simp only [I64, nxR, List.length_map, List.length_range, List.getElem?_map]
  rcases Nat.lt_or_ge i x.rs.length with hi | hi
  · rw [List.getElem?_range hi]
    simp only [Option.map_some]
    by_cases h : k = i
    · subst h; simp [hk]
    · rw [if_neg h]
      by_cases h2 : i < k
      · rw [if_pos h2, if_pos (by omega)]
      · rw [if_neg h2, if_neg (by omega)]
  · rw [List.getElem?_eq_none (by simpa using hi)]
    simp
    omega
theorem nxR_at (x : Cfg) (a : Int) (q : Nat) (hq : q < x.rs.length) : (nxR x a x.rs.length).getD q 0 = nextP x (q : Int) a := by
  rw [List.getD_eq_getElem?_getD]
  simp [nxR, hq]
/-- whether some way towards an address goes round -/
def roundP (x : Cfg) (a : Int) (m : Nat) : Bool := (List.range m).any fun q : Nat => (wlkP (fun r => nextP x r a) (x.rs.length + 1) [] (q : Int)).2
theorem bel {g : Nat} {W1 wr W : World} (hg : W1.heap.size = g) (h : Below g W1 wr) (hW : Below wr.heap.size wr W) : Below g W1 W := by subst hg; exact below_next h hW
theorem rs_store {W1 W : World} {g N7 cb k m : Nat} {x y : Option Value} {t : TypeId} {ys : List Value} (ho : W.ownsRow g t 1 (.slice (some ⟨g, 0, none⟩) m m) m ys) (h1 : W.cell? ⟨cb, 2, none⟩ = x) (h2 : W.cell? ⟨N7, 0, none⟩ = y) (hb : Below g W1 W) (hcb : cb ≠ g) (hN : N7 ≠ g) (v : Value) :
    (W.setCell ⟨g, k, none⟩ v).cell? ⟨cb, 2, none⟩ = x ∧ (W.setCell ⟨g, k, none⟩ v).cell? ⟨N7, 0, none⟩ = y ∧ (W.setCell ⟨g, k, none⟩ v).frozen? ⟨g, k, none⟩ = false ∧ Below g W1 (W.setCell ⟨g, k, none⟩ v) :=
  ⟨(World.cell?_of_block (a := ⟨cb, 2, none⟩) (Below.heap_setCell W ⟨g, k, none⟩ v cb hcb)).trans h1, (World.cell?_of_block (a := ⟨N7, 0, none⟩) (Below.heap_setCell W ⟨g, k, none⟩ v N7 hN)).trans h2, (ho.stored k v).1.frozenAt k, hb.setCell (by simp) v⟩
section
variable {b : Nat} {T : TP} {x : Cfg} {gs : List Int}
theorem rt1_any (N n g c : Nat) (ys : List Int) (t : TypeId) (q : Nat) (w : World) (hq : q < n) (hb : Blk w N t #[.slice (some ⟨g, 0, none⟩) n c]) (hj : JR w (some ⟨g, 0, none⟩) n ys) :
    Calls Tryz.prog 169 #[.int .i64 (q : Int), .pointer (some ⟨N, 0, none⟩)] w fun e w' => e = .returned (.int .i64 (ys.getD q 0)) ∧ Below w.heap.size w w' := by
  have c0 : w.cell? ⟨N, 0, none⟩ = some (.slice (some ⟨g, 0, none⟩) n c) := hb.cell 0
  obtain ⟨b, o, e, _, c1⟩ := hj.at_ hq
  cases e
  have i0 : (q : Int) < (n : Int) := by omega
  rw [Nat.zero_add] at c1
  go_enter Tryz.func169, Tryz.ntmps169
  go_wp2
  go_ret
  exact ⟨rfl, Below.refl _ _⟩
set_option maxHeartbeats 8000000 in
set_option maxRecDepth 100000 in
theorem roundTo_any (M : Cm) (a : Int) (ha : U32 a) (w : World) (h : TW w b T x gs) (hp : IPort w M.p.A M.p.n x.ps) (hr : M.r.n = x.rs.length) (hrn : ∀ y ∈ x.rs, (str y.1).size ≤ 281474976710656) (hln : ∀ y ∈ x.ls, (str y.1).size ≤ 281474976710656) (hok : RibOK x) (hpo : ∀ y ∈ x.ps, 0 ≤ y.1 ∧ y.1 < x.rs.length) (hr6 : x.rs.length ≤ 1000) :
    Calls Tryz.prog 105 #[.pointer (some ⟨T.N, 0, none⟩), .agg #[.slice M.r.A M.r.n M.r.c, .slice M.l.A M.l.n M.l.c, .slice M.p.A M.p.n M.p.c, .slice M.o.A M.o.n M.o.c, .slice M.g.A M.g.n M.g.c, .slice M.s.A M.s.n M.s.c, .slice M.m.A M.m.n M.m.c], .int .u32 a] w fun e w' => e = .returned (.bool (roundP x a x.rs.length)) ∧ Below w.heap.size w w' := by
  have HB1 := Lib.hid ((Below.refl w.heap.size w).alloc (Nat.le_refl _) (.cells #[.slice M.r.A M.r.n M.r.c, .slice M.l.A M.l.n M.l.c, .slice M.p.A M.p.n M.p.c, .slice M.o.A M.o.n M.o.c, .slice M.g.A M.g.n M.g.c, .slice M.s.A M.s.n M.s.c, .slice M.m.A M.m.n M.m.c] 30))
  have HK := Lib.hid (Blk.new w 30 #[.slice M.r.A M.r.n M.r.c, .slice M.l.A M.l.n M.l.c, .slice M.p.A M.p.n M.p.c, .slice M.o.A M.o.n M.o.c, .slice M.g.A M.g.n M.g.c, .slice M.s.A M.s.n M.s.c, .slice M.m.A M.m.n M.m.c])
  have HN := Lib.hid fun q W (hW : Below w.heap.size w W) => next_any M.p.A M.p.n M.p.c q a ha W (h.next hW) (IR.next hp hW) hrn hln hok
  have HNI := Lib.hid (nextP_in (x := x) (a := a) hpo)
  obtain ⟨i0, hi, hz0, hz1, hz2⟩ := info_parts info_int
  clear h hp hrn hln hok hpo
  rw [hr] at HB1 HK ⊢
  generalize hm : x.rs.length = m at *
  go_enter Tryz.func105, Tryz.ntmps105
  go_upto_region 1 with fail
  have hcb : w.heap.size < (w.alloc (.cells #[.slice M.r.A m M.r.c, .slice M.l.A M.l.n M.l.c, .slice M.p.A M.p.n M.p.c, .slice M.o.A M.o.n M.o.c, .slice M.g.A M.g.n M.g.c, .slice M.s.A M.s.n M.s.c, .slice M.m.A M.m.n M.m.c] 30)).heap.size := by simp
  generalize w.alloc (.cells #[.slice M.r.A m M.r.c, .slice M.l.A M.l.n M.l.c, .slice M.p.A M.p.n M.p.c, .slice M.o.A M.o.n M.o.c, .slice M.g.A M.g.n M.g.c, .slice M.s.A M.s.n M.s.c, .slice M.m.A M.m.n M.m.c] 30) = W1 at *
  have y0 := (HK.out).cell 0
  have y2 : ∀ W, Below W1.heap.size W1 W → W.cell? ⟨w.heap.size, 2, none⟩ = some (.slice M.p.A M.p.n M.p.c) := fun W hW => (HK.out.next hW).cell 2
  have Y2 := Lib.hid y2
  clear y2
  simp only [List.getElem?_toArray, List.getElem?_cons_zero] at y0
  go_wp2_with (at_make; refine wpList_make_full _ rfl _ _ 45 rfl W1.heap.size 3 i0 (.int .i64 0) 1 Tryz.underlying45 hi hz0 hz1 .i64 .i64 (m : Int) (m : Int) m rfl rfl rfl rfl (by rw [hz2]; omega) (by unfold maxLen; omega) (Nat.le_refl _) ?_; intro w2 hown hgrow)
  have hb2 : Below W1.heap.size W1 w2 := (Below.refl _ _).grown hgrow (Nat.le_refl _) (by intro j hj; cases hj)
  have hg2 : W1.heap.size < w2.heap.size := (hown.lt W1.heap.size rfl).2
  have hrow0 : w2.ownsRow W1.heap.size 3 1 (.slice (some ⟨W1.heap.size, 0, none⟩) m m) m (I64 (nxR x a 0)) := by
    have e : (madeCells (Value.int .i64 0).cells (m * 1)).toList = I64 (nxR x a 0) := by
      have e1 : (Value.int .i64 0).cells = #[.int .i64 0] := rfl
      rw [e1, toList_madeCells_one]
      apply List.ext_getElem?
      intro i
      simp only [I64, nxR, hm, List.getElem?_replicate, List.getElem?_map]
      rcases Nat.lt_or_ge i m with hi | hi
      · simp [hi]
      · simp [Nat.not_lt.2 hi]
    rw [← e]; exact hown
  have HN7 := Lib.hid (Blk.new w2 45 #[.slice (some ⟨W1.heap.size, 0, none⟩) m m])
  have HR0 := Lib.hid (hrow0.alloc (.cells #[.slice (some ⟨W1.heap.size, 0, none⟩) m m] 45))
  have HB3 := Lib.hid (hb2.alloc hb2.size (.cells #[.slice (some ⟨W1.heap.size, 0, none⟩) m m] 45))
  generalize w2.alloc (.cells #[.slice (some ⟨W1.heap.size, 0, none⟩) m m] 45) = W3 at *
  generalize w2.heap.size = N7 at *
  generalize hg : W1.heap.size = g at *
  have HM : Hid (m ≤ 1000 ∧ x.rs.length = m) := Lib.hid ⟨hr6, hm⟩
  clear hown hgrow hb2 hrow0 y0
  go_loopw [18] (fun iv wr => ∃ k : Nat, k ≤ m ∧ iv = .int .i64 k ∧ Hid (wr.ownsRow g 3 1 (.slice (some ⟨g, 0, none⟩) m m) m (I64 (nxR x a k))) ∧ Hid (Blk wr N7 45 #[.slice (some ⟨g, 0, none⟩) m m]) ∧ Hid (Below g W1 wr)) (fun iv _ => m - (intOf iv).toNat)
  case atStart => exact ⟨0, Nat.zero_le _, rfl, HR0, HN7, HB3⟩
  case round =>
    obtain ⟨k, hk, rfl, HO, HV, HB⟩ := hrel
    rcases Nat.lt_or_ge k m with hlt | hge
    · have hi0 : (k : Int) < (m : Int) := by omega
      have y2 : ∀ W, Below wr.heap.size wr W → W.cell? ⟨w.heap.size, 2, none⟩ = some (.slice M.p.A M.p.n M.p.c) := fun W hW => Y2.out W (bel hg HB.out hW)
      have y7 : ∀ W, Below wr.heap.size wr W → W.cell? ⟨N7, 0, none⟩ = some (.slice (some ⟨g, 0, none⟩) m m) := fun W hW => (HV.out.next hW).cell 0
      have yf : ∀ W, Below wr.heap.size wr W → W.frozen? ⟨g, k, none⟩ = false := fun W hW => (own_next HO.out hW).frozenAt k
      have hne : w.heap.size ≠ g := by omega
      have hne7 : N7 ≠ g := by omega
      have HNX := Lib.hid fun W (hW : Below wr.heap.size wr W) => HN.out (k : Int) W (below_next HB1.out (by rw [hg]; exact bel hg HB.out hW))
      have HA : Hid (∀ w1, Below wr.drew.heap.size wr.drew w1 → w1.ownsRow g 3 1 (.slice (some ⟨g, 0, none⟩) m m) m (I64 (nxR x a k)) ∧ Blk w1 N7 45 #[.slice (some ⟨g, 0, none⟩) m m] ∧ (w1.cell? ⟨w.heap.size, 2, none⟩ = some (.slice M.p.A M.p.n M.p.c) ∧ w1.cell? ⟨N7, 0, none⟩ = some (.slice (some ⟨g, 0, none⟩) m m) ∧ w1.frozen? ⟨g, k, none⟩ = false ∧ Below g W1 w1) ∧ ((w1.setCell ⟨g, k, none⟩ (.int .i64 (nextP x (k : Int) a))).cell? ⟨w.heap.size, 2, none⟩ = some (.slice M.p.A M.p.n M.p.c) ∧ (w1.setCell ⟨g, k, none⟩ (.int .i64 (nextP x (k : Int) a))).cell? ⟨N7, 0, none⟩ = some (.slice (some ⟨g, 0, none⟩) m m) ∧ (w1.setCell ⟨g, k, none⟩ (.int .i64 (nextP x (k : Int) a))).frozen? ⟨g, k, none⟩ = false ∧ Below g W1 (w1.setCell ⟨g, k, none⟩ (.int .i64 (nextP x (k : Int) a)))) ∧ w1.cell? ⟨g, k, none⟩ = some (.int .i64 ((nxR x a k).getD k 0))) := Lib.hid fun w1 hb1 => by
        have ho1 := own_next (own_next HO.out (Below.refl _ _).drew) hb1
        have hv1 := Blk.next (Blk.drew HV.out) hb1
        have hb : Below wr.heap.size wr w1 := (Below.refl _ _).drew.trans hb1
        refine ⟨ho1, hv1, ⟨y2 _ hb, y7 _ hb, yf _ hb, bel hg HB.out hb⟩, rs_store ho1 (y2 _ hb) (y7 _ hb) (bel hg HB.out hb) hne hne7 _, by
          rw [ho1.cellAt k (by omega)]
          have hkl : k < (nxR x a k).length := by rw [nxR_len, HM.out.2]; exact hlt
          simp [I64, List.getD, List.getElem?_eq_getElem hkl]⟩
      go_upto_region 5 with fail
      go_region_held3 (fun w' => w'.cell? ⟨w.heap.size, 2, none⟩ = some (.slice M.p.A M.p.n M.p.c) ∧ w'.cell? ⟨N7, 0, none⟩ = some (.slice (some ⟨g, 0, none⟩) m m) ∧ w'.frozen? ⟨g, k, none⟩ = false ∧ Below g W1 w')
        (first | assumption | exact ⟨y2 _ (Below.refl _ _).drew, y7 _ (Below.refl _ _).drew, yf _ (Below.refl _ _).drew, HB.out.drew⟩ | exact HS1.out.2.2.1 | exact HS1.out.2.2.2.1)
        (first
        | (go_at_call 99; refine (HNX.out _ (Below.refl _ _).drew).mono ?_; rintro e w1 ⟨rfl, hb1⟩
           have HS1 := Lib.hid (HA.out w1 hb1); have hc1 := HS1.out.2.2.2.2; clear hb1))
      have HOn : Hid ((w1.setCell ⟨g, k, none⟩ (.int .i64 (nextP x (k : Int) a))).ownsRow g 3 1 (.slice (some ⟨g, 0, none⟩) m m) m (I64 (nxR x a (k + 1)))) := Lib.hid (by
        rw [← nxR_set x a k (by rw [HM.out.2]; exact hlt)]
        exact (HS1.out.1.stored k _).1)
      have HVn := Lib.hid (HS1.out.2.1.far (p := ⟨g, k, none⟩) hne7 (.int .i64 (nextP x (k : Int) a)))
      have HBn := Lib.hid HS1.out.2.2.2.1.2.2.2
      clear hc1 y2 y7 yf
      generalize w1.setCell ⟨g, k, none⟩ (.int .i64 (nextP x (k : Int) a)) = w4 at *
      go_wp2
      go_roundw
      case rel => exact ⟨k + 1, hlt, by go_num, HOn, HVn, HBn⟩
      case measure => simp [intOf]; omega
    · obtain rfl : k = m := by omega
      have hd : decide ((k : Int) < (k : Int)) = false := by simp
      have y7 : wr.cell? ⟨N7, 0, none⟩ = some (.slice (some ⟨g, 0, none⟩) k k) := HV.out.cell 0
      have HJ : Hid (JR wr (some ⟨g, 0, none⟩) k (nxR x a k)) := Lib.hid (by
        have hl := nxR_len x a k
        rw [HM.out.2] at hl
        have hO := HO.out
        obtain ⟨A, c, e, hj⟩ := own_jr (w := wr) (xs := nxR x a k) (v := .slice (some ⟨g, 0, none⟩) k k) (by rw [hl]; exact hO)
        injection e with e1 e2 e3
        subst e1
        rw [hl] at hj
        exact hj)
      have HAT : Hid (∀ q : Nat, q < k → (nxR x a k).getD q 0 = nextP x (q : Int) a) := Lib.hid fun q hq => by
        have := nxR_at x a q (by rw [HM.out.2]; exact hq)
        rw [HM.out.2] at this
        exact this
      have HRP : Hid (roundP x a k = (List.range k).any fun q : Nat => (wlkP (fun r => nextP x r a) (k + 1) [] (q : Int)).2) := Lib.hid (by unfold roundP; rw [HM.out.2])
      have HWK : Hid (∀ W (q : Nat), q < k → Below wr.heap.size wr W → Calls Tryz.prog 97 #[.int .i64 (q : Int), .func (.func 169) #[] #[.pointer (some ⟨N7, 0, none⟩)]] W fun e w' => ∃ A c, e = .returned (.tuple #[.slice A (wlkP (fun r => nextP x r a) (k + 1) [] (q : Int)).1.length c, .bool (wlkP (fun r => nextP x r a) (k + 1) [] (q : Int)).2]) ∧ Below W.heap.size W w') := Lib.hid fun W q hq hW => by
        refine (pwalk_any 169 #[.pointer (some ⟨N7, 0, none⟩)] (by intros; rfl) (fun r => nextP x r a) k (by have := HM.out.1; omega) (q : Int) W (.inr (by omega)) (fun r _ _ => HNI.out r) (fun W2 r h0 h1 hW2 => ?_)).mono ?_
        · obtain ⟨r', rfl⟩ := Int.eq_ofNat_of_zero_le h0
          have hr' : r' < k := by omega
          have := rt1_any N7 k g k (nxR x a k) 45 r' W2 hr' (HV.out.next (below_next hW hW2)) (HJ.out.next (below_next hW hW2))
          rw [HAT.out r' hr'] at this
          exact this
        · rintro e w' ⟨A, c, h1, _, h3⟩
          exact ⟨A, c, h1, h3⟩
      clear HO
      go_wp2_with fail
      go_loopw [33] (fun iv wq => ∃ j : Nat, j ≤ k ∧ iv = .int .i64 j ∧ Hid (∀ q : Nat, q < j → (wlkP (fun r => nextP x r a) (k + 1) [] (q : Int)).2 = false) ∧ Hid (Below wr.heap.size wr wq)) (fun iv _ => k - (intOf iv).toNat)
      case atStart => exact ⟨0, Nat.zero_le _, rfl, Lib.hid (fun q hq => by omega), Lib.hid (Below.refl _ _)⟩
      case round =>
        obtain ⟨j, hj, rfl, HF, HBq⟩ := hrel
        rcases Nat.lt_or_ge j k with hjl | hjg
        · have hji : (j : Int) < (k : Int) := by omega
          have HC := Lib.hid (HWK.out wr j hjl HBq.out)
          clear y7
          cases hag : (wlkP (fun r => nextP x r a) (k + 1) [] (j : Int)).2 with
          | true =>
            have HR : Hid (roundP x a k = true) := Lib.hid (by rw [HRP.out, List.any_eq_true]; exact ⟨j, List.mem_range.2 hjl, hag⟩)
            rw [hag] at HC
            clear hag
            go_wp2_with (go_at_call 97; refine HC.out.mono ?_; rintro e w5 ⟨A5, c5, rfl, hb5⟩; have HB5 := Lib.hid (bel hg HB.out (below_next HBq.out hb5)); clear hb5)
            go_ret
            rw [HR.out]
            exact ⟨rfl, HB1.out.trans (HB5.out.mono (by omega))⟩
          | false =>
            have HF2 : Hid (∀ q : Nat, q < j + 1 → (wlkP (fun r => nextP x r a) (k + 1) [] (q : Int)).2 = false) := Lib.hid fun q hq => by
              by_cases h : q = j
              · subst h; exact hag
              · exact HF.out q (by omega)
            rw [hag] at HC
            clear hag
            go_wp2_with (go_at_call 97; refine HC.out.mono ?_; rintro e w5 ⟨A5, c5, rfl, hb5⟩; have HB5 := Lib.hid (below_next HBq.out hb5); clear hb5)
            go_roundw
            case rel => exact ⟨j + 1, by omega, by go_num, HF2, HB5⟩
            case measure => simp [intOf]; omega
        · obtain rfl : j = k := by omega
          have hd2 : decide ((j : Int) < (j : Int)) = false := by simp
          have HR : Hid (roundP x a j = false) := Lib.hid (by
            rw [HRP.out, List.any_eq_false]
            intro q hq
            rw [HF.out q (List.mem_range.1 hq)]
            exact Bool.false_ne_true)
          go_wp2
          go_ret
          rw [HR.out]
          exact ⟨rfl, HB1.out.trans ((bel hg HB.out HBq.out).mono (by omega))⟩
end
end Go.Proofs.YtojahaphkjdenaaGreatDoor
namespace Go.Proofs.YtojahaphkjdenaaGreatDoor
open Go.RowKit Lx Sm Go.Maps
theorem ar_ir {w : World} {A : Option Addr} {n : Nat} {xs : List Int} (h : AR w A n xs) : IAddr w A n xs :=
  ⟨h.1, fun hn => by
    obtain ⟨b, o, e, hb, hc⟩ := h.2.2 hn
    refine ⟨b, o, e, hb, fun i x hx j v hv => ?_⟩
    have hi := (List.getElem?_eq_some_iff.1 hx).1
    rw [h.1] at hi
    have hj : j = 0 := by have := (List.getElem?_eq_some_iff.1 hv).1; simp [CAddr] at this; omega
    subst hj
    simp only [CAddr, List.getElem?_cons_zero, Option.some.injEq] at hv
    subst hv
    have := hc i hi
    rw [List.getD_eq_getElem?_getD, hx] at this
    simpa using this⟩
theorem alike_aims {x y : Cfg} (h : Alike x y) : aimsP y = aimsP x := by
  have e : ∀ (l m : List Mb), l.map Mb.plain = m.map Mb.plain → l.flatMap (·.xs) = m.flatMap (·.xs) := by
    intro l
    induction l with
    | nil => intro m h; cases m with | nil => rfl | cons => simp at h
    | cons a l ih =>
      intro m h
      cases m with
      | nil => simp at h
      | cons c m =>
        simp only [List.map_cons, List.cons.injEq] at h
        have hx : a.xs = c.xs := by have := h.1; simp [Mb.plain] at this; simp_all
        rw [List.flatMap_cons, List.flatMap_cons, hx, ih m h.2]
  unfold aimsP
  rw [h.s, h.g, e _ _ h.m]
/-- whether some way goes round -/
def roundA (x : Cfg) : Bool := (sortA (aimsP x)).any fun a => roundP x a x.rs.length
section
variable {b : Nat} {T : TP} {x : Cfg} {gs : List Int}
set_option maxHeartbeats 8000000 in
set_option maxRecDepth 100000 in
theorem round1_any (M : Cm) (a : Int) (ha : U32 a) (N1 N3 : Nat) (t1 t3 : TypeId) (w : World) (h : TW w b T x gs) (hp : IPort w M.p.A M.p.n x.ps) (hr : M.r.n = x.rs.length) (hrn : ∀ y ∈ x.rs, (str y.1).size ≤ 281474976710656) (hln : ∀ y ∈ x.ls, (str y.1).size ≤ 281474976710656) (hok : RibOK x) (hpo : ∀ y ∈ x.ps, 0 ≤ y.1 ∧ y.1 < x.rs.length) (hr6 : x.rs.length ≤ 1000)
    (b1 : Blk w N1 t1 #[.pointer (some ⟨T.N, 0, none⟩)]) (b3 : Blk w N3 t3 #[.slice M.r.A M.r.n M.r.c, .slice M.l.A M.l.n M.l.c, .slice M.p.A M.p.n M.p.c, .slice M.o.A M.o.n M.o.c, .slice M.g.A M.g.n M.g.c, .slice M.s.A M.s.n M.s.c, .slice M.m.A M.m.n M.m.c]) :
    Calls Tryz.prog 104 #[.int .u32 a, .pointer (some ⟨N1, 0, none⟩), .pointer (some ⟨N3, 0, none⟩)] w fun e w' => e = .returned (.bool (roundP x a x.rs.length)) ∧ Below w.heap.size w w' := by
  have H := Lib.hid (roundTo_any (b := b) (T := T) (x := x) (gs := gs) M a ha w h hp hr hrn hln hok hpo hr6)
  have c1 : w.cell? ⟨N1, 0, none⟩ = some (.pointer (some ⟨T.N, 0, none⟩)) := b1.cell 0
  have d0 := b3.cell 0
  have d1 := b3.cell 1
  have d2 := b3.cell 2
  have d3 := b3.cell 3
  have d4 := b3.cell 4
  have d5 := b3.cell 5
  have d6 := b3.cell 6
  simp only [List.getElem?_toArray, List.getElem?_cons_zero, List.getElem?_cons_succ] at d0 d1 d2 d3 d4 d5 d6
  clear h hp hr hrn hln hok hpo hr6 b1 b3
  go_enter Tryz.func104, Tryz.ntmps104
  go_wp2_with (go_at_call 105; refine H.out.mono ?_; rintro e w1 ⟨rfl, hb1⟩)
  go_ret
  exact ⟨rfl, hb1⟩
set_option maxHeartbeats 8000000 in
set_option maxRecDepth 100000 in
theorem round_any (w : World) (h : TW w b T x gs) (hrn : ∀ y ∈ x.rs, (str y.1).size ≤ 281474976710656) (hln : ∀ y ∈ x.ls, (str y.1).size ≤ 281474976710656) (hok : RibOK x) (hpo : ∀ y ∈ x.ps, 0 ≤ y.1 ∧ y.1 < x.rs.length) (hr6 : x.rs.length ≤ 1000)
    (hn : (aimsP x).length ≤ 12) (ha : Apart (sortA (aimsP x))) (hi : IsAs (sortA (aimsP x))) :
    Calls Tryz.prog 50 #[.pointer (some ⟨T.N, 0, none⟩)] w fun e w' => e = .returned (.bool (roundA x)) ∧ Below w.heap.size w w' := by
  have HB1 := Lib.hid ((Below.refl w.heap.size w).alloc (Nat.le_refl _) (.cells #[.pointer (some ⟨T.N, 0, none⟩)] 35))
  have HK1 := Lib.hid (Blk.new w 35 #[.pointer (some ⟨T.N, 0, none⟩)])
  have H := Lib.hid fun W (hW : Below w.heap.size w W) => h.next hW
  have HC := Lib.hid fun W (hW : Below w.heap.size w W) => config_any W (h.next hW) hrn hln
  have HF := Lib.hid (And.intro hrn (And.intro hln (And.intro hok (And.intro hpo hr6))))
  have HA := Lib.hid (And.intro hn (And.intro ha hi))
  have hlen : (sortA (aimsP x)).length = (aimsP x).length := by unfold sortA; rw [insA_len]
  have HL := Lib.hid hlen
  clear h hrn hln hok hpo hr6 hn ha hi hlen
  go_enter Tryz.func50, Tryz.ntmps50
  go_upto_region 1 with fail
  have c1 : (w.alloc (.cells #[.pointer (some ⟨T.N, 0, none⟩)] 35)).cell? ⟨w.heap.size, 0, none⟩ = some (.pointer (some ⟨T.N, 0, none⟩)) := HK1.out.cell 0
  generalize w.alloc (.cells #[.pointer (some ⟨T.N, 0, none⟩)] 35) = W1 at *
  go_upto_region 2 with (go_at_call 33; refine (HC.out W1 HB1.out).mono ?_; rintro e w2 ⟨M, x', rfl, hcw, hal, hb2⟩; have HAL := Lib.hid hal; have HCW := Lib.hid hcw; have HB2 := Lib.hid (below_next HB1.out hb2); have HK1b := Lib.hid (HK1.out.next hb2); clear hcw hal hb2)
  have HB3 := Lib.hid (HB2.out.alloc HB2.out.size (.cells #[.slice M.r.A M.r.n M.r.c, .slice M.l.A M.l.n M.l.c, .slice M.p.A M.p.n M.p.c, .slice M.o.A M.o.n M.o.c, .slice M.g.A M.g.n M.g.c, .slice M.s.A M.s.n M.s.c, .slice M.m.A M.m.n M.m.c] 30))
  have HW23 := Lib.hid ((Below.refl w2.heap.size w2).alloc (Nat.le_refl _) (.cells #[.slice M.r.A M.r.n M.r.c, .slice M.l.A M.l.n M.l.c, .slice M.p.A M.p.n M.p.c, .slice M.o.A M.o.n M.o.c, .slice M.g.A M.g.n M.g.c, .slice M.s.A M.s.n M.s.c, .slice M.m.A M.m.n M.m.c] 30))
  have HK3 := Lib.hid (Blk.new w2 30 #[.slice M.r.A M.r.n M.r.c, .slice M.l.A M.l.n M.l.c, .slice M.p.A M.p.n M.p.c, .slice M.o.A M.o.n M.o.c, .slice M.g.A M.g.n M.g.c, .slice M.s.A M.s.n M.s.c, .slice M.m.A M.m.n M.m.c])
  have HK1c := Lib.hid (HK1b.out.next HW23.out)
  have HCW3 := Lib.hid (HCW.out.cw.next HW23.out)
  have d0 := HK3.out.cell 0
  have d1 := HK3.out.cell 1
  have d2 := HK3.out.cell 2
  have d3 := HK3.out.cell 3
  have d4 := HK3.out.cell 4
  have d5 := HK3.out.cell 5
  have d6 := HK3.out.cell 6
  simp only [List.getElem?_toArray, List.getElem?_cons_zero, List.getElem?_cons_succ] at d0 d1 d2 d3 d4 d5 d6
  clear c1
  generalize w2.alloc (.cells #[.slice M.r.A M.r.n M.r.c, .slice M.l.A M.l.n M.l.c, .slice M.p.A M.p.n M.p.c, .slice M.o.A M.o.n M.o.c, .slice M.g.A M.g.n M.g.c, .slice M.s.A M.s.n M.s.c, .slice M.m.A M.m.n M.m.c] 30) = W3 at *
  have hax := alike_aims HAL.out
  have HAM := Lib.hid (aims_any M x' W3 HCW3.out (by rw [hax]; exact HA.out.1) (by rw [hax]; exact HA.out.2.1) (by rw [hax]; exact HA.out.2.2))
  rw [hax] at HAM
  have HIP := Lib.hid HCW3.out.p
  rw [HAL.out.p] at HIP
  have hMr : M.r.n = x.rs.length := by rw [← HAL.out.r]; exact HCW.out.len.1.symm
  have HR1 := Lib.hid fun W (hW : Below W3.heap.size W3 W) a (ha : U32 a) => round1_any (b := b) (T := T) (x := x) (gs := gs) M a ha w.heap.size w2.heap.size _ _ W (H.out W (below_next HB3.out hW)) (IR.next HIP.out hW) hMr HF.out.1 HF.out.2.1 HF.out.2.2.1 HF.out.2.2.2.1 HF.out.2.2.2.2 (HK1c.out.next hW) (HK3.out.next hW)
  clear hax hMr
  go_wp2_with (first
    | (go_at_call 103; refine HAM.out.mono ?_; rintro e w4 ⟨A4, c4, rfl, har, hb4⟩; have HAR := Lib.hid har; have HB4 := Lib.hid hb4; clear har hb4)
    | (go_at_call 102
       refine (hasAddr 104 #[.pointer (some ⟨w.heap.size, 0, none⟩), .pointer (some ⟨w2.heap.size, 0, none⟩)] (by intros; rfl) (fun a => roundP x a x.rs.length) A4 _ c4 (sortA (aimsP x)) w4 (ar_ir HAR.out) (by have := HA.out.1; omega) (fun W i y hy hW => HR1.out W (HB4.out.trans (hW.mono HB4.out.size)) y (HA.out.2.2 y (List.mem_of_getElem? hy)))).mono ?_
       rintro e w5 ⟨rfl, hb5⟩; have HB5 := Lib.hid (HB3.out.trans ((HB4.out.trans (hb5.mono HB4.out.size)).mono HB3.out.size)); clear hb5))
  go_ret
  exact ⟨rfl, HB5.out⟩
end
end Go.Proofs.YtojahaphkjdenaaGreatDoor

