/- The document's Root: the narrowest range in which a group is has its root: that is what the trie finds; the document's Root, RootRouter; over the seat's program. -/
import Derived.Test.YtbeoalmcibnpaaaGreatDoorRq
import Derived.Test.YtbeoalmcibnpaaaGreatDoorAddr
import Derived.Deep.Cut
namespace Go.Proofs.YtbeoalmcibnpaaaGreatDoor
open Go.ChangeShapes Go.WideShapes Go.ChangeAt Go.RowKit Lx Sm Go.Maps
theorem lk_cases (L : Tr.Row) (a : Int) (m : Nat) : (Tr.lk L a m = none ∧ ∀ j : Nat, j < m → Tr.get L (Tr.ar a j, (j : Int)) = none) ∨
    ∃ (k : Nat) (xs : List Int), k < m ∧ Tr.lk L a m = some (k, xs) ∧ Tr.get L (Tr.ar a k, (k : Int)) = some xs ∧ ∀ j : Nat, k < j → j < m → Tr.get L (Tr.ar a j, (j : Int)) = none := by
  induction m with
  | zero => exact .inl ⟨rfl, fun j h => by omega⟩
  | succ m ih =>
    cases hg : Tr.get L (Tr.ar a m, (m : Int)) with
    | some xs => exact .inr ⟨m, xs, by omega, by simp [Tr.lk, hg], hg, fun j h1 h2 => by omega⟩
    | none =>
      have e : Tr.lk L a (m + 1) = Tr.lk L a m := by simp [Tr.lk, hg]
      rw [e]
      rcases ih with ⟨h1, h2⟩ | ⟨k, xs, h1, h2, h3, h4⟩
      · refine .inl ⟨h1, fun j hj => ?_⟩
        by_cases h : j = m
        · subst h; exact hg
        · exact h2 j (by omega)
      · refine .inr ⟨k, xs, by omega, h2, h3, fun j hj hm => ?_⟩
        by_cases h : j = m
        · subst h; exact hg
        · exact h4 j hj (by omega)
theorem gs_apart {x : Cfg} (h : vcode x = 0) {i j : Nat} {y z : Int × Int × Int} (hy : x.gs[i]? = some y) (hz : x.gs[j]? = some z) (he : y.1 = z.1 ∧ y.2.1 = z.2.1) : i = j := by
  have key : ∀ {i j : Nat} {y z : Int × Int × Int}, x.gs[i]? = some y → x.gs[j]? = some z → y.1 = z.1 → y.2.1 = z.2.1 → ¬ i < j := by
    intro i j y z hy hz h1 h2 hij
    have hv := (v_parts h).2.2.2.2.1
    have hg := fec_all _ _ hv j (Nat.zero_le _) (by have := (List.getElem?_eq_some_iff.1 hz).1; omega)
    rw [atC_at hz] at hg
    unfold gcode at hg
    split at hg
    · cases hg
    · split at hg
      · cases hg
      · split at hg
        · cases hg
        · split at hg
          · cases hg
          · rename_i hn
            refine hn (List.any_eq_true.2 ⟨y, List.mem_of_getElem? (i := i) ?_, by simp [h1, h2]⟩)
            rw [List.getElem?_take_of_lt hij]; exact hy
  rcases Nat.lt_trichotomy i j with hlt | rfl | hlt
  · exact absurd hlt (key hy hz he.1 he.2)
  · rfl
  · exact absurd hlt (key hz hy he.1.symm he.2.symm)
theorem rowG_get {x : Cfg} (h : vcode x = 0) : ∀ (i : Nat), i ≤ x.gs.length → ∀ p : Tr.Pf, (Tr.get (rowG x.gs i) p = none ∧ ∀ (j : Nat) y, j < i → x.gs[j]? = some y → (y.1, y.2.1) ≠ p) ∨ ∃ (j : Nat) (y : Int × Int × Int), j < i ∧ x.gs[j]? = some y ∧ (y.1, y.2.1) = p ∧ Tr.get (rowG x.gs i) p = some [(j : Int)]
  | 0, _, p => .inl ⟨rfl, fun j y hj => absurd hj (Nat.not_lt_zero _)⟩
  | i + 1, hi, p => by
    have hy : x.gs[i]? = some (x.gs[i]'(by omega)) := List.getElem?_eq_getElem _
    generalize x.gs[i]'(by omega) = y at hy
    have hval := gs_valid h y (List.mem_of_getElem? hy)
    have e : rowG x.gs (i + 1) = Tr.put (rowG x.gs i) (y.1, y.2.1) (i : Int) := by
      show (match x.gs[i]? with | some y => Tr.putv (rowG x.gs i) (y.1, y.2.1) (i : Int) | none => rowG x.gs i) = _
      rw [hy]
      show Tr.putv _ _ _ = _
      unfold Tr.putv
      rw [if_pos hval]
    rw [e, Tr.get_put]
    by_cases hp : (y.1, y.2.1) = p
    · rw [if_pos hp]
      refine .inr ⟨i, y, by omega, hy, hp, ?_⟩
      rcases rowG_get h i (by omega) (y.1, y.2.1) with ⟨h1, _⟩ | ⟨j, z, hj, hz, hzp, _⟩
      · rw [h1]; rfl
      · simp only [Prod.mk.injEq] at hzp
        have := gs_apart h hz hy hzp
        omega
    · rw [if_neg hp]
      rcases rowG_get h i (by omega) p with ⟨h1, h2⟩ | ⟨j, z, hj, hz, hzp, h3⟩
      · refine .inl ⟨h1, fun j z hj hz => ?_⟩
        rcases Nat.lt_or_ge j i with hlt | hge
        · exact h2 j z hlt hz
        · obtain rfl : j = i := by omega
          rw [hy] at hz; cases hz; exact hp
      · exact .inr ⟨j, z, by omega, hz, hzp, h3⟩
/-- the document's walk over the ranges -/
def dRt (gs : List (Int × Int × Int)) (g : Int) : Nat → Int × Int
  | 0 => (-1, 0)
  | k + 1 => if Ad.isIn (gs.getD k (0, 0, 0)).1 (gs.getD k (0, 0, 0)).2.1 g = true ∧ (gs.getD k (0, 0, 0)).2.1 > (dRt gs g k).1 then ((gs.getD k (0, 0, 0)).2.1, (gs.getD k (0, 0, 0)).2.2) else dRt gs g k
theorem dRt_cases {x : Cfg} (h : vcode x = 0) (g : Int) : ∀ (i : Nat), i ≤ x.gs.length → (dRt x.gs g i = (-1, 0) ∧ ∀ (j : Nat) y, j < i → x.gs[j]? = some y → Ad.isIn y.1 y.2.1 g = false) ∨ ∃ (j : Nat) (y : Int × Int × Int), j < i ∧ x.gs[j]? = some y ∧ Ad.isIn y.1 y.2.1 g = true ∧ dRt x.gs g i = (y.2.1, y.2.2) ∧ ∀ (j' : Nat) z, j' < i → x.gs[j']? = some z → Ad.isIn z.1 z.2.1 g = true → z.2.1 ≤ y.2.1
  | 0, _ => .inl ⟨rfl, fun j y hj => absurd hj (Nat.not_lt_zero _)⟩
  | i + 1, hi => by
    have hy : x.gs[i]? = some (x.gs[i]'(by omega)) := List.getElem?_eq_getElem _
    generalize x.gs[i]'(by omega) = y at hy
    have hval := gs_valid h y (List.mem_of_getElem? hy)
    have hb : 0 ≤ y.2.1 := by unfold Ad.valid at hval; simp only [decide_eq_true_eq] at hval; exact hval.1
    have hd : x.gs.getD i (0, 0, 0) = y := by rw [List.getD_eq_getElem?_getD, hy]; rfl
    have split_ : ∀ {j : Nat} {z : Int × Int × Int}, j < i + 1 → x.gs[j]? = some z → j < i ∨ z = y := by
      intro j z hj hz
      rcases Nat.lt_or_ge j i with hlt | hge
      · exact .inl hlt
      · obtain rfl : j = i := by omega
        rw [hy] at hz; cases hz; exact .inr rfl
    unfold dRt
    rw [hd]
    rcases dRt_cases h g i (by omega) with ⟨h1, h2⟩ | ⟨j, z, hj, hz, hin, h1, h2⟩
    · rw [h1]
      cases hin : Ad.isIn y.1 y.2.1 g with
      | true =>
        rw [if_pos ⟨rfl, show y.2.1 > -1 by omega⟩]
        refine .inr ⟨i, y, by omega, hy, hin, rfl, fun j' z hj' hz hzin => ?_⟩
        rcases split_ hj' hz with hlt | rfl
        · rw [h2 j' z hlt hz] at hzin; cases hzin
        · exact Int.le_refl _
      | false =>
        rw [if_neg (by simp)]
        refine .inl ⟨rfl, fun j' z hj' hz => ?_⟩
        rcases split_ hj' hz with hlt | rfl
        · exact h2 j' z hlt hz
        · exact hin
    · rw [h1]
      by_cases hc : Ad.isIn y.1 y.2.1 g = true ∧ y.2.1 > z.2.1
      · rw [if_pos hc]
        refine .inr ⟨i, y, by omega, hy, hc.1, rfl, fun j' z' hj' hz' hzin => ?_⟩
        rcases split_ hj' hz' with hlt | rfl
        · have := h2 j' z' hlt hz' hzin; omega
        · exact Int.le_refl _
      · rw [if_neg hc]
        refine .inr ⟨j, z, by omega, hz, hin, rfl, fun j' z' hj' hz' hzin => ?_⟩
        rcases split_ hj' hz' with hlt | rfl
        · exact h2 j' z' hlt hz' hzin
        · have : ¬ z'.2.1 > z.2.1 := fun hgt => hc ⟨hzin, hgt⟩
          omega
theorem isIn_ar {y : Int × Int × Int} {g : Int} (hv : Ad.valid y.1 y.2.1 = true) : ∃ k : Nat, k < 33 ∧ y.2.1 = (k : Int) ∧ (Ad.isIn y.1 y.2.1 g = true ↔ (y.1, y.2.1) = (Tr.ar g k, (k : Int))) := by
  have hv' := hv
  unfold Ad.valid at hv'
  simp only [decide_eq_true_eq] at hv'
  refine ⟨y.2.1.toNat, by omega, by omega, ?_⟩
  unfold Ad.isIn Tr.ar
  rw [hv, Bool.true_and, decide_eq_true_eq, show Ad.fr y.2.1 = 32 - y.2.1.toNat by unfold Ad.fr; omega]
  constructor
  · intro h; rw [← h]; exact Prod.ext rfl (by show y.2.1 = _; omega)
  · intro h; exact (congrArg Prod.fst h).symm
theorem root_same {x : Cfg} (h : vcode x = 0) (g : Int) : decide (0 ≤ (dRt x.gs g x.gs.length).1) = (rootP x g).isSome ∧ (dRt x.gs g x.gs.length).2 = (rootP x g).getD 0 := by
  unfold rootP Tr.look
  rcases lk_cases (rowG x.gs x.gs.length) g 33 with ⟨h1, h2⟩ | ⟨k, xs, hk, h1, h2, h3⟩
  · rw [h1]
    rcases dRt_cases h g x.gs.length (Nat.le_refl _) with ⟨h4, _⟩ | ⟨j, y, hj, hy, hin, _, _⟩
    · rw [h4]; exact ⟨rfl, rfl⟩
    · exfalso
      obtain ⟨k, hk, _, he⟩ := isIn_ar (g := g) (gs_valid h y (List.mem_of_getElem? hy))
      rcases rowG_get h x.gs.length (Nat.le_refl _) (Tr.ar g k, (k : Int)) with ⟨_, h5⟩ | ⟨_, _, _, _, _, h5⟩
      · exact h5 j y hj hy (he.1 hin)
      · rw [h2 k hk] at h5; cases h5
  · rw [h1]
    rcases rowG_get h x.gs.length (Nat.le_refl _) (Tr.ar g k, (k : Int)) with ⟨h4, _⟩ | ⟨j, y, hj, hy, hyp, h4⟩
    · rw [h4] at h2; cases h2
    · rw [h4] at h2
      cases h2
      obtain ⟨ky, hky, hkb, he⟩ := isIn_ar (g := g) (gs_valid h y (List.mem_of_getElem? hy))
      have hkk : ky = k := by
        have := congrArg Prod.snd hyp
        dsimp only at this
        omega
      subst hkk
      have hyin := he.2 hyp
      rcases dRt_cases h g x.gs.length (Nat.le_refl _) with ⟨_, h5⟩ | ⟨j2, z, hj2, hz, hzin, h5, h6⟩
      · rw [h5 j y hj hy] at hyin; cases hyin
      · obtain ⟨kz, hkz, hkzb, hez⟩ := isIn_ar (g := g) (gs_valid h z (List.mem_of_getElem? hz))
        have hle := h6 j y hj hy hyin
        have hge : ¬ ky < kz := by
          intro hlt
          rcases rowG_get h x.gs.length (Nat.le_refl _) (Tr.ar g kz, (kz : Int)) with ⟨_, h7⟩ | ⟨_, _, _, _, _, h7⟩
          · exact h7 j2 z hj2 hz (hez.1 hzin)
          · rw [h3 kz hlt hkz] at h7; cases h7
        have hkk : kz = ky := by omega
        subst hkk
        have hyz := hyp.trans (hez.1 hzin).symm
        simp only [Prod.mk.injEq] at hyz
        obtain rfl := gs_apart h hy hz hyz
        rw [hy] at hz
        cases hz
        rw [h5]
        refine ⟨?_, ?_⟩
        · simp; omega
        · simp [List.getD, hy]
theorem idx_last {x : Cfg} (h : vcode x = 0) (a : Int) : idxI (fun y : Int × Int × Int => y.2.2 == a) x.ps = match lastAt a x.ps x.ps.length with | some j => (j : Int) | none => -1 := by
  cases hl : lastAt a x.ps x.ps.length with
  | none =>
    refine idxI_none _ fun j y hy => ?_
    have := lastAt_none hl j (List.getElem?_eq_some_iff.1 hy).1 y hy
    simpa using this
  | some j =>
    obtain ⟨hj, y, hy, he⟩ := lastAt_some hl
    refine idxI_hit _ j y hy (by simpa using he) fun i z hi hz => ?_
    cases hc : (z.2.2 == a) with
    | false => rfl
    | true =>
      have := ps_apart h hz hy (by rw [he]; simpa using hc)
      omega
set_option maxRecDepth 100000 in
set_option maxHeartbeats 4000000 in
theorem droot_any (M : Cm) (x : Cfg) (g : Int) (hg : U32 g) (w : World) (h : CW w M x) (k : LtOK x) :
    Calls Tryz.prog 43 #[.agg #[.slice M.r.A M.r.n M.r.c, .slice M.l.A M.l.n M.l.c, .slice M.p.A M.p.n M.p.c, .slice M.o.A M.o.n M.o.c, .slice M.g.A M.g.n M.g.c, .slice M.s.A M.s.n M.s.c, .slice M.m.A M.m.n M.m.c], .int .u32 g] w fun e w' => e = .returned (.tuple #[.int .u32 ((rootP x g).getD 0), .bool (rootP x g).isSome]) ∧ Below w.heap.size w w' := by
  have HRS := Lib.hid (root_same k.v g)
  have hl := h.g.len
  have hg4 : M.g.n ≤ 4 := by have := k.gl; omega
  have HB0 := Lib.hid ((Below.refl w.heap.size w).alloc (Nat.le_refl _) (.cells #[.slice M.r.A M.r.n M.r.c, .slice M.l.A M.l.n M.l.c, .slice M.p.A M.p.n M.p.c, .slice M.o.A M.o.n M.o.c, .slice M.g.A M.g.n M.g.c, .slice M.s.A M.s.n M.s.c, .slice M.m.A M.m.n M.m.c] 30))
  have HK := Lib.hid (Blk.new w 30 #[.slice M.r.A M.r.n M.r.c, .slice M.l.A M.l.n M.l.c, .slice M.p.A M.p.n M.p.c, .slice M.o.A M.o.n M.o.c, .slice M.g.A M.g.n M.g.c, .slice M.s.A M.s.n M.s.c, .slice M.m.A M.m.n M.m.c])
  have HI := Lib.hid (IR.next h.g HB0.out)
  have HU : Hid (∀ y ∈ x.gs, U32 y.1) := Lib.hid (fun y hy => (h.ok.2.2.2.1 y hy).1)
  clear h k
  go_enter Tryz.func43, Tryz.ntmps43
  go_upto_region 1 with fail
  generalize w.alloc (.cells #[.slice M.r.A M.r.n M.r.c, .slice M.l.A M.l.n M.l.c, .slice M.p.A M.p.n M.p.c, .slice M.o.A M.o.n M.o.c, .slice M.g.A M.g.n M.g.c, .slice M.s.A M.s.n M.s.c, .slice M.m.A M.m.n M.m.c] 30) = W1 at *
  go_wp2_with fail
  go_loopw [6, 7, 8] (fun bv av iv wr => ∃ k : Nat, k ≤ M.g.n ∧ iv = .int .i64 (k : Int) ∧ bv = .int .i64 (dRt x.gs g k).1 ∧ av = .int .u32 (dRt x.gs g k).2 ∧ Hid (Below W1.heap.size W1 wr)) (fun _ _ iv _ => M.g.n - (intOf iv).toNat)
  case atStart => exact ⟨0, Nat.zero_le _, rfl, rfl, rfl, Lib.hid (Below.refl _ _)⟩
  case round =>
    obtain ⟨k, hk, rfl, rfl, rfl, HB⟩ := hrel
    have y4 : wr.cell? ⟨w.heap.size, 4, none⟩ = some (.slice M.g.A M.g.n M.g.c) := (HK.out.next HB.out).cell 4
    rcases Nat.lt_or_ge k M.g.n with hlt | hge
    · obtain ⟨bq, oq, ⟨a1, b1, r1⟩, hA, hbq, hx, c0, c1, c2⟩ := IRange.cells (IR.next HI.out HB.out) hlt
      have hd : x.gs.getD k (0, 0, 0) = (a1, b1, r1) := by rw [List.getD_eq_getElem?_getD, hx]; rfl
      have hdr : dRt x.gs g (k + 1) = if Ad.isIn a1 b1 g = true ∧ b1 > (dRt x.gs g k).1 then (b1, r1) else dRt x.gs g k := by
        show (if Ad.isIn (x.gs.getD k (0, 0, 0)).1 (x.gs.getD k (0, 0, 0)).2.1 g = true ∧ _ then _ else _) = _
        rw [hd]
      have HD := Lib.hid hdr
      have hu := HU.out _ (List.mem_of_getElem? hx)
      have hi0 : (k : Int) < (M.g.n : Int) := by omega
      have hi1 : (0 : Int) ≤ (k : Int) := by omega
      have HIN := Lib.hid (rin_any a1 b1 g wr hu.1 hu.2 hg.1 hg.2)
      obtain ⟨⟨bt, at_⟩, hq⟩ : ∃ q, dRt x.gs g k = q := ⟨_, rfl⟩
      rw [hq] at HD ⊢
      dsimp only at HD ⊢
      rw [hA] at y4
      have E0 := Lib.hid (fun W (hW : Below wr.heap.size wr W) => (hW.cell (p := ⟨bq, oq + k * 3 + 1, none⟩) hbq).trans c1)
      have E1 := Lib.hid (fun W (hW : Below wr.heap.size wr W) => (hW.cell (p := ⟨bq, oq + k * 3 + 2, none⟩) hbq).trans c2)
      have Y4 : Hid (∀ W, Below wr.heap.size wr W → W.cell? ⟨w.heap.size, 4, none⟩ = some (.slice (some ⟨bq, oq, none⟩) M.g.n M.g.c)) := Lib.hid (fun W hW => by rw [← hA]; exact ((HK.out.next HB.out).next hW).cell 4)
      generalize Ad.isIn a1 b1 g = I at *
      clear hx hd hdr hu hq hA hbq
      go_wp2_with fail
      refine HIN.out.mono ?_
      rintro e w2 ⟨rfl, hb2⟩
      have y4' := Y4.out w2 hb2
      have e0 := E0.out w2 hb2
      have e1 := E1.out w2 hb2
      have HB2 := Lib.hid (below_next HB.out hb2)
      clear hb2 y4 c0 c1 c2 HIN E0 E1 Y4 HB
      cases I with
      | false =>
        rw [if_neg (by simp)] at HD
        go_wp2
        go_roundw
        case rel => exact ⟨k + 1, by omega, by go_num, by rw [HD.out], by rw [HD.out], HB2⟩
        case measure => simp [intOf]; omega
      | true =>
        by_cases hgt : bt < b1
        · have hd1 : decide (bt < b1) = true := by simpa using hgt
          rw [if_pos ⟨rfl, hgt⟩] at HD
          clear hgt
          go_wp2
          go_roundw
          case rel => exact ⟨k + 1, by omega, by go_num, by rw [HD.out], by rw [HD.out], HB2⟩
          case measure => simp [intOf]; omega
        · have hd1 : decide (bt < b1) = false := by simpa using hgt
          rw [if_neg (by intro hc; exact hgt hc.2)] at HD
          clear hgt
          go_wp2
          go_roundw
          case rel => exact ⟨k + 1, by omega, by go_num, by rw [HD.out], by rw [HD.out], HB2⟩
          case measure => simp [intOf]; omega
    · obtain rfl : k = M.g.n := by omega
      have q1 : decide ((M.g.n : Int) < (M.g.n : Int)) = false := by simp
      have hr := HRS.out
      rw [hl] at hr
      have HR2 := Lib.hid hr
      clear hr
      go_wp2
      go_ret2
      rw [← HR2.out.1, ← HR2.out.2]
      refine ⟨?_, HB0.out.trans (HB.out.mono HB0.out.size)⟩
      simp
set_option maxRecDepth 100000 in
set_option maxHeartbeats 4000000 in
theorem drr_any (M : Cm) (x : Cfg) (g : Int) (hg : U32 g) (w : World) (h : CW w M x) (k : LtOK x) :
    Calls Tryz.prog 44 #[.agg #[.slice M.r.A M.r.n M.r.c, .slice M.l.A M.l.n M.l.c, .slice M.p.A M.p.n M.p.c, .slice M.o.A M.o.n M.o.c, .slice M.g.A M.g.n M.g.c, .slice M.s.A M.s.n M.s.c, .slice M.m.A M.m.n M.m.c], .int .u32 g] w fun e w' => e = .returned (.int .i64 ((rtrP x g).getD (-1))) ∧ Below w.heap.size w w' := by
  have HB0 := Lib.hid ((Below.refl w.heap.size w).alloc (Nat.le_refl _) (.cells #[.slice M.r.A M.r.n M.r.c, .slice M.l.A M.l.n M.l.c, .slice M.p.A M.p.n M.p.c, .slice M.o.A M.o.n M.o.c, .slice M.g.A M.g.n M.g.c, .slice M.s.A M.s.n M.s.c, .slice M.m.A M.m.n M.m.c] 30))
  have HK := Lib.hid (Blk.new w 30 #[.slice M.r.A M.r.n M.r.c, .slice M.l.A M.l.n M.l.c, .slice M.p.A M.p.n M.p.c, .slice M.o.A M.o.n M.o.c, .slice M.g.A M.g.n M.g.c, .slice M.s.A M.s.n M.s.c, .slice M.m.A M.m.n M.m.c])
  have HC := Lib.hid (h.next HB0.out)
  have HOK := Lib.hid k
  have hpn := h.p.len
  clear h k
  go_enter Tryz.func44, Tryz.ntmps44
  go_upto_region 1 with fail
  generalize w.alloc (.cells #[.slice M.r.A M.r.n M.r.c, .slice M.l.A M.l.n M.l.c, .slice M.p.A M.p.n M.p.c, .slice M.o.A M.o.n M.o.c, .slice M.g.A M.g.n M.g.c, .slice M.s.A M.s.n M.s.c, .slice M.m.A M.m.n M.m.c] 30) = W1 at *
  have y0 : W1.cell? ⟨w.heap.size, 0, none⟩ = some (.slice M.r.A M.r.n M.r.c) := (HK.out).cell 0
  have y1 : W1.cell? ⟨w.heap.size, 1, none⟩ = some (.slice M.l.A M.l.n M.l.c) := (HK.out).cell 1
  have y2 : W1.cell? ⟨w.heap.size, 2, none⟩ = some (.slice M.p.A M.p.n M.p.c) := (HK.out).cell 2
  have y3 : W1.cell? ⟨w.heap.size, 3, none⟩ = some (.slice M.o.A M.o.n M.o.c) := (HK.out).cell 3
  have y4 : W1.cell? ⟨w.heap.size, 4, none⟩ = some (.slice M.g.A M.g.n M.g.c) := (HK.out).cell 4
  have y5 : W1.cell? ⟨w.heap.size, 5, none⟩ = some (.slice M.s.A M.s.n M.s.c) := (HK.out).cell 5
  have y6 : W1.cell? ⟨w.heap.size, 6, none⟩ = some (.slice M.m.A M.m.n M.m.c) := (HK.out).cell 6
  have HR := Lib.hid (droot_any M x g hg W1 HC.out HOK.out)
  obtain ⟨r, hr⟩ : ∃ r, rootP x g = r := ⟨_, rfl⟩
  have HRP := Lib.hid hr
  rw [hr] at HR
  clear hr
  have hrt : rtrP x g = r.bind fun a => (lastAt a x.ps x.ps.length).map fun j => (x.ps.getD j (0, 0, 0)).1 := by unfold rtrP; rw [HRP.out]
  have HRT := Lib.hid hrt
  clear hrt
  go_wp2_with fail
  refine HR.out.mono ?_
  rintro e w2 ⟨rfl, hb2⟩
  have HB2 := Lib.hid hb2
  clear y0 y1 y2 y3 y4 y5 y6 hb2 HR
  cases r with
  | none =>
    have ht : rtrP x g = none := by rw [HRT.out]; rfl
    have HTT := Lib.hid ht
    clear ht
    go_wp2
    go_ret
    rw [HTT.out]
    exact ⟨rfl, HB0.out.trans (HB2.out.mono HB0.out.size)⟩
  | some a =>
    have y0 : w2.cell? ⟨w.heap.size, 0, none⟩ = some (.slice M.r.A M.r.n M.r.c) := (HK.out.next HB2.out).cell 0
    have y1 : w2.cell? ⟨w.heap.size, 1, none⟩ = some (.slice M.l.A M.l.n M.l.c) := (HK.out.next HB2.out).cell 1
    have y2 : w2.cell? ⟨w.heap.size, 2, none⟩ = some (.slice M.p.A M.p.n M.p.c) := (HK.out.next HB2.out).cell 2
    have y3 : w2.cell? ⟨w.heap.size, 3, none⟩ = some (.slice M.o.A M.o.n M.o.c) := (HK.out.next HB2.out).cell 3
    have y4 : w2.cell? ⟨w.heap.size, 4, none⟩ = some (.slice M.g.A M.g.n M.g.c) := (HK.out.next HB2.out).cell 4
    have y5 : w2.cell? ⟨w.heap.size, 5, none⟩ = some (.slice M.s.A M.s.n M.s.c) := (HK.out.next HB2.out).cell 5
    have y6 : w2.cell? ⟨w.heap.size, 6, none⟩ = some (.slice M.m.A M.m.n M.m.c) := (HK.out.next HB2.out).cell 6
    have HA := Lib.hid (rat_any M x a w2 (HC.out.next HB2.out))
    rw [idx_last HOK.out.v a] at HA
    rw [Option.bind_some] at HRT
    simp only [Option.getD_some, Option.isSome_some]
    cases hl : lastAt a x.ps x.ps.length with
    | none =>
      rw [hl] at HA HRT
      have ht : rtrP x g = none := by rw [HRT.out]; rfl
      have HTT := Lib.hid ht
      clear ht
      dsimp only at HA
      go_wp2_with fail
      refine HA.out.mono ?_
      rintro e w3 ⟨rfl, hb3⟩
      have HB3 := Lib.hid (below_next HB2.out hb3)
      clear hb3
      go_wp2
      go_ret
      rw [HTT.out]
      exact ⟨rfl, HB0.out.trans (HB3.out.mono HB0.out.size)⟩
    | some j =>
      rw [hl] at HA HRT
      obtain ⟨hj, _, _⟩ := lastAt_some hl
      obtain ⟨bq, oq, ⟨r1, l1, a1⟩, hA, hbq, hx, c0, _, _⟩ := IPort.cells (IR.next HC.out.p HB2.out) (show j < M.p.n by omega)
      have ht : rtrP x g = some r1 := by
        rw [HRT.out, Option.map_some, List.getD_eq_getElem?_getD, hx]; rfl
      have HTT := Lib.hid ht
      clear ht
      dsimp only at HA
      have hj0 : (0 : Int) ≤ (j : Int) := by omega
      have hj1 : (j : Int) < (M.p.n : Int) := by omega
      have hj2 : decide ((j : Int) < 0) = false := by simp
      have HAA := Lib.hid hA
      clear hl hx hj hA
      go_wp2_with fail
      refine HA.out.mono ?_
      rintro e w3 ⟨rfl, hb3⟩
      have HB3 := Lib.hid (below_next HB2.out hb3)
      have e0 := (hb3.cell (p := ⟨bq, oq + j * 3, none⟩) hbq).trans c0
      have z2 : w3.cell? ⟨w.heap.size, 2, none⟩ = some (.slice M.p.A M.p.n M.p.c) := ((HK.out.next HB2.out).next hb3).cell 2
      rw [HAA.out] at z2
      clear hb3 y0 y1 y2 y3 y4 y5 y6 c0 hbq HA
      go_wp2
      go_ret
      rw [HTT.out]
      exact ⟨rfl, HB0.out.trans (HB3.out.mono HB0.out.size)⟩
end Go.Proofs.YtbeoalmcibnpaaaGreatDoor

