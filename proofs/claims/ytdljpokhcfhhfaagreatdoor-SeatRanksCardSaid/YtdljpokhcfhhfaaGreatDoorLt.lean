/- The chapter's example of stage 8 (an empty network), the groups of a Topo; a line's network may be; over the seat's program. A network that is light and may be: what that says of its lists, and what topo.New makes of it; over the seat's program. -/
import Derived.Test.YtdljpokhcfhhfaaGreatDoorMe
import Derived.Test.YtdljpokhcfhhfaaGreatDoorNw
import Derived.Test.YtdljpokhcfhhfaaGreatDoorGr
import Derived.Test.YtdljpokhcfhhfaaGreatDoorOc
namespace Go.Proofs.YtdljpokhcfhhfaaGreatDoor
open Go.RowKit Lx Sm Go.Maps
def M0 : Cm := ⟨⟨none, 0, 0⟩, ⟨none, 0, 0⟩, ⟨none, 0, 0⟩, ⟨none, 0, 0⟩, ⟨none, 0, 0⟩, ⟨none, 0, 0⟩, ⟨none, 0, 0⟩⟩
def x0 : Cfg := ⟨[], [], [], [], [], [], []⟩
theorem cw0 (w : World) : CW w M0 x0 :=
  ⟨IR.none_ _ _ _ _, IR.none_ _ _ _ _, IR.none_ _ _ _ _, IR.none_ _ _ _ _, IR.none_ _ _ _ _, IR.none_ _ _ _ _, IR.none_ _ _ _ _, ⟨Nat.le_refl _, by decide⟩, ⟨Nat.le_refl _, by decide⟩, ⟨Nat.le_refl _, by decide⟩, ⟨Nat.le_refl _, by decide⟩, ⟨Nat.le_refl _, by decide⟩, ⟨Nat.le_refl _, by decide⟩, ⟨Nat.le_refl _, by decide⟩, fun y hy => (by cases hy),
    ⟨fun y hy => (by cases hy), fun y hy => (by cases hy), fun y hy => (by cases hy), fun y hy => (by cases hy), fun y hy => (by cases hy), fun y hy => (by cases hy)⟩⟩
end Go.Proofs.YtdljpokhcfhhfaaGreatDoor
namespace Go.Proofs.YtdljpokhcfhhfaaGreatDoor
open Go.RowKit Lx Sm Go.Maps
theorem fnz_all {l : List Int} (h : firstNZ l = 0) : ∀ a ∈ l, a = 0 := by
  induction l with
  | nil => intro a ha; cases ha
  | cons a l ih =>
    unfold firstNZ at h
    intro b hb
    split at h
    · rename_i h0
      rcases List.mem_cons.1 hb with rfl | hb
      · exact h0
      · exact ih h b hb
    · rename_i h0; exact absurd h h0
theorem fec_all {C : Nat → Int} {most : Nat} : ∀ (m i : Nat), feC C most i m = 0 → ∀ j, i ≤ j → j < i + m → C j = 0
  | 0, _, _, j, h1, h2 => absurd h2 (by omega)
  | m + 1, i, h, j, h1, h2 => by
    unfold feC at h
    split at h
    · cases h
    · split at h
      · rename_i h0
        rcases Nat.eq_or_lt_of_le h1 with rfl | hlt
        · exact h0
        · exact fec_all m (i + 1) h j hlt (by omega)
      · rename_i h0; exact absurd h h0
theorem atc_all {α : Type} {f : α → List α → Int} {xs : List α} {most : Nat} (h : feC (atC f xs) most 0 xs.length = 0) {y : α} (hy : y ∈ xs) : ∃ ah, f y ah = 0 := by
  obtain ⟨i, hi, rfl⟩ := List.getElem_of_mem hy
  have := fec_all _ _ h i (Nat.zero_le _) (by omega)
  rw [atC_at (List.getElem?_eq_getElem hi)] at this
  exact ⟨_, this⟩
theorem nameOk_len {l : List UInt8} (h : nameOk l = true) : l.length ≤ 12 := by
  unfold nameOk headOk at h
  simp only [Bool.and_eq_true, decide_eq_true_eq] at h
  exact h.1.1.2
theorem rcode_name {y : List UInt8 × Int} {ah : List (List UInt8 × Int)} (h : rcode y ah = 0) : (str y.1).size ≤ 12 := by
  unfold rcode at h
  split at h
  · cases h
  · rename_i h0
    simp only [Bool.not_eq_false] at h0
    simpa [str, ByteArray.size] using nameOk_len h0
theorem lcode_name {y : List UInt8 × Int × Int} {ah : List (List UInt8 × Int × Int)} (h : lcode y ah = 0) : (str y.1).size ≤ 12 := by
  unfold lcode at h
  split at h
  · cases h
  · rename_i h0
    simp only [Bool.not_eq_false] at h0
    simpa [str, ByteArray.size] using nameOk_len h0
theorem plOk_lt {i : Int} {n : Nat} (h : ¬ plOk i n = false) : 0 ≤ i ∧ i < (n : Int) := by
  simpa [plOk] using h
theorem pcode_lt {nr : Nat} {ls : List (List UInt8 × Int × Int)} {y : Int × Int × Int} {ah : List (Int × Int × Int)} (h : pcode nr ls y ah = 0) : 0 ≤ y.1 ∧ y.1 < nr ∧ 0 ≤ y.2.1 ∧ y.2.1 < ls.length := by
  unfold pcode at h
  split at h
  · cases h
  · rename_i h0
    split at h
    · cases h
    · rename_i h1
      have := plOk_lt h0; have := plOk_lt h1
      omega
theorem mcode_lt {nl : Nat} {y : Mb} (h : mcode nl y = 0) : 0 ≤ y.l ∧ y.l < nl ∧ y.xs.length ≤ 4 := by
  unfold mcode at h
  split at h
  · cases h
  · rename_i h0
    split at h
    · cases h
    · split at h
      · cases h
      · split at h
        · cases h
        · have := plOk_lt h0
          omega
/-- a network that is light, and may be: what the laws ask of it -/
structure LtOK (x : Cfg) : Prop where
  v : vcode x = 0
  rl : x.rs.length ≤ 16
  ll : x.ls.length ≤ 12
  pl : x.ps.length ≤ 24
  ol : x.os.length ≤ 30
  gl : x.gs.length ≤ 4
  sl : x.ss.length ≤ 5
  ml : x.ms.length ≤ 10
  rn : ∀ y ∈ x.rs, (str y.1).size ≤ 281474976710656
  ln : ∀ y ∈ x.ls, (str y.1).size ≤ 281474976710656
  po : ∀ y ∈ x.ps, 0 ≤ y.1 ∧ y.1 < x.rs.length ∧ 0 ≤ y.2.1 ∧ y.2.1 < x.ls.length
  mo : ∀ y ∈ x.ms, 0 ≤ y.l ∧ y.l < x.ls.length
  xl : ∀ y ∈ x.ms, y.xs.length ≤ 4
/-- what a network that may be says, list by list -/
theorem v_parts {x : Cfg} (h : vcode x = 0) : feC (atC (rcode) x.rs) 16 0 x.rs.length = 0 ∧ feC (atC (lcode) x.ls) 24 0 x.ls.length = 0 ∧ feC (atC (pcode x.rs.length x.ls) x.ps) 64 0 x.ps.length = 0 ∧ feC (atC (fun y _ => ocode x.rs.length y) x.os) 96 0 x.os.length = 0 ∧ feC (atC (gcode) x.gs) 8 0 x.gs.length = 0 ∧ feC (atC (scode x.ls x.ps) x.ss) 8 0 x.ss.length = 0 ∧ feC (atC (fun y _ => mcode x.ls.length y) x.ms) 24 0 x.ms.length = 0 := by
  have := fnz_all h
  simpa only [vlist, List.mem_cons, List.not_mem_nil, or_false, forall_eq_or_imp, forall_eq] using this
theorem lt_ok {x : Cfg} {n : Int} (h : lightP x n = true) (hn : n ≤ 16) : LtOK x := by
  unfold lightP at h
  simp only [Bool.and_eq_true, decide_eq_true_eq, beq_iff_eq] at h
  obtain ⟨⟨⟨⟨⟨⟨⟨h1, h2⟩, h3⟩, h4⟩, h5⟩, h6⟩, h7⟩, hv⟩ := h
  obtain ⟨v1, v2, v3, _, _, _, v7⟩ := v_parts hv
  refine ⟨hv, by omega, h2, h3, h4, h5, h6, h7, fun y hy => ?_, fun y hy => ?_, fun y hy => ?_, fun y hy => ?_, fun y hy => ?_⟩
  · obtain ⟨ah, he⟩ := atc_all v1 hy
    have := rcode_name he; omega
  · obtain ⟨ah, he⟩ := atc_all v2 hy
    have := lcode_name he; omega
  · obtain ⟨ah, he⟩ := atc_all v3 hy
    exact pcode_lt he
  · obtain ⟨ah, he⟩ := atc_all v7 hy
    have := mcode_lt he; exact ⟨this.1, this.2.1⟩
  · obtain ⟨ah, he⟩ := atc_all v7 hy
    exact (mcode_lt he).2.2
theorem lt_rl {x : Cfg} {n : Int} (h : lightP x n = true) : (x.rs.length : Int) ≤ n := by
  unfold lightP at h
  simp only [Bool.and_eq_true, decide_eq_true_eq, beq_iff_eq] at h
  exact h.1.1.1.1.1.1.1
theorem LtOK.alike {x x' : Cfg} (h : LtOK x) (k : Alike x x') (hv : vcode x' = 0) : LtOK x' := by
  have hm := alike_ms k
  have mem : ∀ y ∈ x'.ms, ∃ y0 ∈ x.ms, y0.l = y.l ∧ y0.xs = y.xs := fun y hy => by
    have : y.plain ∈ x.ms.map Mb.plain := by rw [← k.m]; exact List.mem_map_of_mem hy
    obtain ⟨y0, h0, e0⟩ := List.mem_map.1 this
    simp only [Mb.plain, Prod.mk.injEq] at e0
    exact ⟨y0, h0, e0.1, e0.2.2.2⟩
  refine ⟨hv, by rw [k.r]; exact h.rl, by rw [k.l]; exact h.ll, by rw [k.p]; exact h.pl, by rw [k.o]; exact h.ol, by rw [k.g]; exact h.gl, by rw [k.s]; exact h.sl, by rw [hm]; exact h.ml, by rw [k.r]; exact h.rn, by rw [k.l]; exact h.ln, by rw [k.p, k.r, k.l]; exact h.po, fun y hy => ?_, fun y hy => ?_⟩
  · obtain ⟨y0, h0, e1, _⟩ := mem y hy
    rw [k.l, ← e1]; exact h.mo y0 h0
  · obtain ⟨y0, h0, _, e2⟩ := mem y hy
    rw [← e2]; exact h.xl y0 h0
theorem LW.cw {w : World} {M : Cm} {x : Cfg} (h : LW w M x) (k : LtOK x) : CW w M x := by
  refine ⟨h.r, h.l, h.p, h.o, h.g, h.s, h.m, ⟨h.rc, ?_⟩, ⟨h.lc, ?_⟩, ⟨h.pc, ?_⟩, ⟨h.oc, ?_⟩, ⟨h.gc, ?_⟩, ⟨h.sc, ?_⟩, ⟨h.mc, ?_⟩, fun y hy => ⟨(h.src y hy).1, (h.src y hy).2.1, ?_⟩, h.ok⟩
  · have := h.r.1; have := k.rl; omega
  · have := h.l.1; have := k.ll; omega
  · have := h.p.1; have := k.pl; omega
  · have := h.o.1; have := k.ol; omega
  · have := h.g.1; have := k.gl; omega
  · have := h.s.1; have := k.sl; omega
  · have := h.m.1; have := k.ml; omega
  · have := (h.src y hy).1.1; have := k.xl y hy; omega
theorem grpL_len (x : Cfg) : (grpL x).length = x.ss.length + x.ms.length := by simp [grpL]
theorem nub_le (l : List Int) : (nubA l).length ≤ l.length := by
  have := grp_len l
  unfold groupsL at this
  rw [sortA_len] at this
  exact this
/-- topo.New of a light network -/
theorem new_light (ads : List Addr) (M : Cm) (x : Cfg) (w : World) (hE : EnvC ads w) (h : CW w M x) (k : LtOK x) :
    Calls Tryz.prog 9 #[.agg #[.slice M.r.A M.r.n M.r.c, .slice M.l.A M.l.n M.l.c, .slice M.p.A M.p.n M.p.c, .slice M.o.A M.o.n M.o.c, .slice M.g.A M.g.n M.g.c, .slice M.s.A M.s.n M.s.c, .slice M.m.A M.m.n M.m.c]] w fun e w' => ∃ (T : TP) (x' : Cfg), e = .returned (.tuple #[.pointer (some ⟨T.N, 0, none⟩), .nilIface]) ∧ TW w' w.heap.size T x' (groupsL (grpL x)) ∧ Alike x x' ∧ Below w.heap.size w w' := by
  refine new_ok ads M x (groupsL (grpL x)) w hE h k.v k.rn k.ln (fun W hW => ?_) k.po k.mo
  refine tgrp_any M x W (h.next hW) ?_ ?_
  · have := nub_le (grpL x); rw [grpL_len] at this
    have := k.sl; have := k.ml; omega
  · have := h.s.len; have := h.m.len; have := k.sl; have := k.ml; omega
theorem vcode_alike {x x' : Cfg} (h : Alike x x') : vcode x' = vcode x := by
  unfold vcode vlist
  rw [h.r, h.l, h.p, h.o, h.g, h.s, alike_ms h]
  have hm : atC (fun (y : Mb) _ => mcode x.ls.length y) x'.ms = atC (fun (y : Mb) _ => mcode x.ls.length y) x.ms := by
    funext i
    have := congrArg (fun l => l[i]?) h.m
    simp only [List.getElem?_map] at this
    unfold atC
    cases h1 : x'.ms[i]? with
    | none =>
      cases h2 : x.ms[i]? with
      | none => rfl
      | some b => rw [h1, h2] at this; cases this
    | some a =>
      cases h2 : x.ms[i]? with
      | none => rw [h1, h2] at this; cases this
      | some b =>
        rw [h1, h2] at this
        simp only [Option.map_some, Option.some.injEq, Mb.plain, Prod.mk.injEq] at this
        obtain ⟨e1, e2, e3, e4⟩ := this
        simp only [mcode, e1, e2, e4]
  rw [hm]
theorem grpL_alike {x x' : Cfg} (h : Alike x x') : grpL x' = grpL x := by
  unfold grpL
  rw [h.s]
  have : x'.ms.map (·.g) = x.ms.map (·.g) := by
    have := congrArg (List.map (fun q : Int × Int × Bool × List Int => q.2.1)) h.m
    simpa [List.map_map, Function.comp_def, Mb.plain] using this
  rw [this]
end Go.Proofs.YtdljpokhcfhhfaaGreatDoor

