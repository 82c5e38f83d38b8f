/- Roots, plainly: a network's ranges as a trie, the root of a group, which router that is. A line whose ranges lie within one another, plainly. No program's function is walked. package root: the root of a group, which router that is, whether a router is it; over the seat's program. The chapter's example of stage 10; a network whose ranges grow; over the seat's program. -/
import Derived.Test.YtbeoalmcibnpaaaGreatDoorTab
import Derived.Test.YtbeoalmcibnpaaaGreatDoorCw
import Derived.Test.YtbeoalmcibnpaaaGreatDoorLp
import Derived.Test.YtbeoalmcibnpaaaGreatDoorAddr
import Derived.Test.YtbeoalmcibnpaaaGreatDoorNw
import Derived.Test.YtbeoalmcibnpaaaGreatDoorCg
import Derived.Test.YtbeoalmcibnpaaaGreatDoorLg
import Derived.Test.YtbeoalmcibnpaaaGreatDoorLi
import Derived.Test.YtbeoalmcibnpaaaGreatDoorLt
import Derived.RangeFuncBox
namespace Go.Proofs.YtbeoalmcibnpaaaGreatDoor
/-- the first ranges, by their groups -/
def rowG (gs : List (Int × Int × Int)) : Nat → Tr.Row
  | 0 => []
  | k + 1 => match gs[k]? with
    | some y => Tr.putv (rowG gs k) (y.1, y.2.1) (k : Int)
    | none => rowG gs k
/-- the root of a group -/
def rootP (x : Cfg) (g : Int) : Option Int := (Tr.look (rowG x.gs x.gs.length) g).map fun q => (x.gs.getD (q.2.headD 0).toNat (0, 0, 0)).2.2
structure RowIn (L : Tr.Row) (k : Nat) : Prop where
  len : L.length ≤ k
  at_ : ∀ p xs, Tr.get L p = some xs → xs ≠ [] ∧ xs.length ≤ k ∧ ∀ q ∈ xs, ∃ j : Nat, j < k ∧ q = (j : Int)
theorem RowIn.nil : RowIn [] 0 := ⟨Nat.le_refl _, fun p xs h => by cases h⟩
theorem RowIn.more {L : Tr.Row} {k : Nat} (h : RowIn L k) : RowIn L (k + 1) :=
  ⟨Nat.le_succ_of_le h.len, fun p xs hx => ⟨(h.at_ p xs hx).1, Nat.le_succ_of_le (h.at_ p xs hx).2.1, fun q hq => by
    obtain ⟨j, hj, e⟩ := (h.at_ p xs hx).2.2 q hq
    exact ⟨j, by omega, e⟩⟩⟩
theorem RowIn.putv {L : Tr.Row} {k : Nat} (h : RowIn L k) (p : Tr.Pf) : RowIn (Tr.putv L p (k : Int)) (k + 1) := by
  unfold Tr.putv
  split
  · refine ⟨?_, fun q xs hx => ?_⟩
    · rw [Tr.put_len]
      have := h.len
      split <;> omega
    · rw [Tr.get_put] at hx
      split at hx
      · simp only [Option.some.injEq] at hx
        subst hx
        have hg : ∀ ys, Tr.get L p = some ys → ys.length ≤ k ∧ ∀ q ∈ ys, ∃ j : Nat, j < k ∧ q = (j : Int) := fun ys e => (h.at_ p ys e).2
        cases e : Tr.get L p with
        | none =>
          refine ⟨by simp, by simp, fun q hq => ?_⟩
          simp at hq
          exact ⟨k, by omega, hq⟩
        | some ys =>
          obtain ⟨h1, h2⟩ := hg ys e
          refine ⟨by simp, by simp; exact h1, fun q hq => ?_⟩
          simp only [Option.getD_some, List.mem_append, List.mem_singleton] at hq
          rcases hq with hq | hq
          · obtain ⟨j, hj, e⟩ := h2 q hq
            exact ⟨j, by omega, e⟩
          · exact ⟨k, by omega, hq⟩
      · exact h.more.at_ q xs hx
  · exact h.more
theorem rowG_in (gs : List (Int × Int × Int)) : ∀ k, RowIn (rowG gs k) k
  | 0 => RowIn.nil
  | k + 1 => by
    unfold rowG
    split
    · exact (rowG_in gs k).putv _
    · exact (rowG_in gs k).more
theorem lk_get {L : Tr.Row} {a : Int} : ∀ (n k : Nat) (xs : List Int), Tr.lk L a n = some (k, xs) → ∃ p, Tr.get L p = some xs
  | 0, k, xs, h => by cases h
  | n + 1, k, xs, h => by
    unfold Tr.lk at h
    split at h
    · rename_i ys e
      simp only [Option.some.injEq, Prod.mk.injEq] at h
      exact ⟨_, by rw [← h.2]; exact e⟩
    · exact lk_get n k xs h
theorem look_in {L : Tr.Row} {m : Nat} (h : RowIn L m) {a : Int} {k : Nat} {xs : List Int} (e : Tr.look L a = some (k, xs)) : xs.length ≤ m ∧ ∃ (j : Nat) (t : List Int), j < m ∧ xs = (j : Int) :: t := by
  obtain ⟨p, hp⟩ := lk_get _ _ _ e
  obtain ⟨h1, h2, h3⟩ := h.at_ p xs hp
  cases xs with
  | nil => exact absurd rfl h1
  | cons q t =>
    obtain ⟨j, hj, rfl⟩ := h3 q (List.mem_cons_self ..)
    exact ⟨h2, j, t, hj, rfl⟩
theorem rowG_get_len (gs : List (Int × Int × Int)) (k : Nat) (p : Tr.Pf) : ((Tr.get (rowG gs k) p).getD []).length ≤ k := by
  cases e : Tr.get (rowG gs k) p with
  | none => simp
  | some xs => exact ((rowG_in gs k).at_ p xs e).2.1
end Go.Proofs.YtbeoalmcibnpaaaGreatDoor
namespace Go.Proofs.YtbeoalmcibnpaaaGreatDoor
open Go.RowKit Lx Sm
/-- the ranges: four bits more each time -/
def rgGs (n : Nat) : List (Int × Int × Int) := (List.range n).map fun i : Nat => (3774873600, 8 + 4 * (i : Int), adr i (i + 1))
def rgCfg (n : Nat) : Cfg := { lineCfg n 0 with gs := rgGs n }
theorem rgGs_len (n : Nat) : (rgGs n).length = n := by simp [rgGs]
theorem rgGs_s (n : Nat) : rgGs (n + 1) = rgGs n ++ [(3774873600, 8 + 4 * (n : Int), adr n (n + 1))] := by simp [rgGs, List.range_succ]
/-- the group: of 225.0.0.0, and a number -/
def grp (g : Nat) : Int := 3774873600 + (g : Int) * 4096
/-- is it in the i-th range? -/
def inR (g i : Nat) : Bool := decide (i < 2) || (i == 2 && decide (g < 16)) || g == 0
def wantR (g : Nat) : Nat → Int
  | 0 => -1
  | k + 1 => if inR g k then (k : Int) else wantR g k
theorem rg_valid : ∀ n : Fin 7, vcode (rgCfg n.val) = 0 := by decide +kernel
theorem rg_none : ∀ n : Fin 7, rootP (rgCfg n.val) 3791650816 = none ∧ rootP (rgCfg n.val) 167772160 = none := by decide +kernel
theorem rg_root : ∀ n : Fin 6, ∀ g : Fin 256, rootP (rgCfg (n.val + 1)) (grp g.val) = some (adr (wantR g.val (n.val + 1)).toNat ((wantR g.val (n.val + 1)).toNat + 1)) ∧ 0 ≤ wantR g.val (n.val + 1) ∧ wantR g.val (n.val + 1) < (n.val : Int) + 1 := by decide +kernel
theorem rg_at : ∀ n : Fin 7, ∀ i : Fin 6, i.val < n.val → lastAt (adr i.val (i.val + 1)) (rgCfg n.val).ps (rgCfg n.val).ps.length = some (2 * i.val) ∧ (rgCfg n.val).ps[2 * i.val]? = some ((i.val : Int), (i.val : Int), adr i.val (i.val + 1)) := by decide +kernel
theorem line21_valid : vcode (lineCfg 2 1) = 0 := by decide +kernel
theorem line21_root : rootP (lineCfg 2 1) 3758161921 = some (adr 1 2) := by decide +kernel
theorem line21_at : lastAt (adr 1 2) (lineCfg 2 1).ps (lineCfg 2 1).ps.length = some 2 ∧ (lineCfg 2 1).ps[2]? = some (1, 1, adr 1 2) := by decide +kernel
theorem empty_valid : vcode ⟨[], [], [], [], [], [], []⟩ = 0 := by decide +kernel
end Go.Proofs.YtbeoalmcibnpaaaGreatDoor
namespace Go.Proofs.YtbeoalmcibnpaaaGreatDoor
open Go.RowKit Lx Go.Maps
theorem fld_ranges (M : Cm) (w : World) : (Instr.field 30 (.agg #[.slice M.r.A M.r.n M.r.c, .slice M.l.A M.l.n M.l.c, .slice M.p.A M.p.n M.p.c, .slice M.o.A M.o.n M.o.c, .slice M.g.A M.g.n M.g.c, .slice M.s.A M.s.n M.s.c, .slice M.m.A M.m.n M.m.c]) 4).run Tryz.prog w = .ok (.slice M.g.A M.g.n M.g.c) w := by kernel_rfl
theorem fld_rports (M : Cm) (w : World) : (Instr.field 30 (.agg #[.slice M.r.A M.r.n M.r.c, .slice M.l.A M.l.n M.l.c, .slice M.p.A M.p.n M.p.c, .slice M.o.A M.o.n M.o.c, .slice M.g.A M.g.n M.g.c, .slice M.s.A M.s.n M.s.c, .slice M.m.A M.m.n M.m.c]) 2).run Tryz.prog w = .ok (.slice M.p.A M.p.n M.p.c) w := by kernel_rfl
section
variable {b : Nat} {T : TP} {x : Cfg} {gs : List Int}
set_option maxHeartbeats 4000000 in
set_option maxRecDepth 100000 in
theorem rootof_any (g : Int) (hg : U32 g) (w : World) (h : TW w b T x gs) (hrn : ∀ y ∈ x.rs, (str y.1).size ≤ 281474976710656) (hln : ∀ y ∈ x.ls, (str y.1).size ≤ 281474976710656)
    (hgs : ∀ y ∈ x.gs, wfP (y.1, y.2.1)) (hl : x.gs.length ≤ 1000) :
    Calls Tryz.prog 41 #[.pointer (some ⟨T.N, 0, none⟩), .int .u32 g] w fun e w' => e = .returned (.tuple #[.int .u32 ((rootP x g).getD 0), .bool (rootP x g).isSome]) ∧ Below w.heap.size w w' := by
  have HCF := Lib.hid (config_any w h hrn hln)
  have HGS := Lib.hid hgs
  have HG := Lib.hid hg
  have HRP : Hid (rootP x g = (Tr.look (rowG x.gs x.gs.length) g).map fun q => (x.gs.getD (q.2.headD 0).toNat (0, 0, 0)).2.2) := Lib.hid rfl
  generalize rootP x g = rp at *
  clear h hrn hln hgs hg
  go_enter Tryz.func41, Tryz.ntmps41
  go_upto_region 2 with (go_at_call 37; (with_reducible refine HCF.out.mono ?_); rintro e w1 ⟨M, x', rfl, hc, hal, hb1⟩; have HIG := Lib.hid hc.cw.g; have HAL := Lib.hid hal; have HB1 := Lib.hid hb1; have hfd := fld_ranges M; clear hc hal hb1)
  clear hfd HCF
  rw [HAL.out.g] at HIG
  have HLN : Hid (x.gs.length = M.g.n) := Lib.hid HIG.out.1
  have hnb : M.g.n ≤ 1000 := by have := HLN.out; omega
  rw [HLN.out] at HRP
  clear HAL hl
  go_upto_region 3 with fail
  have HO0 := Lib.hid (OT.new (B := w1.heap.size) w1 (Nat.le_refl _))
  have HB2 := Lib.hid ((Below.refl w1.heap.size w1).alloc (Nat.le_refl _) (.cells #[.map none] 145))
  generalize w1.alloc (.cells #[.map none] 145) = W2 at *
  generalize hgz : w1.heap.size = B at *
  have HGZ := Lib.hid hgz
  clear hgz
  go_wp2_with fail
  go_loopw [18] (fun iv wr => ∃ k : Nat, k ≤ M.g.n ∧ iv = .int .i64 k ∧ Hid (OT B wr B (rowG x.gs k)) ∧ Hid (Below B w1 wr)) (fun iv _ => M.g.n - (intOf iv).toNat)
  case atStart => exact ⟨0, by omega, rfl, HO0, HB2⟩
  case round =>
    obtain ⟨k, hk, rfl, HO, HB⟩ := hrel
    rcases Nat.lt_or_ge k M.g.n with hlt | hge
    · obtain ⟨bk, ok, ⟨a1, b1, r1⟩, hA, hbk, hx, f0, f1, f2⟩ := IRange.cells (IR.next HIG.out (HGZ.out ▸ HB.out)) hlt
      have HX := Lib.hid hx
      have hi0 : (k : Int) < (M.g.n : Int) := by omega
      have hi1 : (0 : Int) ≤ (k : Int) := by omega
      have HR1 : Hid (rowG x.gs (k + 1) = Tr.putv (rowG x.gs k) (a1, b1) (k : Int)) := Lib.hid (by
        show (match x.gs[k]? with | some y => Tr.putv (rowG x.gs k) (y.1, y.2.1) (k : Int) | none => rowG x.gs k) = _
        rw [hx])
      have HW := Lib.hid (HGS.out _ (List.mem_of_getElem? hx))
      have HIN := Lib.hid (rowG_in x.gs k)
      have HGL := Lib.hid (rowG_get_len x.gs k (a1, b1))
      have HBz : Hid (B ≤ wr.heap.size) := Lib.hid (by have := HB.out.size; rw [HGZ.out] at this; exact this)
      dsimp only at HW
      rw [hA]
      generalize rowG x.gs k = L at *
      clear hA hx
      go_wp2_with (go_at_call 86; (with_reducible refine (ot_put _ _ _ _ (HO.out.next ((Below.refl _ _).alloc (Nat.le_refl _) _)) (by have := HBz.out; simp; omega) HW.out (by have := HIN.out.len; omega) (by have := HGL.out; omega)).mono ?_); rintro e w3 ⟨rfl, ho3, hb3⟩; have HO3 := Lib.hid ho3; have HB3 := Lib.hid (HB.out.trans (((Below.refl wr.heap.size wr).alloc (Nat.le_refl _) _).mono HBz.out |>.trans hb3)); clear ho3 hb3)
      go_roundw
      case rel => exact ⟨k + 1, by omega, by go_num, by rw [HR1.out]; exact HO3, HB3⟩
      case measure => simp [intOf]; omega
    · have hk2 : k = M.g.n := by omega
      subst hk2
      have hd : decide ((M.g.n : Int) < (M.g.n : Int)) = false := by simp
      have HLK := Lib.hid (ot_look wr g HO.out HG.out.1 HG.out.2 (fun p => by have := rowG_get_len x.gs M.g.n p; omega))
      have HIN := Lib.hid (rowG_in x.gs M.g.n)
      generalize rowG x.gs M.g.n = L at *
      have HBz : Hid (Below w.heap.size w wr) := Lib.hid (HB1.out.trans ((HGZ.out ▸ HB.out : Below w1.heap.size w1 wr).mono HB1.out.size))
      have HIGw := Lib.hid (IR.next HIG.out (HGZ.out ▸ HB.out : Below w1.heap.size w1 wr))
      cases hlk : Tr.look L g with
      | none =>
        have HL2 : Hid (Calls Tryz.prog 87 #[.pointer (some ⟨B, 0, none⟩), .int .u32 g] wr fun e w' => e = .returned (.tuple #[.agg #[.int .u32 0, .int .i64 0], .slice none 0 0, .bool false]) ∧ Below wr.heap.size wr w') := Lib.hid (HLK.out.mono fun e w' hh => by
          obtain ⟨hb, h1 | ⟨k, xs, v, h2, _⟩⟩ := hh
          · exact ⟨h1.2, hb⟩
          · rw [hlk] at h2; cases h2)
        have HR2 : Hid (rp = none) := Lib.hid (by rw [HRP.out, hlk]; rfl)
        clear hlk HLK
        go_wp2_with (go_at_call 87; (with_reducible refine HL2.out.mono ?_); rintro e w4 ⟨rfl, hb4⟩)
        go_ret2
        exact ⟨by rw [HR2.out]; rfl, below_next HBz.out (hb4.alloc hb4.size _)⟩
      | some q =>
        obtain ⟨kk, xs⟩ := q
        obtain ⟨_, j, t, hj, rfl⟩ := look_in HIN.out hlk
        have HL2 : Hid (Calls Tryz.prog 87 #[.pointer (some ⟨B, 0, none⟩), .int .u32 g] wr fun e w' => ∃ A4 c4, e = .returned (.tuple #[.agg #[.int .u32 (Tr.ar g kk), .int .i64 (kk : Int)], .slice A4 ((j : Int) :: t).length c4, .bool true]) ∧ JR w' A4 ((j : Int) :: t).length ((j : Int) :: t) ∧ Below wr.heap.size wr w') := Lib.hid (HLK.out.mono fun e w' hh => by
          obtain ⟨hb, h1 | ⟨k, xs, v, h2, h3, h4⟩⟩ := hh
          · rw [hlk] at h1; cases h1.1
          · rw [hlk] at h2
            simp only [Option.some.injEq, Prod.mk.injEq] at h2
            obtain ⟨rfl, rfl⟩ := h2
            obtain ⟨A4, c4, rfl, hjr⟩ := own_jr h4
            exact ⟨A4, c4, h3, hjr, hb⟩)
        obtain ⟨bk, ok, ⟨a1, b1, r1⟩, hA, hbk, hx, f0, f1, f2⟩ := IRange.cells HIGw.out hj
        have HR2 : Hid (rp = some r1) := Lib.hid (by
          rw [HRP.out, hlk]
          show some (x.gs.getD ((j : Int)).toNat (0, 0, 0)).2.2 = some r1
          rw [Int.toNat_natCast, List.getD_eq_getElem?_getD, hx]; rfl)
        have HF2 := Lib.hid f2
        have HBK := Lib.hid hbk
        have hj1 : (j : Int) < (M.g.n : Int) := by omega
        have hj0 : (0 : Int) ≤ (j : Int) := by omega
        have hlen : (0 : Int) < ((((j : Int) :: t).length : Nat) : Int) := by simp only [List.length_cons]; omega
        have HHD : Hid (((j : Int) :: t).getD 0 0 = (j : Int)) := Lib.hid rfl
        have HLT : Hid (0 < ((j : Int) :: t).length) := Lib.hid (by simp)
        rw [hA]
        clear hlk HLK hx f0 f1 f2 hbk hA hd
        generalize ((j : Int) :: t) = xs at *
        go_upto_region 9 with (go_at_call 87; (with_reducible refine HL2.out.mono ?_); rintro e w4 ⟨A4, c4, rfl, hjr, hb4⟩)
        obtain ⟨bj, oj, rfl, hbj, hcj⟩ := hjr.at_ HLT.out
        rw [HHD.out, Nat.add_zero] at hcj
        have HB5 := Lib.hid (hb4.alloc hb4.size (.cells #[.int .u32 (Tr.ar g kk), .int .i64 (kk : Int)] 77))
        have cj : (w4.alloc (.cells #[.int .u32 (Tr.ar g kk), .int .i64 (kk : Int)] 77)).cell? ⟨bj, oj, none⟩ = some (.int .i64 (j : Int)) := (((Below.refl w4.heap.size w4).alloc (Nat.le_refl _) _).cell (p := ⟨bj, oj, none⟩) hbj).trans hcj
        have cr : (w4.alloc (.cells #[.int .u32 (Tr.ar g kk), .int .i64 (kk : Int)] 77)).cell? ⟨bk, ok + j * 3 + 2, none⟩ = some (.int .u32 r1) := (HB5.out.cell (p := ⟨bk, ok + j * 3 + 2, none⟩) HBK.out).trans HF2.out
        generalize w4.alloc (.cells #[.int .u32 (Tr.ar g kk), .int .i64 (kk : Int)] 77) = W5 at *
        clear hjr hb4 hbj hcj
        go_wp2
        go_ret2
        exact ⟨by rw [HR2.out]; rfl, below_next HBz.out HB5.out⟩
theorem rootP_mem {g a : Int} (hr : rootP x g = some a) : ∃ y ∈ x.gs, a = y.2.2 := by
  unfold rootP at hr
  cases hlk : Tr.look (rowG x.gs x.gs.length) g with
  | none => rw [hlk] at hr; cases hr
  | some q =>
    obtain ⟨kk, xs⟩ := q
    obtain ⟨_, j, t, hj, rfl⟩ := look_in (rowG_in x.gs x.gs.length) hlk
    rw [hlk] at hr
    simp only [Option.map_some, List.headD_cons, Option.some.injEq, Int.toNat_natCast] at hr
    refine ⟨x.gs[j], List.getElem_mem _, ?_⟩
    rw [← hr, List.getD_eq_getElem?_getD, List.getElem?_eq_getElem hj]
    rfl
/-- which router is a group's root -/
def rtrP (x : Cfg) (g : Int) : Option Int := (rootP x g).bind fun a => (lastAt a x.ps x.ps.length).map fun j => (x.ps.getD j (0, 0, 0)).1
theorem lastAt_lt {a : Int} {ps : List (Int × Int × Int)} : ∀ {k o : Nat}, lastAt a ps k = some o → o < ps.length
  | 0, _, h => by cases h
  | k + 1, o, h => by
    unfold lastAt at h
    split at h
    · rename_i y hy
      split at h
      · cases h
        exact (List.getElem?_eq_some_iff.1 hy).1
      · exact lastAt_lt h
    · exact lastAt_lt h
set_option maxHeartbeats 4000000 in
set_option maxRecDepth 100000 in
theorem rootr_any (g : Int) (hg : U32 g) (w : World) (h : TW w b T x gs) (hrn : ∀ y ∈ x.rs, (str y.1).size ≤ 281474976710656) (hln : ∀ y ∈ x.ls, (str y.1).size ≤ 281474976710656)
    (hgs : ∀ y ∈ x.gs, wfP (y.1, y.2.1)) (hgr : ∀ y ∈ x.gs, U32 y.2.2) (hl : x.gs.length ≤ 1000) :
    Calls Tryz.prog 39 #[.pointer (some ⟨T.N, 0, none⟩), .int .u32 g] w fun e w' => e = .returned (.tuple #[.int .i64 ((rtrP x g).getD 0), .bool (rtrP x g).isSome]) ∧ Below w.heap.size w w' := by
  have HOF := Lib.hid (rootof_any g hg w h hrn hln hgs hl)
  have HTW := Lib.hid h
  have HRN := Lib.hid (And.intro hrn hln)
  have HRR : Hid (rtrP x g = (rootP x g).bind fun a => (lastAt a x.ps x.ps.length).map fun j => (x.ps.getD j (0, 0, 0)).1) := Lib.hid rfl
  generalize rtrP x g = rr at *
  cases hr : rootP x g with
  | none =>
    rw [hr] at HOF HRR
    have HR2 : Hid (rr = none) := Lib.hid HRR.out
    clear hr h hrn hln hgs hgr hl hg
    go_enter Tryz.func39, Tryz.ntmps39
    go_wp2_with (go_at_call 41; (with_reducible refine HOF.out.mono ?_); rintro e w1 ⟨rfl, hb1⟩)
    go_ret2
    exact ⟨by rw [HR2.out]; rfl, hb1⟩
  | some a =>
    obtain ⟨y, hy, ea⟩ := rootP_mem hr
    have ha : U32 a := ea ▸ hgr y hy
    rw [hr] at HOF HRR
    have HTA := Lib.hid fun W (hW : Below w.heap.size w W) => tat_any a ha W (h.next hW)
    have HCF := Lib.hid fun W (hW : Below w.heap.size w W) => config_any W (h.next hW) hrn hln
    clear hr h hrn hln hgs hgr hl hg hy ea ha
    cases hj : lastAt a x.ps x.ps.length with
    | none =>
      rw [hj] at HTA
      have HR2 : Hid (rr = none) := Lib.hid (by rw [HRR.out]; show Option.map _ (lastAt a x.ps x.ps.length) = none; rw [hj]; rfl)
      clear hj
      go_enter Tryz.func39, Tryz.ntmps39
      go_wp2_with (first
        | (go_at_call 41; (with_reducible refine HOF.out.mono ?_); rintro e w1 ⟨rfl, hb1⟩; have HB1 := Lib.hid hb1; clear hb1)
        | (go_at_call 25; (with_reducible refine (HTA.out _ HB1.out).mono ?_); rintro e w2 ⟨rfl, hb2⟩; have HB2 := Lib.hid (below_next HB1.out hb2); clear hb2))
      go_ret2
      exact ⟨by rw [HR2.out]; rfl, HB2.out⟩
    | some j =>
      rw [hj] at HTA
      have HJ := Lib.hid (lastAt_lt hj)
      have HR2 : Hid (rr = some (x.ps.getD j (0, 0, 0)).1) := Lib.hid (by rw [HRR.out]; show Option.map _ (lastAt a x.ps x.ps.length) = _; rw [hj]; rfl)
      clear hj
      go_enter Tryz.func39, Tryz.ntmps39
      go_wp2_with (first
        | (go_at_call 41; (with_reducible refine HOF.out.mono ?_); rintro e w1 ⟨rfl, hb1⟩; have HB1 := Lib.hid hb1; clear hb1)
        | (go_at_call 25; (with_reducible refine (HTA.out _ HB1.out).mono ?_); rintro e w2 ⟨rfl, hb2⟩; have HB2 := Lib.hid (below_next HB1.out hb2); clear hb2)
        | (go_at_call 37; (with_reducible refine (HCF.out _ HB2.out).mono ?_); rintro e w3 ⟨M, x', rfl, hc, hal, hb3⟩; have HB3 := Lib.hid (below_next HB2.out hb3); have hip := hc.cw.p; rw [hal.p] at hip; obtain ⟨bp, op, ⟨r2, l2, a2⟩, hA2, hbp, hx2, f0, f1, f2⟩ := IPort.cells hip (i := j) (by rw [← hip.1]; exact HJ.out); have hfd := fld_rports M; rw [hA2] at hfd; rw [hA2]; have hji : (j : Int) < (M.p.n : Int) := (by have := hip.1; have := HJ.out; omega); have hj0 : (0 : Int) ≤ (j : Int) := (by omega); have HXP := Lib.hid hx2; clear hc hal hb3 hip hx2 f1 f2 hbp hA2))
      go_ret2
      exact ⟨by rw [HR2.out, List.getD_eq_getElem?_getD, HXP.out]; rfl, HB3.out⟩
set_option maxHeartbeats 4000000 in
theorem rootis_any (r g : Int) (hg : U32 g) (w : World) (h : TW w b T x gs) (hrn : ∀ y ∈ x.rs, (str y.1).size ≤ 281474976710656) (hln : ∀ y ∈ x.ls, (str y.1).size ≤ 281474976710656)
    (hgs : ∀ y ∈ x.gs, wfP (y.1, y.2.1)) (hgr : ∀ y ∈ x.gs, U32 y.2.2) (hl : x.gs.length ≤ 1000) :
    Calls Tryz.prog 40 #[.pointer (some ⟨T.N, 0, none⟩), .int .i64 r, .int .u32 g] w fun e w' => e = .returned (.bool (rtrP x g == some r)) ∧ Below w.heap.size w w' := by
  have HRO := Lib.hid (rootr_any g hg w h hrn hln hgs hgr hl)
  clear h hrn hln hgs hgr hl hg
  cases hr : rtrP x g with
  | none =>
    rw [hr] at HRO
    clear hr
    go_enter Tryz.func40, Tryz.ntmps40
    go_wp2_with (go_at_call 39; (with_reducible refine HRO.out.mono ?_); rintro e w1 ⟨rfl, hb1⟩)
    go_ret
    exact ⟨rfl, hb1⟩
  | some q =>
    rw [hr] at HRO
    clear hr
    have HQ : Hid (((some q : Option Int) == some r) = (q == r)) := Lib.hid rfl
    rw [HQ.out]
    go_enter Tryz.func40, Tryz.ntmps40
    go_wp2_with (go_at_call 39; (with_reducible refine HRO.out.mono ?_); rintro e w1 ⟨rfl, hb1⟩)
    go_ret
    exact ⟨rfl, hb1⟩
end
end Go.Proofs.YtbeoalmcibnpaaaGreatDoor
namespace Go.Proofs.YtbeoalmcibnpaaaGreatDoor
open Go.RowKit Lx Sm Go.Maps Go.Sort Go.Shelf
theorem info_range : ∃ i z, Tryz.prog.info? 79 = some i ∧ i.zero = some z ∧ z.cells.size = 3 ∧ i.size = 3 ∧ i.bytes = 24 := info_cells (by kernel_rfl)
theorem alike_same {x y : Cfg} (h : Alike x y) (hm : x.ms = []) : y = x := by
  obtain ⟨h1, h2, h3, h4, h5, h6, h7⟩ := h
  rw [hm] at h7
  have h8 : y.ms = [] := by simpa using h7
  cases x; cases y
  simp_all
/-- a network's variable whose ranges grow -/
structure GQ (w0 : World) (M : Cm) (v : Value) (gs : List (Int × Int × Int)) (W : World) : Prop where
  blk : Blk W w0.heap.size 30 #[.slice M.r.A M.r.n M.r.c, .slice M.l.A M.l.n M.l.c, .slice M.p.A M.p.n M.p.c, .slice M.o.A M.o.n M.o.c, v, .slice M.s.A M.s.n M.s.c, .slice M.m.A M.m.n M.m.c]
  g : W.ownsRow w0.heap.size 79 3 v gs.length (gs.flatMap CRange)
  lo : Below w0.heap.size w0 W
theorem GQ.step_g {w0 : World} {M : Cm} {v v' : Value} {gs new : List (Int × Int × Int)} {W W2 : World} (h : GQ w0 M v gs W) (hg : W.grownBy W2 v.ownBlock) (ho : W2.ownsRow w0.heap.size 79 3 v' (gs ++ new).length ((gs ++ new).flatMap CRange)) : GQ w0 M v' (gs ++ new) (W2.setCell ⟨w0.heap.size, 4, none⟩ v') := by
  have hk := blk_by h.blk h.g hg (by decide)
  exact ⟨hk.set_to 4 v' rfl, ownk_far ho hk.slot (by decide), (h.lo.grown hg h.lo.size (fun j e => (h.g.lt j e).1)).setCell (Nat.le_refl _) v'⟩
theorem CW.ranges {w : World} {M : Cm} {x : Cfg} (h : CW w M x) {A : Option Addr} {n c : Nat} {gs : List (Int × Int × Int)} (hg : IRange w A n gs) (hc : n ≤ c) (hn : n ≤ 1000000) (hu : ∀ y ∈ gs, U32 y.1 ∧ U32 y.2.2) : CW w { M with g := ⟨A, n, c⟩ } { x with gs := gs } :=
  ⟨h.r, h.l, h.p, h.o, hg, h.s, h.m, h.rok, h.lok, h.pok, h.ook, ⟨hc, hn⟩, h.sok, h.mok, h.src, ⟨h.ok.1, h.ok.2.1, h.ok.2.2.1, hu, h.ok.2.2.2.2⟩⟩
theorem rg_good : ∀ n : Fin 7, ∀ y ∈ rgGs n.val, (0 ≤ y.1 ∧ y.1 ≤ 4294967295) ∧ (0 ≤ y.2.2 ∧ y.2.2 ≤ 4294967295) ∧ (0 ≤ y.2.1 ∧ y.2.1 ≤ 32) := by decide +kernel
theorem rg_wf {n : Nat} (h : n < 7) : ∀ y ∈ rgGs n, wfP (y.1, y.2.1) := fun y hy => ⟨(rg_good ⟨n, h⟩ y hy).1, by have := (rg_good ⟨n, h⟩ y hy).2.2; omega, by have := (rg_good ⟨n, h⟩ y hy).2.2; omega⟩
theorem rg_elem {n k : Nat} (h : k < n) : (rgGs n)[k]? = some (3774873600, 8 + 4 * (k : Int), adr k (k + 1)) := by
  unfold rgGs; rw [List.getElem?_map, List.getElem?_range h]; rfl
theorem take_one {α : Type} {xs : List α} {k : Nat} {e : α} (h : xs[k]? = some e) : xs.take (k + 1) = xs.take k ++ [e] := by rw [List.take_add_one, h]; rfl
theorem ngroup1_any (w : World) : Calls Tryz.prog 84 #[.int .i64 1] w fun e w' => e = .returned (.int .u32 3758161921) ∧ w = w' := by
  go_enter Tryz.func84, Tryz.ntmps84
  go_wp2
  go_ret
  exact ⟨rfl, rfl⟩
theorem x0_none : rootP x0 3758161921 = none := by decide +kernel
theorem line21_rtr : rtrP (lineCfg 2 1) 3758161921 = some 1 := by decide +kernel
theorem line21_gs : ∀ y ∈ (lineCfg 2 1).gs, wfP (y.1, y.2.1) ∧ U32 y.2.2 := by
  intro y hy
  simp only [lineCfg, List.mem_singleton] at hy
  subst hy
  exact ⟨⟨⟨by decide, by decide⟩, by decide, by decide⟩, by decide, by decide⟩
set_option maxHeartbeats 4000000 in
set_option maxRecDepth 100000 in
theorem first10_any (ads : List Addr) (w : World) (hE : EnvC ads w) :
    Calls Tryz.prog 38 #[] w fun e w' => e = .returned (.bool true) ∧ Below w.heap.size w w' := by
  have HE := Lib.hid hE
  have HN := Lib.hid (new_ok ads M0 x0 [] w hE (cw0 w) (by decide) (fun y hy => (by cases hy)) (fun y hy => (by cases hy)) (fun W _ => groups0_any M0 W rfl rfl) (fun y hy => (by cases hy)) (fun y hy => (by cases hy)))
  have HL := Lib.hid fun W => line_any 2 1 (by decide) (by decide) W
  rw [show ((1 : Nat) : Int) = 1 from rfl, show ((2 : Nat) : Int) = 2 from rfl] at HL
  clear hE
  go_enter Tryz.func38, Tryz.ntmps38
  go_upto_region 4 with (go_at_call 17; refine HN.out.mono ?_; rintro e w1 ⟨T, x', rfl, hT, hal, hb1⟩; obtain rfl := alike_same hal rfl; have HT := Lib.hid hT; have HB1 := Lib.hid hb1; clear hT hal hb1)
  have HO := Lib.hid (rootof_any 3758161921 ⟨by decide, by decide⟩ w1 HT.out (fun y hy => (by cases hy)) (fun y hy => (by cases hy)) (fun y hy => (by cases hy)) (by decide))
  rw [x0_none] at HO
  go_upto_region 5 with (first
    | (go_at_call 84; (with_reducible refine (ngroup1_any _).mono ?_); rintro e w2 ⟨rfl, hw2⟩; obtain rfl := hw2)
    | (go_at_call 41; (with_reducible refine HO.out.mono ?_); rintro e w3 ⟨rfl, hb3⟩; have HB3 := Lib.hid (below_next HB1.out hb3); clear hb3))
  go_upto_region 6 with (first
    | (go_at_call 85; (with_reducible refine (HL.out _).mono ?_); rintro e w4 ⟨M, rfl, hcw, hb4⟩; have HB4 := Lib.hid (below_next HB3.out hb4); have HN2 := Lib.hid (new_ok ads M (lineCfg 2 1) [] w4 (HE.out.below HB4.out) hcw line21_valid (line_rn 2 1) (line_ln 2 1) (fun W _ => groups0_any M W hcw.s.len.symm hcw.m.len.symm) (line_ports 2 1) (fun y hy => (by cases hy))); clear hcw hb4)
    | (go_at_call 17; (with_reducible refine HN2.out.mono ?_); rintro e w5 ⟨T2, x2, rfl, hT2, hal2, hb5⟩; obtain rfl := alike_same hal2 rfl; have HT2 := Lib.hid hT2; have HB5 := Lib.hid (below_next HB4.out hb5); clear hT2 hal2 hb5))
  have HR := Lib.hid (rootr_any 3758161921 ⟨by decide, by decide⟩ w5 HT2.out (line_rn 2 1) (line_ln 2 1) (fun y hy => (line21_gs y hy).1) (fun y hy => (line21_gs y hy).2) (by decide))
  rw [line21_rtr] at HR
  go_wp2_with (first
    | (go_at_call 84; (with_reducible refine (ngroup1_any _).mono ?_); rintro e w6 ⟨rfl, hw6⟩; obtain rfl := hw6)
    | (go_at_call 39; (with_reducible refine HR.out.mono ?_); rintro e w7 ⟨rfl, hb7⟩; have HB7 := Lib.hid (below_next HB5.out hb7); clear hb7))
  go_ret
  exact ⟨rfl, HB7.out⟩
end Go.Proofs.YtbeoalmcibnpaaaGreatDoor

