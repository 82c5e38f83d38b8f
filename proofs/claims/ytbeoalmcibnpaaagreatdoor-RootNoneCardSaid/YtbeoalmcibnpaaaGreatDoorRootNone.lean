/- A root that no router has is an address alone: no router is it; an address that is no group has none; walked. -/
import Derived.Test.YtbeoalmcibnpaaaGreatDoorRq
import Derived.Test.YtbeoalmcibnpaaaGreatDoorRl
import Derived.Deep.Cut
namespace Go.Proofs.YtbeoalmcibnpaaaGreatDoor
open Go.RowKit Lx Sm Go.Maps
theorem LW.ranges {w : World} {M : Cm} {x : Cfg} (h : LW w M x) {A : Option Addr} {n c : Nat} {gs : List (Int × Int × Int)} (hg : IRange w A n gs) (hc : n ≤ c) (hu : ∀ y ∈ gs, U32 y.1 ∧ U32 y.2.2) : LW w ⟨M.r, M.l, M.p, M.o, ⟨A, n, c⟩, M.s, M.m⟩ { x with gs := gs } :=
  ⟨h.r, h.l, h.p, h.o, hg, h.s, h.m, h.rc, h.lc, h.pc, h.oc, hc, h.sc, h.mc, h.src, ⟨h.ok.1, h.ok.2.1, h.ok.2.2.1, hu, h.ok.2.2.2.2⟩, h.n1, h.n2⟩
theorem range1 {w : World} {g : Nat} {t : TypeId} {a b c : Int} (h : Blk w g t #[.int .u32 a, .int .i64 b, .int .u32 c]) : IRange w (some ⟨g, 0, none⟩) 1 [(a, b, c)] :=
  ⟨rfl, fun _ => ⟨g, 0, rfl, h.lt, fun i y hx j v hv => by
    have hi : i = 0 := by have := (List.getElem?_eq_some_iff.1 hx).1; simp at this; exact this
    subst hi
    simp at hx
    subst hx
    have := h.cell j
    rw [show (0 : Nat) + 0 * 3 + j = j by omega, this]
    simpa [CRange] using hv⟩⟩
theorem rootP_one {x : Cfg} {a g : Int} (h : x.gs = [(3758096384, 4, a)]) (hg : U32 g) : rootP x g = if g / 268435456 = 14 then some a else none := by
  have h0 := hg.1
  have h1 := hg.2
  have e : rowG [((3758096384 : Int), (4 : Int), a)] 1 = [((3758096384, 4), [0])] := by
    unfold rowG rowG Tr.putv
    show (if Ad.valid 3758096384 4 = true then Tr.put [] ((3758096384 : Int), (4 : Int)) ((0 : Nat) : Int) else []) = _
    rw [if_pos (by decide)]
    rfl
  unfold rootP
  rw [h]
  show Option.map _ (Tr.look (rowG [((3758096384 : Int), (4 : Int), a)] 1) g) = _
  rw [e]
  by_cases hc : g / 268435456 = 14
  · have h4 : (3758096384 : Int) = g - g % 268435456 := by omega
    rw [if_pos hc]
    simp [Tr.look, Tr.lk, Tr.get, Tr.ar, h4.symm]
  · have h4 : ¬ (3758096384 : Int) = g - g % 268435456 := by omega
    rw [if_neg hc]
    simp [Tr.look, Tr.lk, Tr.get, Tr.ar, h4]
set_option maxHeartbeats 8000000 in
set_option maxRecDepth 100000 in
theorem law_rnone (ads : List Addr) (M : Cm) (x : Cfg) (g a : Int) (rt : Int) (w : World) (hE : EnvC ads w) (hL : LW w M x) (hg : U32 g) (ha : U32 a) :
    Calls Tryz.prog 8 #[.agg #[.slice M.r.A M.r.n M.r.c, .slice M.l.A M.l.n M.l.c, .slice M.p.A M.p.n M.p.c, .slice M.o.A M.o.n M.o.c, .slice M.g.A M.g.n M.g.c, .slice M.s.A M.s.n M.s.c, .slice M.m.A M.m.n M.m.c], .int .u32 g, .int .u32 a, .int .i64 rt] w fun e w' => e = .returned (.bool true) ∧ Below w.heap.size w w' := by
  have HB0 := Lib.hid ((Below.refl w.heap.size w).alloc (Nat.le_refl _) (.cells #[.slice M.r.A M.r.n M.r.c, .slice M.l.A M.l.n M.l.c, .slice M.p.A M.p.n M.p.c, .slice M.o.A M.o.n M.o.c, .slice M.g.A M.g.n M.g.c, .slice M.s.A M.s.n M.s.c, .slice M.m.A M.m.n M.m.c] 30))
  have HK0 : Hid (Blk (w.alloc (.cells #[.slice M.r.A M.r.n M.r.c, .slice M.l.A M.l.n M.l.c, .slice M.p.A M.p.n M.p.c, .slice M.o.A M.o.n M.o.c, .slice M.g.A M.g.n M.g.c, .slice M.s.A M.s.n M.s.c, .slice M.m.A M.m.n M.m.c] 30)) w.heap.size 30 #[.slice M.r.A M.r.n M.r.c, .slice M.l.A M.l.n M.l.c, .slice M.p.A M.p.n M.p.c, .slice M.o.A M.o.n M.o.c, .slice M.g.A M.g.n M.g.c, .slice M.s.A M.s.n M.s.c, .slice M.m.A M.m.n M.m.c]) := Lib.hid (Blk.new _ _ _)
  have HF := Lib.hid (first10_any ads _ (hE.below HB0.out))
  have HE := Lib.hid hE
  have HL := Lib.hid hL
  clear hE hL
  go_enter Tryz.func8, Tryz.ntmps8
  go_upto_region 1 with fail
  generalize w.alloc (.cells #[.slice M.r.A M.r.n M.r.c, .slice M.l.A M.l.n M.l.c, .slice M.p.A M.p.n M.p.c, .slice M.o.A M.o.n M.o.c, .slice M.g.A M.g.n M.g.c, .slice M.s.A M.s.n M.s.c, .slice M.m.A M.m.n M.m.c] 30) = W0 at *
  go_wp2_with fail
  refine HF.out.mono ?_
  rintro e w1 ⟨rfl, hb1⟩
  have HB1 := Lib.hid (below_next HB0.out hb1)
  have HK1 := Lib.hid (HK0.out.next hb1)
  have y0 : w1.cell? ⟨w.heap.size, 0, none⟩ = some (.slice M.r.A M.r.n M.r.c) := HK1.out.cell 0
  have y1 : w1.cell? ⟨w.heap.size, 1, none⟩ = some (.slice M.l.A M.l.n M.l.c) := HK1.out.cell 1
  have y2 : w1.cell? ⟨w.heap.size, 2, none⟩ = some (.slice M.p.A M.p.n M.p.c) := HK1.out.cell 2
  have y3 : w1.cell? ⟨w.heap.size, 3, none⟩ = some (.slice M.o.A M.o.n M.o.c) := HK1.out.cell 3
  have y4 : w1.cell? ⟨w.heap.size, 4, none⟩ = some (.slice M.g.A M.g.n M.g.c) := HK1.out.cell 4
  have y5 : w1.cell? ⟨w.heap.size, 5, none⟩ = some (.slice M.s.A M.s.n M.s.c) := HK1.out.cell 5
  have y6 : w1.cell? ⟨w.heap.size, 6, none⟩ = some (.slice M.m.A M.m.n M.m.c) := HK1.out.cell 6
  clear hb1 HF
  have hne : w.heap.size ≠ w1.heap.size := Nat.ne_of_lt HK1.out.lt
  have hB6 : Below w.heap.size w ((w1.alloc (.cells #[.int .u32 3758096384, .int .i64 4, .int .u32 a] 79)).setCell ⟨w.heap.size, 4, none⟩ (.slice (some ⟨w1.heap.size, 0, none⟩) 1 1)) := (HB1.out.alloc HB1.out.size _).setCell (Nat.le_refl _) _
  have hGb : Blk ((w1.alloc (.cells #[.int .u32 3758096384, .int .i64 4, .int .u32 a] 79)).setCell ⟨w.heap.size, 4, none⟩ (.slice (some ⟨w1.heap.size, 0, none⟩) 1 1)) w1.heap.size 79 #[.int .u32 3758096384, .int .i64 4, .int .u32 a] := (Blk.new w1 _ _).far (by simpa using hne.symm) _
  have hK6 : Blk ((w1.alloc (.cells #[.int .u32 3758096384, .int .i64 4, .int .u32 a] 79)).setCell ⟨w.heap.size, 4, none⟩ (.slice (some ⟨w1.heap.size, 0, none⟩) 1 1)) w.heap.size 30 #[.slice M.r.A M.r.n M.r.c, .slice M.l.A M.l.n M.l.c, .slice M.p.A M.p.n M.p.c, .slice M.o.A M.o.n M.o.c, .slice (some ⟨w1.heap.size, 0, none⟩) 1 1, .slice M.s.A M.s.n M.s.c, .slice M.m.A M.m.n M.m.c] := (HK1.out.alloc _).set_to 4 _ rfl
  obtain ⟨M2, hM2⟩ : ∃ M2 : Cm, M2 = ⟨M.r, M.l, M.p, M.o, ⟨some ⟨w1.heap.size, 0, none⟩, 1, 1⟩, M.s, M.m⟩ := ⟨_, rfl⟩
  obtain ⟨x2, hx2⟩ : ∃ x2 : Cfg, x2 = { x with gs := [(3758096384, 4, a)] } := ⟨_, rfl⟩
  have HGS : Hid (x2.gs = [(3758096384, 4, a)]) := Lib.hid (by rw [hx2])
  have hL6 : LW ((w1.alloc (.cells #[.int .u32 3758096384, .int .i64 4, .int .u32 a] 79)).setCell ⟨w.heap.size, 4, none⟩ (.slice (some ⟨w1.heap.size, 0, none⟩) 1 1)) M2 x2 := by
    rw [hM2, hx2]
    exact (HL.out.next hB6).ranges (range1 hGb) (Nat.le_refl _) (fun y hy => by
      simp only [List.mem_singleton] at hy; subst hy; exact ⟨⟨by show (0 : Int) ≤ 3758096384; decide, by show (3758096384 : Int) ≤ 4294967295; decide⟩, ha⟩)
  have hK6' : Blk ((w1.alloc (.cells #[.int .u32 3758096384, .int .i64 4, .int .u32 a] 79)).setCell ⟨w.heap.size, 4, none⟩ (.slice (some ⟨w1.heap.size, 0, none⟩) 1 1)) w.heap.size 30 #[.slice M2.r.A M2.r.n M2.r.c, .slice M2.l.A M2.l.n M2.l.c, .slice M2.p.A M2.p.n M2.p.c, .slice M2.o.A M2.o.n M2.o.c, .slice M2.g.A M2.g.n M2.g.c, .slice M2.s.A M2.s.n M2.s.c, .slice M2.m.A M2.m.n M2.m.c] := by rw [hM2]; exact hK6
  have HL6 := Lib.hid hL6
  have HK6 := Lib.hid hK6'
  have HB6 := Lib.hid hB6
  have HAa := Lib.hid ha
  clear hL6 hK6' hB6 hK6 hGb hM2 hx2
  have y9 : (w1.alloc (.cells #[.int .u32 3758096384, .int .i64 4, .int .u32 a] 79)).cell? ⟨w.heap.size, 4, none⟩ = some (.slice M.g.A M.g.n M.g.c) := (HK1.out.alloc _).cell 4
  have z9 : (w1.alloc (.cells #[.int .u32 3758096384, .int .i64 4, .int .u32 a] 79)).frozen? ⟨w.heap.size, 4, none⟩ = false := (HK1.out.alloc _).frozen 4
  go_upto_region 5 with fail
  clear y9 z9
  clear y0 y1 y2 y3 y4 y5 y6 hne HL HB1 HK1 HB0 HK0 ha
  generalize (w1.alloc (.cells #[.int .u32 3758096384, .int .i64 4, .int .u32 a] 79)).setCell ⟨w.heap.size, 4, none⟩ (.slice (some ⟨w1.heap.size, 0, none⟩) 1 1) = W6 at *
  have y0 : W6.cell? ⟨w.heap.size, 0, none⟩ = some (.slice M2.r.A M2.r.n M2.r.c) := HK6.out.cell 0
  have y1 : W6.cell? ⟨w.heap.size, 1, none⟩ = some (.slice M2.l.A M2.l.n M2.l.c) := HK6.out.cell 1
  have y2 : W6.cell? ⟨w.heap.size, 2, none⟩ = some (.slice M2.p.A M2.p.n M2.p.c) := HK6.out.cell 2
  have y3 : W6.cell? ⟨w.heap.size, 3, none⟩ = some (.slice M2.o.A M2.o.n M2.o.c) := HK6.out.cell 3
  have y4 : W6.cell? ⟨w.heap.size, 4, none⟩ = some (.slice M2.g.A M2.g.n M2.g.c) := HK6.out.cell 4
  have y5 : W6.cell? ⟨w.heap.size, 5, none⟩ = some (.slice M2.s.A M2.s.n M2.s.c) := HK6.out.cell 5
  have y6 : W6.cell? ⟨w.heap.size, 6, none⟩ = some (.slice M2.m.A M2.m.n M2.m.c) := HK6.out.cell 6
  have HG := Lib.hid (light_any M2 x2 8 W6 HL6.out (by omega))
  go_wp2_with fail
  refine HG.out.mono ?_
  rintro e w2 ⟨rfl, hb2⟩
  have HB2 := Lib.hid (below_next HB6.out hb2)
  have HK2 := Lib.hid (HK6.out.next hb2)
  have hb6 := hb2
  clear y0 y1 y2 y3 y4 y5 y6 HG hb2
  cases hlp : lightP x2 8 with
  | false =>
    go_wp2
    go_ret
    exact ⟨rfl, HB2.out⟩
  | true =>
    have HOK := Lib.hid (lt_ok hlp (by omega))
    have HRL := Lib.hid (lt_rl hlp)
    have HC2 := Lib.hid ((HL6.out.next hb6).cw HOK.out)
    have HN := Lib.hid (new_light ads M2 x2 w2 (HE.out.below HB2.out) HC2.out HOK.out)
    have y0 : w2.cell? ⟨w.heap.size, 0, none⟩ = some (.slice M2.r.A M2.r.n M2.r.c) := HK2.out.cell 0
    have y1 : w2.cell? ⟨w.heap.size, 1, none⟩ = some (.slice M2.l.A M2.l.n M2.l.c) := HK2.out.cell 1
    have y2 : w2.cell? ⟨w.heap.size, 2, none⟩ = some (.slice M2.p.A M2.p.n M2.p.c) := HK2.out.cell 2
    have y3 : w2.cell? ⟨w.heap.size, 3, none⟩ = some (.slice M2.o.A M2.o.n M2.o.c) := HK2.out.cell 3
    have y4 : w2.cell? ⟨w.heap.size, 4, none⟩ = some (.slice M2.g.A M2.g.n M2.g.c) := HK2.out.cell 4
    have y5 : w2.cell? ⟨w.heap.size, 5, none⟩ = some (.slice M2.s.A M2.s.n M2.s.c) := HK2.out.cell 5
    have y6 : w2.cell? ⟨w.heap.size, 6, none⟩ = some (.slice M2.m.A M2.m.n M2.m.c) := HK2.out.cell 6
    clear hlp HL6 HK6 hb6
    go_wp2_with fail
    refine HN.out.mono ?_
    rintro e w4 ⟨T, x2', rfl, hT, hal, hb4⟩
    have HT := Lib.hid hT
    have HAL := Lib.hid hal
    have HB4 := Lib.hid (below_next HB2.out hb4)
    have HK4 := Lib.hid (HK2.out.next hb4)
    have HC4 := Lib.hid (HC2.out.next hb4)
    clear y0 y1 y2 y3 y4 y5 y6 HN hT hal hb4 HC2 HK2
    have qr : M2.r.n ≤ 16 := by have := HC4.out.r.len; have := HOK.out.rl; omega
    have ql : M2.l.n ≤ 12 := by have := HC4.out.l.len; have := HOK.out.ll; omega
    have qp : M2.p.n ≤ 24 := by have := HC4.out.p.len; have := HOK.out.pl; omega
    have qo : M2.o.n ≤ 30 := by have := HC4.out.o.len; have := HOK.out.ol; omega
    have qg : M2.g.n ≤ 4 := by have := HC4.out.g.len; have := HOK.out.gl; omega
    have qs : M2.s.n ≤ 5 := by have := HC4.out.s.len; have := HOK.out.sl; omega
    have qm : M2.m.n ≤ 10 := by have := HC4.out.m.len; have := HOK.out.ml; omega
    have HRP : Hid (rootP x2 g = if g / 268435456 = 14 then some a else none) := Lib.hid (rootP_one HGS.out hg)
    have HOF := Lib.hid (rof_al g hg w4 w4 M2 HT.out HAL.out HC4.out HOK.out)
    have HRT := Lib.hid (fun W (hW : Below w4.heap.size w4 W) => rrt_al g hg W w4 M2 (HT.out.next hW) HAL.out HC4.out HOK.out)
    have HIS := Lib.hid (fun r W (hW : Below w4.heap.size w4 W) => ris_al r g hg W w4 M2 (HT.out.next hW) HAL.out HC4.out HOK.out)
    have HAT := Lib.hid (fun W (hW : Below w4.heap.size w4 W) => at_al a HAa.out W (HT.out.next hW) HAL.out)
    have HRR : Hid (rtrP x2 g = (rootP x2 g).bind fun a => (lastAt a x2.ps x2.ps.length).map fun j => (x2.ps.getD j (0, 0, 0)).1) := Lib.hid rfl
    have haa : (a == a) = true := by simp
    by_cases hgr : g / 268435456 = 14
    · have hg14 : (g / 268435456 == 14) = true := by simpa using hgr
      rw [HRP.out, if_pos hgr] at HOF
      rw [HRP.out, if_pos hgr] at HRR
      simp only [Option.getD_some, Option.isSome_some, Option.bind_some] at HOF HRR
      cases hj : lastAt a x2.ps x2.ps.length with
      | some j =>
        rw [hj] at HAT HRR
        simp only [Option.getD_some, Option.isSome_some, Option.map_some] at HAT HRR
        generalize (x2.ps.getD j (0, 0, 0)).1 = rr at *
        rw [HRR.out] at HRT HIS
        simp only [Option.getD_some, Option.isSome_some] at HRT
        have HI := Lib.hid (fun W hW => HIS.out rr W hW)
        rw [show (some rr == some rr) = true by simp] at HI
        clear HRP HRR HIS hgr
        go_wp2_with (first
          | (go_at_call 41; refine HOF.out.mono ?_; rintro e w5 ⟨rfl, hb5⟩; have HB5 := Lib.hid hb5; clear hb5)
          | (go_at_call 25; refine (HAT.out _ HB5.out).mono ?_; rintro e w6 ⟨rfl, hb6⟩; have HB6 := Lib.hid (below_next HB5.out hb6); clear hb6)
          | (go_at_call 39; refine (HRT.out _ HB6.out).mono ?_; rintro e w7 ⟨rfl, hb7⟩; have HB7 := Lib.hid (below_next HB6.out hb7); clear hb7)
          | (go_at_call 40; refine (HI.out _ HB7.out).mono ?_; rintro e w8 ⟨rfl, hb8⟩; have HB8 := Lib.hid (below_next HB7.out hb8); clear hb8))
        go_ret
        exact ⟨rfl, HB4.out.trans (HB8.out.mono HB4.out.size)⟩
      | none =>
        rw [hj] at HAT HRR
        simp only [Option.getD_none, Option.isSome_none, Option.map_none] at HAT HRR
        rw [HRR.out] at HRT HIS
        simp only [Option.getD_none, Option.isSome_none] at HRT
        have HI := Lib.hid (fun W hW => HIS.out rt W hW)
        rw [show ((none : Option Int) == some rt) = false from rfl] at HI
        clear HRP HRR HIS hgr
        go_wp2_with (first
          | (go_at_call 41; refine HOF.out.mono ?_; rintro e w5 ⟨rfl, hb5⟩; have HB5 := Lib.hid hb5; clear hb5)
          | (go_at_call 25; refine (HAT.out _ HB5.out).mono ?_; rintro e w6 ⟨rfl, hb6⟩; have HB6 := Lib.hid (below_next HB5.out hb6); clear hb6)
          | (go_at_call 39; refine (HRT.out _ HB6.out).mono ?_; rintro e w7 ⟨rfl, hb7⟩; have HB7 := Lib.hid (below_next HB6.out hb7); clear hb7)
          | (go_at_call 40; refine (HI.out _ HB7.out).mono ?_; rintro e w8 ⟨rfl, hb8⟩; have HB8 := Lib.hid (below_next HB7.out hb8); clear hb8))
        go_ret
        exact ⟨rfl, HB4.out.trans (HB8.out.mono HB4.out.size)⟩
    · have hg14 : (g / 268435456 == 14) = false := by simpa using hgr
      rw [HRP.out, if_neg hgr] at HOF
      rw [HRP.out, if_neg hgr] at HRR
      simp only [Option.getD_none, Option.isSome_none, Option.bind_none] at HOF HRR
      rw [HRR.out] at HRT HIS
      simp only [Option.getD_none, Option.isSome_none] at HRT
      have HI := Lib.hid (fun W hW => HIS.out rt W hW)
      rw [show ((none : Option Int) == some rt) = false from rfl] at HI
      generalize (lastAt a x2.ps x2.ps.length).isSome = Ps at *
      generalize (lastAt a x2.ps x2.ps.length).getD 0 = pp at *
      clear HRP HRR HIS hgr
      go_wp2_with (first
        | (go_at_call 41; refine HOF.out.mono ?_; rintro e w5 ⟨rfl, hb5⟩; have HB5 := Lib.hid hb5; clear hb5)
        | (go_at_call 25; refine (HAT.out _ HB5.out).mono ?_; rintro e w6 ⟨rfl, hb6⟩; have HB6 := Lib.hid (below_next HB5.out hb6); clear hb6)
        | (go_at_call 39; refine (HRT.out _ HB6.out).mono ?_; rintro e w7 ⟨rfl, hb7⟩; have HB7 := Lib.hid (below_next HB6.out hb7); clear hb7)
        | (go_at_call 40; refine (HI.out _ HB7.out).mono ?_; rintro e w8 ⟨rfl, hb8⟩; have HB8 := Lib.hid (below_next HB7.out hb8); clear hb8))
      go_ret
      exact ⟨rfl, HB4.out.trans (HB8.out.mono HB4.out.size)⟩
end Go.Proofs.YtbeoalmcibnpaaaGreatDoor

