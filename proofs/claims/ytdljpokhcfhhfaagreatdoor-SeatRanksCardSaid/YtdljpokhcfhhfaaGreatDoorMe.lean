/- topo's methods over a Topo in memory: the ports on a link, of a router, the members on a link, the port of an address, the others there; over the seat's program. topo's Others over a Topo in memory: the ports of other routers on a port's link; over the seat's program. -/
import Derived.Test.YtdljpokhcfhhfaaGreatDoorNw0
import Derived.Test.YtdljpokhcfhhfaaGreatDoorCp
namespace Go.Proofs.YtdljpokhcfhhfaaGreatDoor
open Go.RowKit Lx Sm Go.Maps
/-- the row at a place; none, where there is no such place -/
def rowIn (xs : Nat → List Int) (n : Nat) (p : Int) : List Int := if 0 ≤ p ∧ p < (n : Int) then xs p.toNat else []
theorem JR.ir {w : World} {A : Option Addr} {n : Nat} {xs : List Int} (h : JR w A n xs) : IR CInt 1 w A n xs :=
  ⟨h.1, fun hn => by
    obtain ⟨b, o, e, hlt, hc⟩ := h.2 hn
    refine ⟨b, o, e, hlt, fun i x hx j v hv => ?_⟩
    have hi : i < n := by have := (List.getElem?_eq_some_iff.1 hx).1; have := h.1; omega
    obtain rfl : j = 0 := by
      rcases j with _ | j
      · rfl
      · simp [CInt] at hv
    have := hc i hi
    simp only [CInt, List.getElem?_cons_zero, Option.some.injEq] at hv
    rw [Nat.mul_one, Nat.add_zero, this, ← hv]
    simp [List.getD, hx]⟩
theorem JR.of_ir {w : World} {A : Option Addr} {n : Nat} {xs : List Int} (h : IR CInt 1 w A n xs) : JR w A n xs :=
  ⟨h.1, fun hn => by
    obtain ⟨b, o, e, hlt, hc⟩ := h.2 hn
    refine ⟨b, o, e, hlt, fun i hi => ?_⟩
    have hx : xs[i]? = some (xs.getD i 0) := by
      have := h.1
      rw [List.getElem?_eq_getElem (by omega)]
      simp [List.getD, show i < xs.length by omega]
    have := hc i _ hx 0 _ rfl
    rwa [Nat.mul_one, Nat.add_zero] at this⟩
theorem jr_nil (w : World) : JR w none 0 [] := ⟨rfl, fun h => absurd h (by omega)⟩
set_option maxHeartbeats 1000000 in
theorem listat_any {b : Nat} {G n : Nat → Nat} {xs : Nat → Nat → List Int} (t : Nat) (ht : t < 3) (g : Nat) (hg : G t = g) (p : Int) (w : World) (h : RT b G n xs w) (hlen : ∀ i, (xs t i).length ≤ 1000000) :
    Calls Tryz.prog 114 #[.slice (some ⟨g, 0, none⟩) (n t) (n t), .int .i64 p] w fun e w' => ∃ A c, e = .returned (.slice A (rowIn (xs t) (n t) p).length c) ∧ JR w' A (rowIn (xs t) (n t) p).length (rowIn (xs t) (n t) p) ∧ Below w.heap.size w w' := by
  subst hg
  by_cases hin : 0 ≤ p ∧ p < (n t : Int)
  · obtain ⟨pn, rfl⟩ : ∃ m : Nat, p = m := ⟨p.toNat, by omega⟩
    have hp : pn < n t := by omega
    have HR : Hid (rowIn (xs t) (n t) (pn : Int) = xs t pn) := Lib.hid (by unfold rowIn; rw [if_pos hin]; simp)
    obtain ⟨v, hcv, hov⟩ := h.cell ht hp
    obtain ⟨A, c, rfl, hj⟩ := own_jr hov
    have hC := Lib.hid (fun W (hW : Below w.heap.size w W) => copied_tint A (xs t pn).length c (xs t pn) W (JR.ir (hj.next hW)) (hlen pn))
    have h1 : decide ((pn : Int) < 0) = false := by simp
    have h2 : decide ((n t : Int) ≤ (pn : Int)) = false := by simp; omega
    have hi0 : (pn : Int) < (n t : Int) := by omega
    rw [HR.out]
    clear hov hj hlen h hin
    go_enter Tryz.func114, Tryz.ntmps114
    go_wp2_with (go_at_call 187; refine (hC.out _ (Below.refl _ _)).mono ?_; rintro e w1 ⟨A', c', rfl, hc', _, hi', hb⟩)
    go_ret
    exact ⟨A', c', rfl, JR.of_ir hi', hb⟩
  · have HR : Hid (rowIn (xs t) (n t) p = []) := Lib.hid (by unfold rowIn; rw [if_neg hin])
    rw [HR.out]
    clear h hlen
    by_cases h0 : p < 0
    · have h1 : decide (p < 0) = true := by simpa using h0
      clear hin
      go_enter Tryz.func114, Tryz.ntmps114
      go_wp2
      go_ret
      exact ⟨none, 0, rfl, jr_nil _, Below.refl _ _⟩
    · have h1 : decide (p < 0) = false := by simpa using h0
      have h2 : decide ((n t : Int) ≤ p) = true := by simp; omega
      clear hin h0
      go_enter Tryz.func114, Tryz.ntmps114
      go_wp2
      go_ret
      exact ⟨none, 0, rfl, jr_nil _, Below.refl _ _⟩
section
variable {b : Nat} {T : TP} {x : Cfg} {gs : List Int}
theorem TW.next {w w' : World} (h : TW w b T x gs) (hb : Below w.heap.size w w') : TW w' b T x gs := by
  obtain ⟨nn, D, h1, h2⟩ := h.at_
  exact ⟨h.net.fr (Fr2.below hb), h.blk.next hb, h.tab.next hb, ⟨nn, D, map_same h1 (fun es clock e => (hb.block T.mb (Array.getElem?_eq_some_iff.1 e).1).trans e), h2⟩, ownk_next h.gr hb⟩
set_option maxHeartbeats 1000000 in
theorem ton_any (p : Int) (w : World) (h : TW w b T x gs) :
    Calls Tryz.prog 76 #[.pointer (some ⟨T.N, 0, none⟩), .int .i64 p] w fun e w' => ∃ A c, e = .returned (.slice A (rowIn (tabs x x.ps.length x.ps.length x.ms.length 0) x.ls.length p).length c) ∧ JR w' A (rowIn (tabs x x.ps.length x.ps.length x.ms.length 0) x.ls.length p).length (rowIn (tabs x x.ps.length x.ps.length x.ms.length 0) x.ls.length p) ∧ Below w.heap.size w w' := by
  have hp6 := h.net.oks.2.2.1.2
  have hpl := h.net.len.2.2.1
  have hm6 := h.net.oks.2.2.2.2.2.2.2
  have hml := h.net.len.2.2.2.2.2.2
  have hC := Lib.hid (fun W (hW : Below w.heap.size w W) => listat_any 0 (by decide) (T.G 0) rfl p W (h.next hW).tab (fun i => tabs_len x _ _ _ 0 i 1000000 (by omega) (by omega) (by omega)))
  have hs : sizes x 0 = x.ls.length := by simp [sizes]
  rw [hs] at hC
  have y : w.cell? ⟨T.N, 7, none⟩ = some (.slice (some ⟨T.G 0, 0, none⟩) x.ls.length x.ls.length) := h.blk.cell 7
  clear h hp6 hpl hm6 hml hs
  generalize (tabs x x.ps.length x.ps.length x.ms.length 0) = R at *
  go_enter Tryz.func76, Tryz.ntmps76
  go_wp2_with (go_at_call 114; refine (hC.out _ (Below.refl _ _)).mono ?_; rintro e w1 ⟨A, c, rfl, hj, hb⟩)
  go_ret
  exact ⟨A, c, rfl, hj, hb⟩
set_option maxHeartbeats 1000000 in
theorem tof_any (p : Int) (w : World) (h : TW w b T x gs) :
    Calls Tryz.prog 56 #[.pointer (some ⟨T.N, 0, none⟩), .int .i64 p] w fun e w' => ∃ A c, e = .returned (.slice A (rowIn (tabs x x.ps.length x.ps.length x.ms.length 1) x.rs.length p).length c) ∧ JR w' A (rowIn (tabs x x.ps.length x.ps.length x.ms.length 1) x.rs.length p).length (rowIn (tabs x x.ps.length x.ps.length x.ms.length 1) x.rs.length p) ∧ Below w.heap.size w w' := by
  have hp6 := h.net.oks.2.2.1.2
  have hpl := h.net.len.2.2.1
  have hm6 := h.net.oks.2.2.2.2.2.2.2
  have hml := h.net.len.2.2.2.2.2.2
  have hC := Lib.hid (fun W (hW : Below w.heap.size w W) => listat_any 1 (by decide) (T.G 1) rfl p W (h.next hW).tab (fun i => tabs_len x _ _ _ 1 i 1000000 (by omega) (by omega) (by omega)))
  have hs : sizes x 1 = x.rs.length := by simp [sizes]
  rw [hs] at hC
  have y : w.cell? ⟨T.N, 8, none⟩ = some (.slice (some ⟨T.G 1, 0, none⟩) x.rs.length x.rs.length) := h.blk.cell 8
  clear h hp6 hpl hm6 hml hs
  generalize (tabs x x.ps.length x.ps.length x.ms.length 1) = R at *
  go_enter Tryz.func56, Tryz.ntmps56
  go_wp2_with (go_at_call 114; refine (hC.out _ (Below.refl _ _)).mono ?_; rintro e w1 ⟨A, c, rfl, hj, hb⟩)
  go_ret
  exact ⟨A, c, rfl, hj, hb⟩
set_option maxHeartbeats 1000000 in
theorem tat_any (a : Int) (ha : U32 a) (w : World) (h : TW w b T x gs) :
    Calls Tryz.prog 54 #[.pointer (some ⟨T.N, 0, none⟩), .int .u32 a] w fun e w' => e = .returned (.tuple #[.int .i64 (((lastAt a x.ps x.ps.length).getD 0 : Nat) : Int), .bool (lastAt a x.ps x.ps.length).isSome]) ∧ Below w.heap.size w w' := by
  obtain ⟨nn, D, hm, hd⟩ := h.at_
  obtain ⟨e1, e2⟩ := hd a ha
  have hz : (zeroValue 3).run Tryz.prog w = .ok (.int .i64 0) w := by kernel_rfl
  obtain ⟨v, ps, hrun, hv⟩ := hm.look_ok keyedU Tryz.underlying110 hz (plainElem_int Tryz.underlying3 (by decide)) (keyOf_int_mk Tryz.underlying42 (wf_a ha))
  rw [e2] at hv
  obtain ⟨c, rfl, hc, _⟩ := plainElem_int_inv Tryz.underlying3 hv
  simp only [Prod.mk.injEq, DataW.lit.injEq, Lit.int.injEq, true_and] at hc
  obtain ⟨rfl, _⟩ := hc
  rw [e1] at hrun
  have y : w.cell? ⟨T.N, 10, none⟩ = some (.map (some T.mb)) := h.blk.cell 10
  clear h hm hd e1 e2 hz hv
  generalize (lastAt a x.ps x.ps.length).isSome = B at *
  generalize (lastAt a x.ps x.ps.length).getD 0 = K at *
  go_enter Tryz.func54, Tryz.ntmps54
  go_wp2
  go_ret2
  exact ⟨rfl, Below.refl _ _⟩
end
end Go.Proofs.YtdljpokhcfhhfaaGreatDoor
namespace Go.Proofs.YtdljpokhcfhhfaaGreatDoor
open Go.RowKit Lx Sm Go.Maps
theorem picks_mem {α : Type} {p : α → Bool} {xs : List α} : ∀ {n : Nat} {q : Int}, q ∈ picks p xs n → ∃ j : Nat, j < n ∧ q = j ∧ ∃ y, xs[j]? = some y ∧ p y = true
  | 0, _, h => by cases h
  | n + 1, q, h => by
    unfold picks at h
    rcases List.mem_append.1 h with h | h
    · obtain ⟨j, hj, e, hy⟩ := picks_mem h
      exact ⟨j, by omega, e, hy⟩
    · cases hx : xs[n]? with
      | none => rw [hx] at h; cases h
      | some y =>
        rw [hx] at h
        dsimp only at h
        split at h
        · simp only [List.mem_singleton] at h
          exact ⟨n, by omega, h, y, hx, by assumption⟩
        · cases h
/-- is a port another router's? -/
def isO (ps : List (Int × Int × Int)) (r : Int) (q : Int) : Bool := match ps[q.toNat]? with | some y => y.1 != r | none => false
/-- the ports of other routers on a port's link -/
def oth (ps : List (Int × Int × Int)) (r l : Int) : List Int := (picks (fun y => y.2.1 == l) ps ps.length).filter (isO ps r)
set_option maxHeartbeats 2000000 in
set_option maxRecDepth 100000 in
theorem tothers_any {b : Nat} {T : TP} {x : Cfg} {gs : List Int} (p lN : Nat) (r1 a1 : Int) (hp : x.ps[p]? = some (r1, (lN : Int), a1)) (hlN : lN < x.ls.length) (w : World) (h : TW w b T x gs) :
    Calls Tryz.prog 115 #[.pointer (some ⟨T.N, 0, none⟩), .int .i64 (p : Int)] w fun e w' => ∃ A c, e = .returned (.slice A (oth x.ps r1 lN).length c) ∧ JR w' A (oth x.ps r1 lN).length (oth x.ps r1 lN) ∧ Below w.heap.size w w' := by
  obtain ⟨i0, hi, hz0, hz1, hz2⟩ := info_parts info_int
  have hpl : p < x.ps.length := (List.getElem?_eq_some_iff.1 hp).1
  have hml := h.net.len.2.2.1
  have hp6 := h.net.oks.2.2.1.2
  obtain ⟨v, hcv, hov⟩ := h.tab.cell (t := 0) (by decide) (i := lN) (by simpa [sizes] using hlN)
  have ht : tabs x x.ps.length x.ps.length x.ms.length 0 lN = picks (fun y => y.2.1 == (lN : Int)) x.ps x.ps.length := rfl
  rw [ht] at hov
  obtain ⟨A, c, rfl, hj⟩ := own_jr hov
  have hLl := picks_len (fun y => y.2.1 == (lN : Int)) x.ps x.ps.length
  have HM : Hid (∀ q ∈ picks (fun y => y.2.1 == (lN : Int)) x.ps x.ps.length, ∃ j : Nat, j < x.ps.length ∧ q = j) := Lib.hid fun q hq => by
    obtain ⟨j, h1, h2, _⟩ := picks_mem hq
    exact ⟨j, h1, h2⟩
  have HO : Hid (oth x.ps r1 lN = (picks (fun y => y.2.1 == (lN : Int)) x.ps x.ps.length).filter (isO x.ps r1)) := rfl
  generalize picks (fun y => y.2.1 == (lN : Int)) x.ps x.ps.length = L at *
  have y2 : w.cell? ⟨T.N, 2, none⟩ = some (.slice T.M.p.A T.M.p.n T.M.p.c) := h.blk.cell 2
  have y7 : w.cell? ⟨T.N, 7, none⟩ = some (.slice (some ⟨T.G 0, 0, none⟩) x.ls.length x.ls.length) := h.blk.cell 7
  have hip := h.net.cw.p
  obtain ⟨pb, po, xx, hA, hpb, hx, hc⟩ := IR.at_ hip (show p < T.M.p.n by omega)
  rw [hp] at hx
  cases hx
  have d0 : w.cell? ⟨pb, po + p * 3, none⟩ = some (.int .i64 r1) := hc 0 _ rfl
  have d1 : w.cell? ⟨pb, po + p * 3 + 1, none⟩ = some (.int .i64 (lN : Int)) := hc 1 _ rfl
  have d2 : w.cell? ⟨pb, po + p * 3 + 2, none⟩ = some (.int .u32 a1) := hc 2 _ rfl
  have h1 : decide ((p : Int) < 0) = false := by simp
  have h2 : decide ((T.M.p.n : Int) ≤ (p : Int)) = false := by simp; omega
  have hb0 : (p : Int) < (T.M.p.n : Int) := by omega
  have hb1 : (lN : Int) < (x.ls.length : Int) := by omega
  have HIP := Lib.hid hip
  have HJ := Lib.hid hj
  have HTN := Lib.hid h.blk.lt
  have HGL := Lib.hid (World.block_lt_of_cell? w _ hcv)
  rw [HO.out]
  rw [hA] at y2
  have HA := Lib.hid hA
  have HP := Lib.hid hp
  have HLL := Lib.hid (show L.length ≤ 1000000 by omega)
  have HML := Lib.hid hml
  clear hc hip hj hov ht h hA hp hml hpl hLl hlN hp6
  generalize hFR : List.filter (isO x.ps r1) L = FR at *
  have HFR := Lib.hid hFR
  clear hFR
  have hn2 : T.M.p.n ≠ 0 := by omega
  generalize T.M.p.n = pn at *
  generalize T.N = N at *
  generalize T.G 0 = g0 at *
  generalize T.M.p.c = pc at *
  generalize x.ls.length = nl at *
  go_enter Tryz.func115, Tryz.ntmps115
  go_wp2
  have HB5 := Lib.hid ((Below.refl w.heap.size w).alloc (Nat.le_refl _) (.cells #[.int .i64 r1, .int .i64 (lN : Int), .int .u32 a1] 80))
  have HV : Hid (Blk (w.alloc (.cells #[.int .i64 r1, .int .i64 (lN : Int), .int .u32 a1] 80)) w.heap.size 80 #[.int .i64 r1, .int .i64 (lN : Int), .int .u32 a1]) := Lib.hid (Blk.new _ _ _)
  have HY7 := Lib.hid y7
  have HCV := Lib.hid hcv
  clear y2 y7 d0 d1 d2 hcv
  generalize w.alloc (.cells #[.int .i64 r1, .int .i64 (lN : Int), .int .u32 a1] 80) = W1 at *
  have z7 : W1.cell? ⟨N, 7, none⟩ = some (.slice (some ⟨g0, 0, none⟩) nl nl) := (HB5.out.cell (p := ⟨N, 7, none⟩) HTN.out).trans HY7.out
  have z1 : W1.cell? ⟨w.heap.size, 1, none⟩ = some (.int .i64 (lN : Int)) := HV.out.cell 1
  have zr : W1.cell? ⟨g0, lN, none⟩ = some (.slice A L.length c) := (HB5.out.cell (p := ⟨g0, lN, none⟩) HGL.out).trans HCV.out
  go_quiet (fail)
  clear z7 z1 zr
  have HB2 := Lib.hid (HB5.out.trans ((below_drewN (Below.refl W1.heap.size W1) nq).mono HB5.out.size))
  have HV2 := Lib.hid (HV.out.next (below_drewN (Below.refl W1.heap.size W1) nq))
  generalize W1.drewN nq = W2 at *
  go_wp2
  have hll : L.length ≤ 1000000 := HLL.out
  go_loopw [7, 36] (fun v i wr => ∃ k : Nat, k ≤ L.length ∧ i = .int .i64 k ∧ Hid (wr.ownsRow W2.heap.size 3 1 v ((L.take k).filter (isO x.ps r1)).length (I64 ((L.take k).filter (isO x.ps r1)))) ∧ Hid (Below W2.heap.size W2 wr)) (fun _ i _ => L.length - (intOf i).toNat)
  case atStart => exact ⟨0, Nat.zero_le _, rfl, Lib.hid (by simpa [I64] using World.ownsRow_nil _ _ _ _), Lib.hid (Below.refl _ _)⟩
  case round =>
    obtain ⟨k, hk, rfl, HOW, HB⟩ := hrel
    rcases Nat.lt_or_ge k L.length with hlt | hge
    · have hbw := HB2.out.trans (HB.out.mono HB2.out.size)
      obtain ⟨b2, o2, rfl, hb2, hc2⟩ := (HJ.out.next hbw).at_ hlt
      have HT := Lib.hid (take_next (xs := L) (k := k) hlt)
      obtain ⟨j, hj, hq⟩ := HM.out (L.getD k 0) (by simp [List.getD, hlt])
      obtain ⟨b3, o3, yy, hA3, _, hx3, hc3⟩ := IR.at_ (IR.next HIP.out hbw) (show j < pn by have := HML.out; omega)
      rw [HA.out] at hA3
      cases hA3
      obtain ⟨ry, ly, ay⟩ := yy
      have hisO : isO x.ps r1 (L.getD k 0) = (ry != r1) := by
        rw [hq]
        unfold isO
        simp [hx3]
      rw [hq] at hc2 HT hisO
      have e0 : wr.cell? ⟨pb, po + j * 3, none⟩ = some (.int .i64 ry) := hc3 0 _ rfl
      have e1 : wr.cell? ⟨w.heap.size, 0, none⟩ = some (.int .i64 r1) := (HV2.out.next HB.out).cell 0
      have hi0 : (k : Int) < (L.length : Int) := by omega
      have hi1 : (j : Int) < (pn : Int) := by have := HML.out; omega
      have HF : Hid (((L.take (k + 1)).filter (isO x.ps r1)) = (L.take k).filter (isO x.ps r1) ++ if (ry != r1) = true then [(j : Int)] else []) := Lib.hid (by rw [HT.out, List.filter_append, List.filter_cons, hisO, List.filter_nil])
      have HFL := Lib.hid (show ((L.take k).filter (isO x.ps r1)).length ≤ 1000000 from Nat.le_trans (List.length_filter_le _ _) (by rw [List.length_take]; have := HLL.out; omega))
      clear hc3 hx3 hbw hb2 hq hisO HT hj
      generalize (L.take k).filter (isO x.ps r1) = F0 at *
      by_cases hne : ry = r1
      · have hn1 : (ry != r1) = false := by simpa using hne
        rw [hn1] at HF
        clear hne
        go_wp2
        go_quiet (fail)
        have HW3 := Lib.hid (below_drewN (Below.refl wr.heap.size wr) nq)
        generalize wr.drewN nq = w3 at *
        go_wp2
        go_roundw
        case rel => exact ⟨k + 1, by omega, by go_num, Lib.hid (by rw [HF.out]; simpa using ownk_next HOW.out HW3.out), Lib.hid (HB.out.trans (HW3.out.mono HB.out.size))⟩
        case measure => simp [intOf]; omega
      · have hn1 : (ry != r1) = true := by simpa using hne
        rw [hn1] at HF
        clear hne
        go_wp2
        go_quiet (fail)
        have HW3 := Lib.hid (below_drewN (Below.refl wr.heap.size wr) nq)
        generalize wr.drewN nq = w3 at *
        have HO3 := Lib.hid (ownk_next HOW.out HW3.out)
        have HB3 := Lib.hid (HB.out.trans (HW3.out.mono HB.out.size))
        clear HOW HB
        clear e0 e1 hc2
        go_wp2_with (at_builtin; refine wpList_append_own _ rfl _ _ 52 rfl W2.heap.size 3 i0 (.int .i64 0) 1 8 Tryz.underlying52 hi hz0 hz1 hz2 rfl (by decide) _ F0.length (I64 F0) rfl (HO3.out.alloc _) ⟨w3.heap.size, 0, none⟩ 1 1 [.int .i64 (j : Int)] rfl rfl (cell_one_new _ _ _) (by intro x hx; simp at hx; subst hx; rfl) (by have := HFL.out; unfold maxLen; omega) (by have := HFL.out; omega) (by have := HB3.out.size; simp; omega) ?_; intro v' w1 hown1 hgrow1 _)
        have hb1 : Below W2.heap.size W2 w1 := (HB3.out.alloc HB3.out.size _).grown hgrow1 (by have := HB3.out.size; simp; omega) (fun j e => (HO3.out.lt j e).1)
        have HO1 := Lib.hid hown1
        have HB1 := Lib.hid hb1
        clear hown1 hgrow1 hb1
        go_roundw
        case rel => exact ⟨k + 1, by omega, by go_num, Lib.hid (by rw [HF.out, I64_app, List.length_append]; exact HO1.out), HB1⟩
        case measure => simp [intOf]; omega
    · obtain rfl : k = L.length := by omega
      have hown := HOW.out
      rw [List.take_of_length_le (Nat.le_refl _), HFR.out] at hown
      obtain ⟨A', c', rfl, hj'⟩ := own_jr hown
      have HJ' := Lib.hid hj'
      clear hown hj' HOW
      go_wp2
      go_ret
      exact ⟨A', c', rfl, HJ'.out, HB2.out.trans (HB.out.mono HB2.out.size)⟩
end Go.Proofs.YtdljpokhcfhhfaaGreatDoor

