/- quer.addrs: the addresses of ports; quer.Of: the port that asks on a link; over the seat's program. -/
import Derived.Test.YtbeoalmcibnpaaaGreatDoorQr
import Derived.Test.YtbeoalmcibnpaaaGreatDoorTn
import Derived.Test.YtbeoalmcibnpaaaGreatDoorCg
import Derived.Test.YtbeoalmcibnpaaaGreatDoorAppA
namespace Go.Proofs.YtbeoalmcibnpaaaGreatDoor
open Go.ChangeShapes Go.WideShapes Go.ChangeAt Go.RowKit Lx Sm Go.Maps
theorem picks_nat {α : Type} {p : α → Bool} {xs : List α} : ∀ {n : Nat} {q : Int}, q ∈ picks p xs n → ∃ j : Nat, q = (j : Int) ∧ j < n ∧ ∃ y, xs[j]? = some y ∧ p y = true
  | 0, q, h => by simp [picks] at h
  | n + 1, q, h => by
    unfold picks at h
    rw [List.mem_append] at h
    rcases h with h | h
    · obtain ⟨j, h1, h2, h3⟩ := picks_nat h
      exact ⟨j, h1, by omega, h3⟩
    · split at h
      · rename_i y hy
        split at h
        · rename_i hp
          simp at h
          exact ⟨n, h, by omega, y, hy, hp⟩
        · cases h
      · cases h
/-- a link's ports -/
theorem rowO_all {x : Cfg} (h : ∀ y ∈ x.ps, 0 ≤ y.1 ∧ y.1 < x.rs.length ∧ 0 ≤ y.2.1 ∧ y.2.1 < x.ls.length) (p : Int) : rowO x p = picks (fun y => y.2.1 == p) x.ps x.ps.length := by
  by_cases hp : 0 ≤ p ∧ p < (x.ls.length : Int)
  · exact rowO_at hp.1 hp.2
  · have h1 : rowO x p = [] := rowIn_out hp
    have h2 : picks (fun y : Int × Int × Int => y.2.1 == p) x.ps x.ps.length = [] := by
      rw [List.eq_nil_iff_forall_not_mem]
      intro q hq
      obtain ⟨j, _, _, y, hy, he⟩ := picks_nat hq
      have := h y (List.mem_of_getElem? hy)
      simp only [beq_iff_eq] at he
      omega
    rw [h1, h2]
/-- the addresses of ports -/
def adP (ps : List (Int × Int × Int)) (P : List Int) : List Int := P.map fun q => (ps.getD q.toNat (0, 0, 0)).2.2
theorem adP_take {ps : List (Int × Int × Int)} {P : List Int} {k j : Nat} {y : Int × Int × Int} (h : P[k]? = some (j : Int)) (hy : ps[j]? = some y) : adP ps (P.take (k + 1)) = adP ps (P.take k) ++ [y.2.2] := by
  unfold adP
  rw [List.take_add_one, h]
  simp [List.getD, hy]
theorem adP_len (ps : List (Int × Int × Int)) (P : List Int) : (adP ps P).length = P.length := by simp [adP]
theorem set_pad (l : List Int) (m k : Nat) (v : Int) (h : l.length = k) : (l ++ List.replicate (m + 1) 0).set k v = (l ++ [v]) ++ List.replicate m 0 := by
  subst h
  rw [List.set_append_right _ _ (Nat.le_refl _)]; simp [List.replicate_succ]
set_option maxRecDepth 100000 in
set_option maxHeartbeats 4000000 in
theorem qaddrs_any (M : Cm) (ps : List (Int × Int × Int)) (B : Option Addr) (n c : Nat) (P : List Int) (w : World) (hi : IPort w M.p.A M.p.n ps) (hj : JR w B n P) (hP : ∀ q ∈ P, ∃ j : Nat, q = (j : Int) ∧ j < ps.length) (hu : ∀ y ∈ ps, isA y.2.2) (hn : n ≤ 1000) (hnl : P.length = n) :
    Calls Tryz.prog 108 #[.agg #[.slice M.r.A M.r.n M.r.c, .slice M.l.A M.l.n M.l.c, .slice M.p.A M.p.n M.p.c, .slice M.o.A M.o.n M.o.c, .slice M.g.A M.g.n M.g.c, .slice M.s.A M.s.n M.s.c, .slice M.m.A M.m.n M.m.c], .slice B n c] w fun e w' => ∃ (A' : Option Addr), e = .returned (.slice A' n n) ∧ AR w' A' n (adP ps P) ∧ Below w.heap.size w w' := by
  obtain ⟨i0, hi0', hz0, hz1, hz2⟩ := infoA'
  have HB0 := Lib.hid ((Below.refl w.heap.size w).alloc (Nat.le_refl _) (.cells #[.slice M.r.A M.r.n M.r.c, .slice M.l.A M.l.n M.l.c, .slice M.p.A M.p.n M.p.c, .slice M.o.A M.o.n M.o.c, .slice M.g.A M.g.n M.g.c, .slice M.s.A M.s.n M.s.c, .slice M.m.A M.m.n M.m.c] 30))
  have HK := Lib.hid (Blk.new w 30 #[.slice M.r.A M.r.n M.r.c, .slice M.l.A M.l.n M.l.c, .slice M.p.A M.p.n M.p.c, .slice M.o.A M.o.n M.o.c, .slice M.g.A M.g.n M.g.c, .slice M.s.A M.s.n M.s.c, .slice M.m.A M.m.n M.m.c])
  have HI := Lib.hid (IR.next hi HB0.out)
  have HJ := Lib.hid (hj.next HB0.out)
  have hpl := hi.len
  have HP := Lib.hid hP
  have HU := Lib.hid hu
  clear hi hj hP hu
  go_enter Tryz.func108, Tryz.ntmps108
  go_upto_region 1 with fail
  generalize w.alloc (.cells #[.slice M.r.A M.r.n M.r.c, .slice M.l.A M.l.n M.l.c, .slice M.p.A M.p.n M.p.c, .slice M.o.A M.o.n M.o.c, .slice M.g.A M.g.n M.g.c, .slice M.s.A M.s.n M.s.c, .slice M.m.A M.m.n M.m.c] 30) = W1 at *
  go_wp2_with (at_make; refine wpList_make_full _ rfl _ _ 44 rfl W1.heap.size 32 i0 (.int .u32 0) 1 Tryz.underlying44 hi0' hz0 hz1 .i64 .i64 (n : Int) (n : Int) n rfl rfl rfl rfl (by rw [hz2]; omega) (by unfold maxLen; omega) (Nat.le_refl _) ?_; intro w2 hown hgrow)
  have HB2 := Lib.hid ((Below.refl W1.heap.size W1).grown hgrow (Nat.le_refl _) (by intro j hj; cases hj))
  have HO2 : Hid (w2.ownsRow W1.heap.size 32 1 (.slice (some ⟨W1.heap.size, 0, none⟩) n n) n (A32 (adP ps (P.take 0) ++ List.replicate (n - 0) 0))) := Lib.hid (by
    have e : (madeCells (Value.int .u32 0).cells (n * 1)).toList = A32 (adP ps (P.take 0) ++ List.replicate (n - 0) 0) := by
      have e1 : (Value.int .u32 0).cells = #[.int .u32 0] := rfl
      rw [e1, toList_madeCells_one]
      simp [A32, adP]
    rw [← e]; exact hown)
  have hg2 : W1.heap.size < w2.heap.size := (hown.lt W1.heap.size rfl).2
  clear hown hgrow
  generalize hg : W1.heap.size = g at *
  go_loopw [13] (fun iv wr => ∃ k : Nat, k ≤ n ∧ iv = .int .i64 k ∧ Hid (wr.ownsRow g 32 1 (.slice (some ⟨g, 0, none⟩) n n) n (A32 (adP ps (P.take k) ++ List.replicate (n - k) 0))) ∧ Hid (Below g W1 wr)) (fun iv _ => n - (intOf iv).toNat)
  case atStart => exact ⟨0, Nat.zero_le _, rfl, HO2, HB2⟩
  case round =>
    obtain ⟨k, hk, rfl, HO, HB⟩ := hrel
    have hbw : Below W1.heap.size W1 wr := by rw [hg]; exact HB.out
    rcases Nat.lt_or_ge k n with hlt | hge
    · obtain ⟨b, oo, rfl, hbl, hx⟩ := (HJ.out.next hbw).at_ hlt
      have hgk : P[k]? = some (P.getD k 0) := by rw [List.getD_eq_getElem?_getD, List.getElem?_eq_getElem (by omega)]; rfl
      obtain ⟨j, hj, hjl⟩ := HP.out _ (List.mem_of_getElem? hgk)
      rw [hj] at hx hgk
      clear hj
      obtain ⟨bq, oq, ⟨r1, l1, a1⟩, hA, hbq, hy, c0, c1, c2⟩ := IPort.cells (IR.next HI.out hbw) (show j < M.p.n by omega)
      have HT := Lib.hid (adP_take hgk hy)
      have hkl : (adP ps (P.take k)).length = k := by rw [adP_len, List.length_take]; omega
      have hi0 : (k : Int) < (n : Int) := by omega
      have hi1 : (0 : Int) ≤ (k : Int) := by omega
      have hj0 : (j : Int) < (M.p.n : Int) := by omega
      have hj1 : (0 : Int) ≤ (j : Int) := by omega
      have y2 : wr.cell? ⟨w.heap.size, 2, none⟩ = some (.slice M.p.A M.p.n M.p.c) := (HK.out.next hbw).cell 2
      rw [hA] at y2
      have f0 : wr.frozen? ⟨g, k, none⟩ = false := HO.out.frozenAt k
      have z0 : wr.cell? ⟨g, k, none⟩ = some (.int .u32 0) := by
        have := HO.out.cellAt k (by omega)
        rw [this]
        have h1 : (A32 (adP ps (P.take k) ++ List.replicate (n - k) 0))[k]? = some (.int .u32 0) := by
          unfold A32
          rw [List.getElem?_map, List.getElem?_append_right (by omega), hkl, Nat.sub_self, List.getElem?_replicate, if_pos (by omega)]
          rfl
        exact h1
      have HO3 : Hid ((wr.setCell ⟨g, k, none⟩ (.int .u32 a1)).ownsRow g 32 1 (.slice (some ⟨g, 0, none⟩) n n) n (A32 (adP ps (P.take (k + 1)) ++ List.replicate (n - (k + 1)) 0))) := Lib.hid (by
        rw [HT.out, ← set_pad _ _ k _ hkl, show n - (k + 1) + 1 = n - k by omega]
        exact own_seta HO.out k a1)
      have HB3 := Lib.hid (HB.out.setCell (p := ⟨g, k, none⟩) (Nat.le_refl _) (.int .u32 a1))
      clear hgk hbl hy hA hbq c0 c1 HO HB hbw hkl
      go_wp2
      go_roundw
      case rel => exact ⟨k + 1, hlt, by go_num, HO3, HB3⟩
      case measure => simp [intOf]; omega
    · obtain rfl : k = n := by omega
      have hd : decide ((k : Int) < (k : Int)) = false := by simp
      have HOz : Hid (wr.ownsRow g 32 1 (.slice (some ⟨g, 0, none⟩) k k) k (A32 (adP ps P))) := Lib.hid (by
        have := HO.out
        rw [List.take_of_length_le (by omega), Nat.sub_self, List.replicate_zero, List.append_nil] at this
        exact this)
      obtain ⟨A9, c9, e9, _, har, _⟩ := own_forma HOz.out (fun a ha => by
        unfold adP at ha
        obtain ⟨q, hq, rfl⟩ := List.mem_map.1 ha
        obtain ⟨j, rfl, hj⟩ := HP.out q hq
        simp only [Int.toNat_natCast, List.getD, List.getElem?_eq_getElem hj, Option.getD_some]
        exact HU.out _ (List.getElem_mem hj))
      cases e9
      have HA9 := Lib.hid har
      clear har
      go_wp2
      go_ret
      first | exact ⟨_, rfl, HA9.out, HB0.out.trans ((hg ▸ HB.out : Below W1.heap.size W1 wr).mono HB0.out.size)⟩ | exact ⟨_, rfl, HA9.out, HB0.out.trans (hbw.mono HB0.out.size)⟩
/-- which port asks on a link -/
def askP (x : Cfg) (p : Int) : Int := (rowO x p).getD (leastP (adP x.ps (rowO x p)) (rowO x p).length) 0
section
variable {b : Nat} {T : TP} {x x' : Cfg} {gs : List Int}
set_option maxRecDepth 100000 in
set_option maxHeartbeats 4000000 in
theorem qof_any (p : Int) (w : World) (h : TW w b T x' gs) (k : Alike x x') (hk : LtOK x') :
    Calls Tryz.prog 66 #[.pointer (some ⟨T.N, 0, none⟩), .int .i64 p] w fun e w' => e = .returned (.tuple #[.int .i64 (if 0 < (rowO x p).length then askP x p else 0), .bool (decide (0 < (rowO x p).length))]) ∧ Below w.heap.size w w' := by
  have HON := Lib.hid (on_al p w h k)
  have HCF := Lib.hid (fun W (hW : Below w.heap.size w W) => config_any W (h.next hW) hk.rn hk.ln)
  have hle := rowO_le x p
  have hp24 : x.ps.length ≤ 24 := by have := hk.pl; rw [k.p] at this; exact this
  have HMEM : Hid (∀ q ∈ rowO x p, ∃ j : Nat, q = (j : Int) ∧ j < x.ps.length) := Lib.hid (fun q hq => by
    rw [← rowO_alike k p, rowO_all hk.po, k.p] at hq
    obtain ⟨j, h1, h2, _⟩ := picks_nat hq
    exact ⟨j, h1, h2⟩)
  have HASK : Hid (askP x p = (rowO x p).getD (leastP (adP x.ps (rowO x p)) (rowO x p).length) 0) := Lib.hid rfl
  have HKP := Lib.hid k.p
  generalize askP x p = V at *
  generalize rowO x p = P at *
  clear h k hk
  go_enter Tryz.func66, Tryz.ntmps66
  go_wp2_with fail
  refine HON.out.mono ?_
  rintro e w1 ⟨A, c, rfl, hj, hb1⟩
  have HJ := Lib.hid hj
  have HB1 := Lib.hid hb1
  have HC := Lib.hid (HCF.out w1 hb1)
  clear hj hb1 HCF HON
  go_wp2_with fail
  refine HC.out.mono ?_
  rintro e w2 ⟨M, x2, rfl, hc, hal, hb2⟩
  have HQ := Lib.hid (qaddrs_any M x2.ps A P.length c P w2 hc.cw.p (HJ.out.next hb2) (fun q hq => by rw [hal.p, HKP.out]; exact HMEM.out q hq) (fun y hy => hc.cw.ok.2.1 y hy) (by omega) rfl)
  have HJ2 := Lib.hid (HJ.out.next hb2)
  have HB2 := Lib.hid (below_next HB1.out hb2)
  rw [hal.p, HKP.out] at HQ
  clear hc hal hb2 HC HJ HB1
  go_wp2_with fail
  refine HQ.out.mono ?_
  rintro e w3 ⟨A3, rfl, har, hb3⟩
  have HL := Lib.hid (least_any A3 P.length P.length _ w3 har (by omega))
  have HJ3 := Lib.hid (HJ2.out.next hb3)
  have HB3 := Lib.hid (below_next HB2.out hb3)
  clear har hb3 HQ HJ2 HB2
  go_wp2_with fail
  refine HL.out.mono ?_
  rintro e w4 ⟨rfl, hb4⟩
  have HJ4 := Lib.hid (HJ3.out.next hb4)
  have HB4 := Lib.hid (below_next HB3.out hb4)
  have hlt := leastP_lt (adP x.ps P) P.length
  clear hb4 HL HJ3 HB3
  generalize hN : leastP (adP x.ps P) P.length = N at *
  by_cases h0 : 0 < P.length
  · have hd : decide (0 < P.length) = true := by simpa using h0
    obtain ⟨b2, o2, rfl, hbl, hx⟩ := HJ4.out.at_ (show N < P.length by omega)
    have e0 : (N : Int) < (P.length : Int) := by omega
    have e1 : (0 : Int) ≤ (N : Int) := by omega
    rw [← HASK.out] at hx
    clear hbl
    go_wp2
    go_ret2
    refine ⟨?_, HB4.out⟩
    simp
  · have hd : decide (0 < P.length) = false := by simpa using h0
    go_wp2
    go_ret2
    refine ⟨?_, HB4.out⟩
    simp
end
end Go.Proofs.YtbeoalmcibnpaaaGreatDoor

