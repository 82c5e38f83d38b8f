/- package keys: counted, Sort; over the seat's program. package keys: Sort, sent, Sent, Known, asked, All; over the seat's program. package keys: Sent, Known, asked, All; over the seat's program. The chapter's example of stage 16; over the seat's program. -/
import Derived.Test.YtgicmgljllaliaaGreatDoorKt
import Derived.Test.YtgicmgljllaliaaGreatDoorEn
import Derived.Test.YtgicmgljllaliaaGreatDoorRg
import Derived.Test.YtgicmgljllaliaaGreatDoorCg
import Derived.Test.YtgicmgljllaliaaGreatDoorTn
import Derived.Test.YtgicmgljllaliaaGreatDoorFt
import Derived.Deep.RegionHeld3
import Derived.Test.YtgicmgljllaliaaGreatDoorLt
import Derived.Test.YtgicmgljllaliaaGreatDoorSy
namespace Go.Proofs.YtgicmgljllaliaaGreatDoor
open Go.RowKit Sm Go.Maps Go.Sort Go.Shelf
theorem grown_trK {w w1 w2 : World} {b : Nat} (h1 : w.grownBy w1 (some b)) (h2 : w1.grownBy w2 (some b)) : w.grownBy w2 (some b) :=
  ⟨h2.os.trans h1.os, h2.tape.trans h1.tape, h2.output.trans h1.output, Nat.le_trans h1.size h2.size, fun k hk hne => (h2.block k (Nat.lt_of_lt_of_le hk h1.size) hne).trans (h1.block k hk hne)⟩
theorem zeroI (W : World) : (zeroValue 3).run Tryz.prog W = .ok (.int .i64 0) W := by kernel_rfl
set_option maxRecDepth 100000 in
set_option maxHeartbeats 4000000 in
theorem counted_any (A : Option Addr) (n c : Nat) (xs : List (Int × Int)) (w : World) (h : RI CKy 2 w A n xs) (hu : ∀ k ∈ xs, UK k) (hn : n ≤ 1000000) :
    Calls Tryz.prog 31 #[.slice A n c] w fun e w' => ∃ (mb : Nat) (D : DataW Unit), e = .returned (.map (some mb)) ∧ CntK D xs ∧ w'.ownsMap Tryz.prog 44 (plainElem (H := Unit) Tryz.prog 3) mb n D ∧ Below w.heap.size w w' := by
  have H := Lib.hid h
  have HU := Lib.hid hu
  have HN := Lib.hid h.len
  have hmm := @run_makeMap Tryz.prog
  clear h hu
  go_enter Tryz.func31, Tryz.ntmps31
  go_upto_region 2 with fail
  have hown : (w.alloc (.map #[] 0)).ownsMap Tryz.prog 44 (plainElem (H := Unit) Tryz.prog 3) w.heap.size 0 (.map []) := by
    have := World.ownsMap_made w Tryz.prog 44 (plainElem (H := Unit) Tryz.prog 3)
    simpa using this
  have HB1 := Lib.hid ((Below.refl w.heap.size w).alloc (Nat.le_refl _) (.map #[] 0))
  clear hmm
  generalize w.alloc (.map #[] 0) = W1 at *
  have HO := Lib.hid hown
  have bwr : ∀ {wr : World}, W1.grownBy wr (some w.heap.size) → Below w.heap.size w wr := fun hg => HB1.out.grown hg HB1.out.size (by intro j hj; cases hj; exact Nat.le_refl _)
  generalize hmb : w.heap.size = mb at *
  clear hown
  go_wp2_with fail
  go_loopw [9] (fun iv wr => ∃ (k : Nat) (D : DataW Unit), k ≤ n ∧ iv = .int .i64 k ∧ Hid (CntK D (xs.take k) ∧ wr.ownsMap Tryz.prog 44 (plainElem (H := Unit) Tryz.prog 3) mb k D ∧ W1.grownBy wr (some mb))) (fun iv _ => n - (intOf iv).toNat)
  case atStart => exact ⟨0, .map [], Nat.zero_le _, rfl, Lib.hid ⟨cntk_nil, HO.out, ⟨rfl, rfl, rfl, Nat.le_refl _, fun _ _ _ => rfl⟩⟩⟩
  case round =>
    obtain ⟨k, D, hk, rfl, HI⟩ := hrel
    have HBw := Lib.hid (bwr HI.out.2.2)
    rcases Nat.lt_or_ge k n with hlt | hge
    · have HR : Hid (RI CKy 2 wr A n xs) := Lib.hid (H.out.next (by rw [hmb]; exact HBw.out))
      obtain ⟨b, o, ⟨s1, g1⟩, rfl, hbl, hx, hcell⟩ := HR.out.at_ hlt
      have qd0 : wr.cell? ⟨b, o + k * 2, none⟩ = some (.int .u32 s1) := hcell 0 _ rfl
      have qd1 : wr.cell? ⟨b, o + k * 2 + 1, none⟩ = some (.int .u32 g1) := hcell 1 _ rfl
      have hi0 : (k : Int) < (n : Int) := by omega
      have hi1 : (0 : Int) ≤ (k : Int) := by omega
      have hu : UK (s1, g1) := HU.out _ (List.mem_of_getElem? hx)
      have HT : Hid (xs.take k ++ [(s1, g1)] = xs.take (k + 1)) := Lib.hid (by rw [List.take_add_one, hx]; rfl)
      have hcl : (xs.take k).count (s1, g1) ≤ k := Nat.le_trans List.count_le_length (by rw [List.length_take]; omega)
      clear hcell hbl hx
      go_upto_region 5 with fail
      have hM := HI.out.2.1.alloc (.cells #[.int .u32 s1, .int .u32 g1] 44)
      have hG := grown_trK HI.out.2.2 (World.grownBy_alloc wr (.cells #[.int .u32 s1, .int .u32 g1] 44) _)
      have c0 : (wr.alloc (.cells #[.int .u32 s1, .int .u32 g1] 44)).cell? ⟨wr.heap.size, 0, none⟩ = some (.int .u32 s1) := by go_simp
      have c1 : (wr.alloc (.cells #[.int .u32 s1, .int .u32 g1] 44)).cell? ⟨wr.heap.size, 1, none⟩ = some (.int .u32 g1) := by go_simp
      generalize wr.alloc (.cells #[.int .u32 s1, .int .u32 g1] 44) = W5 at *
      have hM2 : W5.drew.ownsMap Tryz.prog 44 (plainElem (H := Unit) Tryz.prog 3) mb k D := hM
      obtain ⟨cv, hrun, hat, hwc⟩ := hM2.lookup_int keyedPK Tryz.underlying74 Tryz.underlying3 (zeroI _) (kv_key hu)
      rw [(HI.out.1.2 (s1, g1) hu).2] at hat
      simp only [DataW.lit.injEq, Lit.int.injEq, true_and] at hat
      subst hat
      obtain ⟨W8, hrun8, hm8, hg8⟩ := hM2.update (val := .int .i64 ((((xs.take k).count (s1, g1) : Nat) : Int) + 1)) keyedPK Tryz.underlying74 (by unfold maxLen; omega) (kv_key hu) (plainElem_int Tryz.underlying3 (by simp [Lit.wf, IntKind.min, IntKind.max, IntKind.signed, IntKind.bits]; omega))
      obtain ⟨v0, st, W6, hr1, hg1, hz1, hr2, hr3⟩ := map_entry hM2 keyedPK Tryz.underlying74 (kv_key hu) zeroI hrun hrun8
      have HI8 : Hid (CntK (D.put (klit (s1, g1)) (.lit (.int .i64 ((((xs.take k).count (s1, g1) : Nat) : Int) + 1)))) (xs.take (k + 1)) ∧ W8.ownsMap Tryz.prog 44 (plainElem (H := Unit) Tryz.prog 3) mb (k + 1) (D.put (klit (s1, g1)) (.lit (.int .i64 ((((xs.take k).count (s1, g1) : Nat) : Int) + 1)))) ∧ W1.grownBy W8 (some mb)) :=
        Lib.hid ⟨HT.out ▸ cntk_put HI.out.1 hu, hm8, grown_trK hG ⟨hg8.os, hg8.tape, hg8.output, hg8.size, hg8.block⟩⟩
      generalize hcc : (((xs.take k).count (s1, g1) : Nat) : Int) = cc at *
      have hc0 : 0 ≤ cc := by omega
      have hc1 : cc ≤ 1000000 := by omega
      unfold kv goInt at hr1
      unfold kv at hrun hr2
      unfold goInt at hr3
      clear hm8 hg8 hcl hcc hM hM2 hG hwc hg1 hz1 qd0 qd1 HI hrun8
      go_region
      all_goals
        go_wp2
        go_roundw
        case rel => exact ⟨k + 1, _, hlt, by go_num, HI8⟩
        case measure => simp [intOf]; omega
    · obtain rfl : k = n := by omega
      have hd : decide ((k : Int) < (k : Int)) = false := by simp
      rw [List.take_of_length_le (by rw [HN.out]; exact Nat.le_refl _)] at HI
      have HI2 := Lib.hid HI.out
      clear hd
      go_wp2
      go_ret
      exact ⟨mb, D, rfl, HI2.out.1, HI2.out.2.1, by rw [hmb]; exact HBw.out⟩
end Go.Proofs.YtgicmgljllaliaaGreatDoor
namespace Go.Proofs.YtgicmgljllaliaaGreatDoor
open Go.RowKit Lx Sm Go.Maps Go.Sort Go.Shelf
set_option maxRecDepth 100000 in
set_option maxHeartbeats 2000000 in
theorem ksort_any (A : Option Addr) (n c : Nat) (xs : List (Int × Int)) (w : World) (h : RI CKy 2 w A n xs) (hu : ∀ k ∈ xs, UK k) (hn : n ≤ 1000000) :
    Calls Tryz.prog 17 #[.slice A n c] w fun e w' => ∃ (A' : Option Addr) (c' : Nat), e = .returned (.slice A' (keysS xs).length c') ∧ RI CKy 2 w' A' (keysS xs).length (keysS xs) ∧ Below w.heap.size w w' := by
  have HC := Lib.hid (counted_any A n c xs w h hu hn)
  have HU := Lib.hid hu
  have hln : xs.length ≤ 1000000 := by rw [h.len]; exact hn
  clear h hu
  go_enter Tryz.func17, Tryz.ntmps17
  go_wp2_with fail
  refine HC.out.mono ?_
  rintro e w1 ⟨mb, D, rfl, hD, hown, hb⟩
  have HD := Lib.hid hD
  have kc := callsIn_wide.1 (keys_inK Fence.wide 1 trivial rfl (some mb) w1)
  have hm : (w1.alloc (.cells #[.map (some mb)] 74)).cell? ⟨w1.heap.size, 0, none⟩ = some (.map (some mb)) := by go_simp
  have hB := (Below.refl w1.heap.size w1).alloc (Nat.le_refl _) (.cells #[.map (some mb)] 74)
  have hown2 := hown.alloc (.cells #[.map (some mb)] 74)
  have hs := sortedFunc_anyK #[.pointer (some ⟨w1.heap.size, 0, none⟩)] _ _ _ (Nat.le_trans hown2.size_le hn) (fun ss hss => by rw [(met_keys HD.out HU.out hss).length_eq]; exact Nat.le_trans (nubK_len xs) hln) _ _ (Below.refl _ _) (keys_stopsK Fence.wide 1 trivial rfl (by omega) w1.heap.size mb n D (w1.alloc (.cells #[.map (some mb)] 74)) (by simp) hm hown2)
  have HB := Lib.hid hb
  have HB1 := Lib.hid (below_next hb hB)
  clear hD hown hown2 hm hB hb
  go_wp2_with fail
  refine kc.mono ?_
  rintro e w2 ⟨rfl, rfl⟩
  go_wp2_with fail
  refine hs.mono ?_
  rintro e w3 ⟨A', c', ss, rfl, hS, hri, hb3⟩
  have hp := met_keys HD.out HU.out hS
  have e1 : sortKs ss = keysS xs := sortKs_same (hp.nodup_iff.2 (nubK_nodup xs)) hp
  have e2 : ss.length = (keysS xs).length := by rw [← e1, sortP_lenK]
  rw [e1, e2] at hri
  rw [e2]
  have HRI := Lib.hid hri
  have HB3 := Lib.hid (below_next HB1.out hb3)
  clear hs kc hri hb3 hS hp e1 e2
  go_wp2
  go_ret
  first | exact ⟨A', ⟨c', rfl⟩, HRI.out, HB3.out⟩ | exact ⟨A', c', rfl, HRI.out, HB3.out⟩
theorem elemK : Elem Tryz.prog 38 44 CKy 2 8 := ⟨Tryz.underlying38, (by obtain ⟨i, hi, hz, hs, hb⟩ := info_parts (show (Tryz.prog.info? 44).map (fun i => (i.zero, i.size, i.bytes)) = some (some (.agg #[.int .u32 0, .int .u32 0]), 2, 8) by kernel_rfl); exact ⟨i, _, hi, hz, hs, hb, rfl⟩), fun _ => rfl, fun x u hu => by simp [CKy] at hu; rcases hu with rfl | rfl <;> rfl, by omega, by omega⟩
theorem fld_sources (M : Cm) (w : World) : (Instr.field 30 (.agg #[.slice M.r.A M.r.n M.r.c, .slice M.l.A M.l.n M.l.c, .slice M.p.A M.p.n M.p.c, .slice M.o.A M.o.n M.o.c, .slice M.g.A M.g.n M.g.c, .slice M.s.A M.s.n M.s.c, .slice M.m.A M.m.n M.m.c]) 5).run Tryz.prog w = .ok (.slice M.s.A M.s.n M.s.c) w := by kernel_rfl
theorem fld_members (M : Cm) (w : World) : (Instr.field 30 (.agg #[.slice M.r.A M.r.n M.r.c, .slice M.l.A M.l.n M.l.c, .slice M.p.A M.p.n M.p.c, .slice M.o.A M.o.n M.o.c, .slice M.g.A M.g.n M.g.c, .slice M.s.A M.s.n M.s.c, .slice M.m.A M.m.n M.m.c]) 6).run Tryz.prog w = .ok (.slice M.m.A M.m.n M.m.c) w := by kernel_rfl
/-- the sources' keys -/
def sentP (x : Cfg) : List (Int × Int) := x.ss.map fun y => (y.2.1, y.2.2)
theorem sent_take {x : Cfg} {k : Nat} {y : Int × Int × Int} (h : x.ss[k]? = some y) : ((x.ss.take (k + 1)).map fun y => (y.2.1, y.2.2)) = ((x.ss.take k).map fun y => (y.2.1, y.2.2)) ++ [(y.2.1, y.2.2)] := by
  rw [List.take_add_one, h]; simp
section
variable {b : Nat} {T : TP} {x : Cfg} {gs : List Int}
set_option maxRecDepth 100000 in
set_option maxHeartbeats 2000000 in
theorem sent_any (w : World) (h : TW w b T x gs) (k : LtOK x) :
    Calls Tryz.prog 27 #[.pointer (some ⟨T.N, 0, none⟩)] w fun e w' => ∃ (v : Value), e = .returned v ∧ w'.ownsRow w.heap.size 44 2 v (sentP x).length ((sentP x).flatMap CKy) ∧ Below w.heap.size w w' := by
  have HCF := Lib.hid (config_any w h k.rn k.ln)
  have HS5 := Lib.hid k.sl
  clear h k
  go_enter Tryz.func27, Tryz.ntmps27
  go_upto_region 2 with fail
  go_wp2_with fail
  refine HCF.out.mono ?_
  rintro e w1 ⟨M, x', rfl, hc, hal, hb1⟩
  have HI := Lib.hid hc.cw.s
  have HAL := Lib.hid hal
  have HB1 := Lib.hid hb1
  have hfd := fld_sources M
  clear hc hal hb1 HCF
  rw [HAL.out.s] at HI
  have hl := HI.out.len
  have hs5 : M.s.n ≤ 5 := by have := HS5.out; omega
  go_wp2_with fail
  clear hfd
  go_loopw [3, 10] (fun v iv wr => ∃ k : Nat, k ≤ M.s.n ∧ iv = .int .i64 (k : Int) ∧ Hid (wr.ownsRow w1.heap.size 44 2 v ((x.ss.take k).map fun y => (y.2.1, y.2.2)).length (((x.ss.take k).map fun y => (y.2.1, y.2.2)).flatMap CKy)) ∧ Hid (Below w1.heap.size w1 wr)) (fun _ iv _ => M.s.n - (intOf iv).toNat)
  case atStart => exact ⟨0, Nat.zero_le _, rfl, Lib.hid (World.ownsRow_nil _ _ _ _), Lib.hid (Below.refl _ _)⟩
  case round =>
    obtain ⟨k, hk, rfl, HO, HB⟩ := hrel
    generalize u3 = v3 at *
    rcases Nat.lt_or_ge k M.s.n with hlt | hge
    · obtain ⟨bq, oq, ⟨l1, s1, g1⟩, hA, _, hx, c0, c1, c2⟩ := ISource.cells (IR.next HI.out HB.out) hlt
      have hi0 : (k : Int) < (M.s.n : Int) := by omega
      have hi1 : (0 : Int) ≤ (k : Int) := by omega
      have HT := Lib.hid (sent_take hx)
      have HLN : Hid (((x.ss.take k).map fun y => (y.2.1, y.2.2)).length = k) := Lib.hid (by rw [List.length_map, List.length_take]; omega)
      have HLN2 : Hid (((x.ss.take (k + 1)).map fun y => (y.2.1, y.2.2)).length = k + 1) := Lib.hid (by rw [List.length_map, List.length_take]; omega)
      rw [HLN.out] at HO
      have HO1 := Lib.hid ((HO.out.alloc (.cells #[.int .i64 l1, .int .u32 s1, .int .u32 g1] 55)).alloc (.cells #[.int .u32 s1, .int .u32 g1] 44))
      have HB2 := Lib.hid ((HB.out.alloc HB.out.size (.cells #[.int .i64 l1, .int .u32 s1, .int .u32 g1] 55)).alloc (by have := HB.out.size; simp; omega) (.cells #[.int .u32 s1, .int .u32 g1] 44))
      rw [hA]
      clear hx hA HO
      go_wp2_with (at_builtin; refine wpList_items elemK rfl _ _ rfl w1.heap.size v3 k ((x.ss.take k).map fun y => (y.2.1, y.2.2)) rfl HO1.out _ 1 1 [(s1, g1)] rfl (RI.new _ _ (s1, g1) (by simp) rfl) (by omega) (by omega) HB2.out.size ?_; intro v7 w7 hown7 hb7 _)
      have HO7 : Hid (w7.ownsRow w1.heap.size 44 2 v7 ((x.ss.take (k + 1)).map fun y => (y.2.1, y.2.2)).length (((x.ss.take (k + 1)).map fun y => (y.2.1, y.2.2)).flatMap CKy)) := Lib.hid (by rw [HLN2.out, HT.out]; exact hown7)
      have HB7 := Lib.hid (HB2.out.trans hb7)
      clear hown7 hb7 HO1 HB2 HB
      go_wp2
      go_roundw
      case rel => exact ⟨k + 1, by omega, by go_num, HO7, HB7⟩
      case measure => simp [intOf]; omega
    · obtain rfl : k = M.s.n := by omega
      have hd : decide ((M.s.n : Int) < (M.s.n : Int)) = false := by simp
      have HO2 : Hid (wr.ownsRow w1.heap.size 44 2 v3 (sentP x).length ((sentP x).flatMap CKy)) := Lib.hid (by have := HO.out; rw [← hl, List.take_length] at this; exact this)
      go_wp2
      go_ret
      exact ⟨v3, rfl, ownk_up HO2.out HB1.out.size, below_next HB1.out HB.out⟩
end
end Go.Proofs.YtgicmgljllaliaaGreatDoor
namespace Go.Proofs.YtgicmgljllaliaaGreatDoor
open Go.RowKit Lx Sm Go.Maps Go.Sort Go.Shelf
/-- the keys that a member asks for -/
def askedM (m : Mb) : List (Int × Int) := if m.o then m.xs.map (fun a => (a, m.g)) else []
theorem asked_take {xs : List Int} {g : Int} {k : Nat} {a : Int} (h : xs[k]? = some a) : ((xs.take (k + 1)).map fun a => (a, g)) = ((xs.take k).map fun a => (a, g)) ++ [(a, g)] := by
  rw [List.take_add_one, h]; simp
set_option maxRecDepth 100000 in
set_option maxHeartbeats 2000000 in
theorem asked_any (m : Mb) (w : World) (h : AR w m.A m.n m.xs) (hn : m.n ≤ 1000) :
    Calls Tryz.prog 30 #[.agg #[.int .i64 m.l, .int .u32 m.g, .bool m.o, .slice m.A m.n m.c]] w fun e w' => ∃ (A : Option Addr) (c : Nat), e = .returned (.slice A (askedM m).length c) ∧ RI CKy 2 w' A (askedM m).length (askedM m) ∧ Below w.heap.size w w' := by
  obtain ⟨ml, mg, mo, mA, mn, mc, mxs⟩ := m
  dsimp only at h hn ⊢
  have HB0 := Lib.hid ((Below.refl w.heap.size w).alloc (Nat.le_refl _) (.cells #[.int .i64 ml, .int .u32 mg, .bool mo, .slice mA mn mc] 58))
  have hk := Blk.new w 58 #[.int .i64 ml, .int .u32 mg, .bool mo, .slice mA mn mc]
  have HR := Lib.hid (h.next HB0.out)
  have hl := h.len
  clear h
  go_enter Tryz.func30, Tryz.ntmps30
  go_upto_region 1 with fail
  generalize w.alloc (.cells #[.int .i64 ml, .int .u32 mg, .bool mo, .slice mA mn mc] 58) = W1 at *
  have HK := Lib.hid hk
  have z1 : W1.cell? ⟨w.heap.size, 1, none⟩ = some (.int .u32 mg) := hk.cell 1
  have z2 : W1.cell? ⟨w.heap.size, 2, none⟩ = some (.bool mo) := hk.cell 2
  have z3 : W1.cell? ⟨w.heap.size, 3, none⟩ = some (.slice mA mn mc) := hk.cell 3
  clear hk
  cases mo with
  | false =>
    go_wp2
    go_ret
    first | exact ⟨none, ⟨0, rfl⟩, RI.none_ _ _ _ _, HB0.out⟩ | exact ⟨none, 0, rfl, RI.none_ _ _ _ _, HB0.out⟩
  | true =>
    have HQ : Hid (askedM ⟨ml, mg, true, mA, mn, mc, mxs⟩ = mxs.map fun a => (a, mg)) := Lib.hid rfl
    obtain ⟨Q, hQ⟩ : ∃ Q, askedM ⟨ml, mg, true, mA, mn, mc, mxs⟩ = Q := ⟨_, rfl⟩
    rw [hQ] at HQ
    have HQ0 := Lib.hid hQ
    clear hQ
    go_wp2_with fail
    clear z1 z2 z3
    go_loopw [3, 12] (fun v iv wr => ∃ k : Nat, k ≤ mn ∧ iv = .int .i64 (k : Int) ∧ Hid (wr.ownsRow W1.heap.size 44 2 v k (((mxs.take k).map fun a => (a, mg)).flatMap CKy)) ∧ Hid (Below W1.heap.size W1 wr)) (fun _ iv _ => mn - (intOf iv).toNat)
    case atStart => exact ⟨0, Nat.zero_le _, rfl, Lib.hid (World.ownsRow_nil _ _ _ _), Lib.hid (Below.refl _ _)⟩
    case round =>
      obtain ⟨k, hk, rfl, HO, HB⟩ := hrel
      generalize u3 = v3 at *
      rcases Nat.lt_or_ge k mn with hlt | hge
      · obtain ⟨bq, oq, rfl, hbl, hx⟩ := (HR.out.next HB.out).at_ hlt
        have hgk : mxs[k]? = some (mxs.getD k 0) := by rw [List.getD_eq_getElem?_getD, List.getElem?_eq_getElem (by omega)]; rfl
        have HT := Lib.hid (asked_take (g := mg) hgk)
        generalize mxs.getD k 0 = a at *
        have z1 : wr.cell? ⟨w.heap.size, 1, none⟩ = some (.int .u32 mg) := (HK.out.next HB.out).cell 1
        have hi0 : (k : Int) < (mn : Int) := by omega
        have hi1 : (0 : Int) ≤ (k : Int) := by omega
        have HO1 := Lib.hid (HO.out.alloc (.cells #[.int .u32 a, .int .u32 mg] 44))
        have HB2 := Lib.hid (HB.out.alloc HB.out.size (.cells #[.int .u32 a, .int .u32 mg] 44))
        clear hgk hbl HO
        go_wp2_with (at_builtin; refine wpList_items elemK rfl _ _ rfl W1.heap.size v3 k ((mxs.take k).map fun a => (a, mg)) rfl HO1.out _ 1 1 [(a, mg)] rfl (RI.new _ _ (a, mg) (by simp) rfl) (by omega) (by omega) HB2.out.size ?_; intro v7 w7 hown7 hb7 _)
        have HO7 : Hid (w7.ownsRow W1.heap.size 44 2 v7 (k + 1) (((mxs.take (k + 1)).map fun a => (a, mg)).flatMap CKy)) := Lib.hid (by rw [HT.out]; exact hown7)
        have HB7 := Lib.hid (HB2.out.trans hb7)
        clear hown7 hb7 HO1 HB2 HB hx
        go_wp2
        go_roundw
        case rel => exact ⟨k + 1, by omega, by go_num, HO7, HB7⟩
        case measure => simp [intOf]; omega
      · obtain rfl : k = mn := by omega
        have hd : decide ((k : Int) < (k : Int)) = false := by simp
        have HO2 : Hid (wr.ownsRow W1.heap.size 44 2 v3 Q.length (Q.flatMap CKy)) := Lib.hid (by
          have := HO.out
          rw [← hl, List.take_length] at this
          rw [HQ.out, List.length_map]; exact this)
        obtain ⟨A8, c8, rfl, _, hr8⟩ := RI.of_own (enc := CKy) (k := 2) (fun _ => rfl) HO2.out
        have HR8 := Lib.hid hr8
        clear hr8
        go_wp2
        go_ret
        rw [HQ0.out]
        first | exact ⟨A8, ⟨c8, rfl⟩, HR8.out, HB0.out.trans (HB.out.mono HB0.out.size)⟩ | exact ⟨A8, c8, rfl, HR8.out, HB0.out.trans (HB.out.mono HB0.out.size)⟩
section
variable {b : Nat} {T : TP} {x : Cfg} {gs : List Int} {w : World}
theorem sentP_u (h : TW w b T x gs) : ∀ a ∈ sentP x, UK a := by
  intro a ha
  obtain ⟨y, hy, rfl⟩ := List.mem_map.1 ha
  exact h.net.cw.ok.2.2.2.2.1 y hy
theorem sentP_len (x : Cfg) : (sentP x).length = x.ss.length := by simp [sentP]
set_option maxRecDepth 100000 in
set_option maxHeartbeats 2000000 in
theorem sentS_any (w : World) (h : TW w b T x gs) (k : LtOK x) :
    Calls Tryz.prog 10 #[.pointer (some ⟨T.N, 0, none⟩)] w fun e w' => ∃ (A : Option Addr) (c : Nat), e = .returned (.slice A (keysS (sentP x)).length c) ∧ RI CKy 2 w' A (keysS (sentP x)).length (keysS (sentP x)) ∧ Below w.heap.size w w' := by
  have HS := Lib.hid (sent_any w h k)
  have HU := Lib.hid (sentP_u h)
  have hl5 : (sentP x).length ≤ 5 := by rw [sentP_len]; exact k.sl
  clear h k
  generalize sentP x = S at *
  go_enter Tryz.func10, Tryz.ntmps10
  go_wp2_with fail
  refine HS.out.mono ?_
  rintro e w1 ⟨v, rfl, hown, hb⟩
  obtain ⟨A8, c8, rfl, _, hr8⟩ := RI.of_own (enc := CKy) (k := 2) (fun _ => rfl) hown
  have HC := Lib.hid (ksort_any A8 _ c8 S w1 hr8 HU.out (by omega))
  have HB := Lib.hid hb
  clear hown hr8 hb
  go_wp2_with fail
  refine HC.out.mono ?_
  rintro e w2 ⟨A, c, rfl, hri, hb2⟩
  have HRI := Lib.hid hri
  have HB2 := Lib.hid (below_next HB.out hb2)
  clear hri hb2 HC
  go_wp2
  go_ret
  first | exact ⟨A, ⟨c, rfl⟩, HRI.out, HB2.out⟩ | exact ⟨A, c, rfl, HRI.out, HB2.out⟩
set_option maxRecDepth 100000 in
set_option maxHeartbeats 2000000 in
theorem known_any (q : Int × Int) (hq : UK q) (w : World) (h : TW w b T x gs) (k : LtOK x) :
    Calls Tryz.prog 13 #[.pointer (some ⟨T.N, 0, none⟩), .agg #[.int .u32 q.1, .int .u32 q.2]] w fun e w' => e = .returned (.bool (decide (q ∈ sentP x))) ∧ Below w.heap.size w w' := by
  have HB0 := Lib.hid ((Below.refl w.heap.size w).alloc (Nat.le_refl _) (.cells #[.int .u32 q.1, .int .u32 q.2] 44))
  have hk := Blk.new w 44 #[.int .u32 q.1, .int .u32 q.2]
  have HS : Hid (∀ W, Below w.heap.size w W → _) := Lib.hid (fun W (hW : Below w.heap.size w W) => sent_any W (h.next hW) k)
  have HU := Lib.hid (sentP_u h)
  have hl5 : (sentP x).length ≤ 5 := by rw [sentP_len]; exact k.sl
  clear h k
  generalize sentP x = S at *
  go_enter Tryz.func13, Tryz.ntmps13
  go_upto_region 1 with fail
  generalize w.alloc (.cells #[.int .u32 q.1, .int .u32 q.2] 44) = W1 at *
  have HKq := Lib.hid (kv_key hq)
  have z0 : ∀ W, Below W1.heap.size W1 W → W.cell? ⟨w.heap.size, 0, none⟩ = some (.int .u32 q.1) := fun W hW => (hk.next hW).cell 0
  have z1 : ∀ W, Below W1.heap.size W1 W → W.cell? ⟨w.heap.size, 1, none⟩ = some (.int .u32 q.2) := fun W hW => (hk.next hW).cell 1
  have hS0 : Below W1.heap.size W1 W1.drew := (Below.refl _ _).drew
  have HSS : ∀ W, Below W1.heap.size W1 W → Calls Tryz.prog 27 #[.pointer (some ⟨T.N, 0, none⟩)] W fun e w' => ∃ (v : Value), e = .returned v ∧ w'.ownsRow W.heap.size 44 2 v S.length (S.flatMap CKy) ∧ Below W.heap.size W w' := fun W hW => HS.out W (HB0.out.trans (hW.mono HB0.out.size))
  have HQV : Hid (∀ D : DataW Unit, CntK D S → D.atKey (klit q) (.lit (.int .i64 0)) = .lit (.int .i64 ((S.count q : Nat) : Int))) := Lib.hid (fun D hD => (hD.2 q hq).2)
  have HRES : Hid (decide (0 < ((S.count q : Nat) : Int)) = decide (q ∈ S)) := Lib.hid (by
    rw [decide_eq_decide, ← List.count_pos_iff]; omega)
  clear HS hk hq
  go_region_held3 (fun W => Below W1.heap.size W1 W) (first | with_reducible assumption | exact hS0)
    (first
    | (go_at_call 27; refine (HSS _ (by first | with_reducible assumption | exact hS0)).mono ?_; rintro e w2 ⟨v, rfl, hown, hb⟩
       obtain ⟨A8, c8, rfl, _, hr8⟩ := RI.of_own (enc := CKy) (k := 2) (fun _ => rfl) hown
       have hB2 : Below W1.heap.size W1 w2 := hS0.trans (hb.mono hS0.size)
       have HC := counted_any A8 _ c8 S w2 hr8 HU.out (by omega))
    | (go_at_call 31; refine HC.mono ?_; rintro e w3 ⟨mb, D, rfl, hD, hom, hb3⟩
       have hB3 : Below W1.heap.size W1 w3 := hB2.trans (hb3.mono hB2.size)
       obtain ⟨cv, hrun, hat, hwc⟩ := hom.lookup_int keyedPK Tryz.underlying74 Tryz.underlying3 (zeroI _) HKq.out
       rw [HQV.out D hD] at hat
       simp only [DataW.lit.injEq, Lit.int.injEq, true_and] at hat
       subst hat
       unfold kv at hrun))
  all_goals
    go_wp2
    go_ret
    exact ⟨ret_bool (by first | exact HRES.out | rfl), HB0.out.trans (hB3.mono HB0.out.size)⟩
/-- all that may be joined -/
def allP (x : Cfg) (gs : List Int) : List (Int × Int) := sentP x ++ gs.map (fun g => ((0 : Int), g)) ++ x.ms.flatMap askedM
theorem askedM_plain {m m' : Mb} (h : m.plain = m'.plain) : askedM m = askedM m' := by
  simp only [Mb.plain, Prod.mk.injEq] at h
  unfold askedM
  rw [h.2.1, h.2.2.1, h.2.2.2]
theorem asked_alike : ∀ {l l' : List Mb}, l'.map Mb.plain = l.map Mb.plain → l'.flatMap askedM = l.flatMap askedM
  | [], [], _ => rfl
  | [], _ :: _, h => by cases h
  | _ :: _, [], h => by cases h
  | m :: l, m' :: l', h => by
    simp only [List.map_cons, List.cons.injEq] at h
    rw [List.flatMap_cons, List.flatMap_cons, askedM_plain h.1, asked_alike h.2]
theorem asked_len (m : Mb) : (askedM m).length ≤ m.xs.length := by
  unfold askedM; split <;> simp
theorem asked_lens : ∀ (l : List Mb), (∀ m ∈ l, m.xs.length ≤ 4) → (l.flatMap askedM).length ≤ l.length * 4
  | [], _ => Nat.le_refl _
  | m :: l, h => by
    have h1 := asked_lens l (fun y hy => h y (List.mem_cons_of_mem _ hy))
    have h2 := Nat.le_trans (asked_len m) (h m (List.mem_cons_self ..))
    rw [List.flatMap_cons, List.length_append, List.length_cons, Nat.succ_mul]
    omega
theorem grp_take1 {G : List Int} {k : Nat} {g : Int} (h : G[k]? = some g) : ((G.take (k + 1)).map fun g => ((0 : Int), g)) = ((G.take k).map fun g => ((0 : Int), g)) ++ [(0, g)] := by
  rw [List.take_add_one, h]; simp
theorem flat_take1 {l : List Mb} {k : Nat} {m : Mb} (h : l[k]? = some m) : (l.take (k + 1)).flatMap askedM = (l.take k).flatMap askedM ++ askedM m := by
  rw [List.take_add_one, h]; simp
theorem allP_u (h : TW w b T x gs) (hg : ∀ a ∈ gs, U32 a) : ∀ a ∈ allP x gs, UK a := by
  intro a ha
  unfold allP at ha
  rw [List.mem_append, List.mem_append] at ha
  rcases ha with (ha | ha) | ha
  · exact sentP_u h a ha
  · obtain ⟨g, hgm, rfl⟩ := List.mem_map.1 ha
    exact ⟨⟨by omega, by omega⟩, hg g hgm⟩
  · obtain ⟨m, hm, ha⟩ := List.mem_flatMap.1 ha
    unfold askedM at ha
    split at ha
    · obtain ⟨q, hq, rfl⟩ := List.mem_map.1 ha
      have h1 := (h.net.cw.src m hm).1.isAs q hq
      exact ⟨h1, h.net.cw.ok.2.2.2.2.2 m hm⟩
    · cases ha
set_option maxRecDepth 100000 in
set_option maxHeartbeats 8000000 in
theorem all_any (w : World) (h : TW w b T x gs) (k : LtOK x) (hg : ∀ a ∈ gs, U32 a) (hgl : gs.length ≤ 1000) :
    Calls Tryz.prog 11 #[.pointer (some ⟨T.N, 0, none⟩)] w fun e w' => ∃ (A : Option Addr) (c : Nat), e = .returned (.slice A (keysS (allP x gs)).length c) ∧ RI CKy 2 w' A (keysS (allP x gs)).length (keysS (allP x gs)) ∧ Below w.heap.size w w' := by
  have HS := Lib.hid (sent_any w h k)
  have HU := Lib.hid (allP_u h hg)
  have hl5 : (sentP x).length ≤ 5 := by rw [sentP_len]; exact k.sl
  have HT := Lib.hid h
  have HK := Lib.hid k
  have HQ : Hid (allP x gs = sentP x ++ gs.map (fun g => ((0 : Int), g)) ++ x.ms.flatMap askedM) := Lib.hid rfl
  have hql : (x.ms.flatMap askedM).length ≤ 40 := Nat.le_trans (asked_lens _ k.xl) (by have := k.ml; omega)
  clear h k hg
  generalize allP x gs = Q at *
  generalize sentP x = S at *
  go_enter Tryz.func11, Tryz.ntmps11
  go_wp2_with fail
  refine HS.out.mono ?_
  rintro e w1 ⟨v, rfl, hown, hb⟩
  have HO1 := Lib.hid hown
  have HB1 := Lib.hid hb
  have HG := Lib.hid (tgroups_own (Nat.le_trans hgl (by omega)) w1 (HT.out.next hb))
  clear hown hb HS
  go_wp2_with fail
  refine HG.out.mono ?_
  rintro e w2 ⟨A2, c2, rfl, hr2, hb2⟩
  have HR2 := Lib.hid hr2
  have HO2 := Lib.hid (ownk_next HO1.out hb2)
  have HB2 := Lib.hid (below_next HB1.out hb2)
  have HZ2 : Hid (w.heap.size ≤ w2.heap.size) := Lib.hid HB2.out.size
  clear hr2 hb2 HG HO1 HB1
  go_wp2_with fail
  go_loopw [3, 13] (fun v iv wr => ∃ k : Nat, k ≤ gs.length ∧ iv = .int .i64 (k : Int) ∧ Hid (wr.ownsRow w.heap.size 44 2 v (S.length + k) ((S ++ (gs.take k).map fun g => ((0 : Int), g)).flatMap CKy)) ∧ Hid (Below w.heap.size w wr) ∧ Hid (FrT 44 w2 wr)) (fun _ iv _ => gs.length - (intOf iv).toNat)
  case atStart => exact ⟨0, Nat.zero_le _, rfl, Lib.hid (by have := HO2.out; simpa using this), HB2, Lib.hid (FrT.refl _ _)⟩
  case round =>
    obtain ⟨k, hk, rfl, HO, HB, HFr⟩ := hrel
    generalize u3 = v3 at *
    rcases Nat.lt_or_ge k gs.length with hlt | hge
    · obtain ⟨bq, oq, g1, rfl, hbl, hx, hcell⟩ := (own_ir addr_len rfl (HFr.out.own HR2.out (by decide)) : IR CAddr 1 wr A2 gs.length gs).at_ hlt
      have c0 : wr.cell? ⟨bq, oq + k, none⟩ = some (.int .u32 g1) := by have := hcell 0 _ rfl; simpa using this
      have hi0 : (k : Int) < (gs.length : Int) := by omega
      have hi1 : (0 : Int) ≤ (k : Int) := by omega
      have HTk := Lib.hid (grp_take1 hx)
      have HO1 := Lib.hid (HO.out.alloc (.cells #[.int .u32 0, .int .u32 g1] 44))
      have HBz := Lib.hid HB.out.size
      have HB1 := Lib.hid (HB.out.alloc HB.out.size (.cells #[.int .u32 0, .int .u32 g1] 44))
      have HF1 := Lib.hid (HFr.out.trans (FrT.below ((Below.refl wr.heap.size wr).alloc (Nat.le_refl _) (.cells #[.int .u32 0, .int .u32 g1] 44))))
      clear hcell hx hbl HO
      go_wp2_with (at_builtin; refine wpList_items elemK rfl _ _ rfl w.heap.size v3 (S.length + k) (S ++ (gs.take k).map fun g => ((0 : Int), g)) rfl HO1.out _ 1 1 [((0 : Int), g1)] rfl (RI.new _ _ ((0 : Int), g1) (by simp) rfl) (by omega) (by omega) HB1.out.size ?_; intro v7 w7 hown7 hb7 hg7)
      have HO7 : Hid (w7.ownsRow w.heap.size 44 2 v7 (S.length + (k + 1)) ((S ++ (gs.take (k + 1)).map fun g => ((0 : Int), g)).flatMap CKy)) := Lib.hid (by rw [HTk.out, ← List.append_assoc]; exact hown7)
      have HB7 := Lib.hid (HB1.out.trans hb7)
      have HF7 := Lib.hid (HF1.out.trans (FrT.grown HO1.out hg7))
      clear hown7 hb7 hg7 HO1 HB1 HF1 HB HFr c0
      go_wp2
      go_roundw
      case rel => exact ⟨k + 1, by omega, by go_num, HO7, HB7, HF7⟩
      case measure => simp [intOf]; omega
    · obtain rfl : k = gs.length := by omega
      have hd : decide ((gs.length : Int) < (gs.length : Int)) = false := by simp
      have HO3 : Hid (wr.ownsRow w.heap.size 44 2 v3 (S.length + gs.length) ((S ++ gs.map fun g => ((0 : Int), g)).flatMap CKy)) := Lib.hid (by have := HO.out; rw [List.take_length] at this; exact this)
      have HCF := Lib.hid (config_any wr (HT.out.next HB.out) HK.out.rn HK.out.ln)
      have HBr := Lib.hid HB.out
      clear HO HB HFr HR2 HO2
      go_wp2_with fail
      refine HCF.out.mono ?_
      rintro e w5 ⟨M, x', rfl, hc, hal, hb5⟩
      have HC5 := Lib.hid hc
      have HAL := Lib.hid hal
      have HB5 := Lib.hid (below_next HBr.out hb5)
      have HO5 := Lib.hid (ownk_next HO3.out hb5)
      have HZ5 : Hid (w.heap.size ≤ w5.heap.size) := Lib.hid HB5.out.size
      have hfd := fld_members M
      have hm10 : M.m.n ≤ 10 := by have := HK.out.ml; rw [← alike_ms hal, hc.len.2.2.2.2.2.2] at this; exact this
      have hml := hc.len.2.2.2.2.2.2
      have HXL : Hid (∀ y ∈ x'.ms, y.xs.length ≤ 4) := Lib.hid (fun y hy => by
        have : y.plain ∈ x.ms.map Mb.plain := by rw [← hal.m]; exact List.mem_map_of_mem hy
        obtain ⟨y0, h0, e0⟩ := List.mem_map.1 this
        simp only [Mb.plain, Prod.mk.injEq] at e0
        rw [← e0.2.2.2]; exact HK.out.xl y0 h0)
      have HQA : Hid (x'.ms.flatMap askedM = x.ms.flatMap askedM) := Lib.hid (asked_alike hal.m)
      clear hc hal hb5 HCF HO3 HBr
      have HSL : Hid ((S ++ gs.map (fun g => ((0 : Int), g))).length = S.length + gs.length) := Lib.hid (by simp)
      generalize S ++ gs.map (fun g => ((0 : Int), g)) = S2 at *
      generalize hnn : S.length + gs.length = n2 at *
      have hn2 : n2 ≤ 2000 := by omega
      go_wp2_with fail
      clear hfd
      go_loopw [3, 27] (fun v iv wr => ∃ k : Nat, k ≤ M.m.n ∧ iv = .int .i64 (k : Int) ∧ Hid (wr.ownsRow w.heap.size 44 2 v (n2 + ((x'.ms.take k).flatMap askedM).length) ((S2 ++ (x'.ms.take k).flatMap askedM).flatMap CKy)) ∧ Hid (Below w.heap.size w wr) ∧ Hid (FrT 44 w5 wr)) (fun _ iv _ => M.m.n - (intOf iv).toNat)
      case atStart => exact ⟨0, Nat.zero_le _, rfl, Lib.hid (by have := HO5.out; simpa using this), HB5, Lib.hid (FrT.refl _ _)⟩
      case round =>
        clear HO5 HB5
        obtain ⟨k, hk, rfl, HO, HB, HFr⟩ := hrel
        generalize u3 = v4 at *
        have hlen : ((x'.ms.take k).flatMap askedM).length ≤ k * 4 := Nat.le_trans (asked_lens _ fun y hy => HXL.out y (List.mem_of_mem_take hy)) (Nat.mul_le_mul_right _ (by rw [List.length_take]; omega))
        rcases Nat.lt_or_ge k M.m.n with hlt | hge
        · have HCr := Lib.hid (HC5.out.frT HFr.out (by decide) (by decide) (by decide) (by decide) (by decide) (by decide) (by decide) (by decide)).cw
          obtain ⟨bq, oq, ⟨l1, g1, o1, A1, n1, c1, ys1⟩, hA, hbl, hx, c0, c1', c2', c3'⟩ := IMember.cells HCr.out.m hlt
          have hi0 : (k : Int) < (M.m.n : Int) := by omega
          have hi1 : (0 : Int) ≤ (k : Int) := by omega
          have hy := List.mem_of_getElem? hx
          have hsrc := HCr.out.src _ hy
          have hxl := HXL.out _ hy
          dsimp only at hsrc hxl
          have HTk := Lib.hid (flat_take1 hx)
          have hn1 : n1 ≤ 4 := by have := hsrc.1.len; omega
          have HB1 := Lib.hid (HB.out.alloc HB.out.size (.cells #[.int .i64 l1, .int .u32 g1, .bool o1, .slice A1 n1 c1] 58))
          have hbx : Below wr.heap.size wr (wr.alloc (.cells #[.int .i64 l1, .int .u32 g1, .bool o1, .slice A1 n1 c1] 58)) := (Below.refl _ _).alloc (Nat.le_refl _) _
          have HO1 := Lib.hid (ownk_next HO.out hbx)
          have HF1 := Lib.hid (HFr.out.trans (FrT.below hbx))
          have HAS := Lib.hid (asked_any ⟨l1, g1, o1, A1, n1, c1, ys1⟩ (wr.alloc (.cells #[.int .i64 l1, .int .u32 g1, .bool o1, .slice A1 n1 c1] 58)) (hsrc.1.next hbx) (by show n1 ≤ 1000; omega))
          have haq : (askedM ⟨l1, g1, o1, A1, n1, c1, ys1⟩).length ≤ 4 := Nat.le_trans (asked_len _) hxl
          generalize askedM ⟨l1, g1, o1, A1, n1, c1, ys1⟩ = aq at *
          rw [hA]
          clear hx hA hy hsrc hxl hbx hbl HO HCr
          go_upto_region 10 with fail
          have c0 : ∀ W, Below wr.heap.size wr W → True := fun _ _ => trivial
          go_wp2_with (first
            | (go_at_call 30; refine HAS.out.mono ?_; rintro e w6 ⟨A6, c6, rfl, hri6, hb6⟩; have HRI6 := Lib.hid hri6; have HO6 := Lib.hid (ownk_next HO1.out hb6); have HB6 := Lib.hid (HB1.out.trans (hb6.mono HB1.out.size)); have HF6 := Lib.hid (HF1.out.trans (FrT.below hb6)); clear hri6 hb6)
            | (at_builtin; refine wpList_items elemK rfl _ _ rfl w.heap.size v4 (n2 + ((x'.ms.take k).flatMap askedM).length) (S2 ++ (x'.ms.take k).flatMap askedM) rfl HO6.out _ _ _ aq rfl HRI6.out (by omega) (by omega) HB6.out.size ?_; intro v7 w7 hown7 hb7 hg7))
          have HO7 : Hid (w7.ownsRow w.heap.size 44 2 v7 (n2 + ((x'.ms.take (k + 1)).flatMap askedM).length) ((S2 ++ (x'.ms.take (k + 1)).flatMap askedM).flatMap CKy)) := Lib.hid (by rw [HTk.out, List.length_append, ← List.append_assoc, ← Nat.add_assoc]; exact hown7)
          have HB7 := Lib.hid (HB6.out.trans hb7)
          have HF7 := Lib.hid (HF6.out.trans (FrT.grown HO6.out hg7))
          clear hown7 hb7 hg7 HO1 HB1 HF1 HB HFr HO6 HB6 HF6 HRI6
          go_wp2
          go_roundw
          case rel => exact ⟨k + 1, by omega, by go_num, HO7, HB7, HF7⟩
          case measure => simp [intOf]; omega
        · obtain rfl : k = M.m.n := by omega
          have hd : decide ((M.m.n : Int) < (M.m.n : Int)) = false := by simp
          have HO8 : Hid (wr.ownsRow w.heap.size 44 2 v4 Q.length (Q.flatMap CKy)) := Lib.hid (by
            have := HO.out
            rw [← hml, List.take_length, HQA.out, ← HQ.out] at this
            have e : n2 + (x.ms.flatMap askedM).length = Q.length := by rw [HQ.out, List.length_append, HSL.out]
            rw [e] at this
            exact this)
          have hql2 : Q.length ≤ 1000000 := by have e := HQ.out; rw [e, List.length_append, HSL.out]; omega
          obtain ⟨A8, c8, rfl, _, hr8⟩ := RI.of_own (enc := CKy) (k := 2) (fun _ => rfl) HO8.out
          have HC := Lib.hid (ksort_any A8 _ c8 Q wr hr8 HU.out hql2)
          have HBr := Lib.hid HB.out
          clear hr8 HO HO8 HB HFr
          go_wp2_with fail
          refine HC.out.mono ?_
          rintro e w9 ⟨A, c, rfl, hri, hb9⟩
          have HRI := Lib.hid hri
          have HB9 := Lib.hid (below_next HBr.out hb9)
          clear hri hb9 HC
          go_wp2
          go_ret
          first | exact ⟨A, ⟨c, rfl⟩, HRI.out, HB9.out⟩ | exact ⟨A, c, rfl, HRI.out, HB9.out⟩
end
end Go.Proofs.YtgicmgljllaliaaGreatDoor
namespace Go.Proofs.YtgicmgljllaliaaGreatDoor
open Go.RowKit Lx Sm Go.Maps
theorem lt0 : LtOK x0 := ⟨by decide, by decide, by decide, by decide, by decide, by decide, by decide, by decide, fun y hy => (by cases hy), fun y hy => (by cases hy), fun y hy => (by cases hy), fun y hy => (by cases hy), fun y hy => (by cases hy)⟩
theorem allP0 {x : Cfg} (h : Alike x0 x) : (keysS (allP x [])).length = 0 := by
  have h1 : sentP x = [] := by unfold sentP; rw [h.s]; rfl
  have h2 : x.ms.flatMap askedM = [] := by rw [asked_alike h.m]; rfl
  have h3 : allP x [] = [] := by unfold allP; rw [h1, h2]; rfl
  rw [h3]; exact Nat.le_zero.1 (keysS_len [])
set_option maxHeartbeats 2000000 in
theorem first16_any (ads : List Addr) (w : World) (hE : EnvC ads w) :
    Calls Tryz.prog 7 #[] w fun e w' => e = .returned (.bool true) ∧ Below w.heap.size w w' := by
  have hN := Lib.hid (new_ok ads M0 x0 [] w hE (cw0 w) (by decide) (fun y hy => (by cases hy)) (fun y hy => (by cases hy)) (fun W _ => groups0_any M0 W rfl rfl) (fun y hy => (by cases hy)) (fun y hy => (by cases hy)))
  have hl : Hid (∀ W : World, Calls Tryz.prog 14 #[.agg #[.int .u32 0, .int .u32 1], .agg #[.int .u32 1, .int .u32 1]] W fun e w' => e = .returned (.bool true) ∧ Below W.heap.size W w') := Lib.hid (fun W => by
    have := kless_any 0 1 1 1 W
    rw [show decide (ordPK (0, 1) (1, 1) < 0) = true by decide] at this
    exact this)
  go_enter Tryz.func7, Tryz.ntmps7
  go_wp2_with (first
    | (go_at_call 9; refine hN.out.mono ?_; rintro e w1 ⟨T, x', rfl, hT, hal, hb⟩; have HA := Lib.hid (all_any w1 hT (lt0.alike hal (by rw [vcode_alike hal]; decide)) (fun a ha => by cases ha) (by decide)); rw [allP0 hal] at HA)
    | (go_at_call 11; refine HA.out.mono ?_; rintro e w2 ⟨A, c, rfl, _, hb2⟩)
    | (go_at_call 14; refine (hl.out _).mono ?_; rintro e w3 ⟨rfl, hb3⟩))
  go_ret
  exact ⟨rfl, below_next (below_next hb hb2) hb3⟩
/-- less, of two keys -/
theorem klessV (p q : Int × Int) {V : Bool} (h : decide (ltPK p q) = V) (W : World) : Calls Tryz.prog 14 #[.agg #[.int .u32 p.1, .int .u32 p.2], .agg #[.int .u32 q.1, .int .u32 q.2]] W fun e w' => e = .returned (.bool V) ∧ Below W.heap.size W w' := by
  have := kless_any p.1 p.2 q.1 q.2 W
  rw [show ordPK (p.1, p.2) (q.1, q.2) = ordPK p q from rfl, key_less, h] at this
  exact this
theorem skeyV (p q : Int × Int) {V : Bool} (h : ((p.1 == q.1) && (p.2 == q.2)) = V) (W : World) : Calls Tryz.prog 12 #[.agg #[.int .u32 p.1, .int .u32 p.2], .agg #[.int .u32 q.1, .int .u32 q.2]] W fun e w' => e = .returned (.bool V) ∧ Below W.heap.size W w' := by
  have := skey_any p.1 p.2 q.1 q.2 W
  rw [h] at this
  exact this
theorem key_tri (p q : Int × Int) : (decide (ltPK p q) = true ∧ decide (ltPK q p) = false ∧ ((p.1 == q.1) && (p.2 == q.2)) = false) ∨ (decide (ltPK p q) = false ∧ decide (ltPK q p) = true ∧ ((p.1 == q.1) && (p.2 == q.2)) = false) ∨ (decide (ltPK p q) = false ∧ decide (ltPK q p) = false ∧ ((p.1 == q.1) && (p.2 == q.2)) = true) := by
  simp only [decide_eq_true_eq, decide_eq_false_iff_not, Bool.and_eq_false_iff, Bool.and_eq_true, beq_iff_eq, beq_eq_false_iff_ne, ne_eq]
  unfold ltPK
  omega
/-- the cells of a row's item, at whatever world since -/
theorem key_cells {w : World} {A : Option Addr} {n : Nat} {xs : List (Int × Int)} (h : RI CKy 2 w A n xs) {i : Nat} (hi : i < n) : ∃ b o y, A = some ⟨b, o, none⟩ ∧ xs[i]? = some y ∧ ∀ p : Snc w, p.W.cell? ⟨b, o + i * 2, none⟩ = some (.int .u32 y.1) ∧ p.W.cell? ⟨b, o + i * 2 + 1, none⟩ = some (.int .u32 y.2) := by
  obtain ⟨b, o, y, e, hb, hx, hc⟩ := h.at_ hi
  exact ⟨b, o, y, e, hx, fun p => ⟨(p.b.cell (p := ⟨b, o + i * 2, none⟩) hb).trans (hc 0 _ rfl), (p.b.cell (p := ⟨b, o + i * 2 + 1, none⟩) hb).trans (hc 1 _ rfl)⟩⟩
end Go.Proofs.YtgicmgljllaliaaGreatDoor

