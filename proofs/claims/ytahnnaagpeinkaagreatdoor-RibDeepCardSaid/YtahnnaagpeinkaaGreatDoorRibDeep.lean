/- Routes by next hops that are themselves reached by routes: as many behind one another as may be, not one more; their costs are added. -/
import Derived.Test.YtahnnaagpeinkaaGreatDoorRe
namespace Go.Proofs.YtahnnaagpeinkaaGreatDoor
open Go.RowKit Lx Sm Go.Maps
theorem deep_elem {m k : Nat} {c : Int} (h : k < m) : (deepOs m c)[k]? = some (0, 335544320 + (k : Int) * 65536, 16, if k + 1 = m then adr 1 99 else 335544320 + ((k : Int) + 1) * 65536 + 1, c) := by
  unfold deepOs; rw [List.getElem?_map, List.getElem?_range h]; rfl
theorem deep_or1 : ∀ k : Fin 10, bits BinOp.or IntKind.u32 335544320 ((k.val : Int) * 65536) = 335544320 + (k.val : Int) * 65536 := by decide +kernel
theorem deep_or2 : ∀ k : Fin 10, bits BinOp.or IntKind.u32 (bits BinOp.or IntKind.u32 335544320 (((k.val : Int) + 1) * 65536)) 1 = 335544320 + ((k.val : Int) + 1) * 65536 + 1 := by decide +kernel
set_option maxHeartbeats 8000000 in
set_option maxRecDepth 100000 in
theorem law_rdeep (ads : List Addr) (a0 a1 : Int) (w : World) (hE : EnvC ads w) :
    Calls Tryz.prog 5 #[.int .i64 a0, .int .i64 a1] w fun e w' => e = .returned (.bool true) ∧ Below w.heap.size w w' := by
  have HF := Lib.hid (first9_any ads w hE)
  have HE := Lib.hid hE
  obtain ⟨m0, hm0, h0⟩ : ∃ m0 : Nat, m0 < 9 ∧ a0 % 9 = (m0 : Int) := ⟨(a0 % 9).toNat, by omega, by omega⟩
  obtain ⟨m, hm⟩ : ∃ m : Nat, (m0 : Int) + 1 = (m : Int) := ⟨m0 + 1, by omega⟩
  obtain ⟨cs, hcs, h1⟩ : ∃ q : Nat, q ≤ 65535 ∧ a1 % 65536 = (q : Int) := ⟨(a1 % 65536).toNat, by omega, by omega⟩
  have hm9 : m ≤ 9 := by omega
  have hm1 : 0 < m := by omega
  have N0 := Lib.hid fun W => numb a0 9 m0 (by decide) (by decide) h0 W
  have N1 := Lib.hid fun W => numb a1 65536 cs (by decide) (by decide) h1 W
  have HL := Lib.hid fun W => line_any 1 0 (by decide) (by decide) W
  rw [show ((0 : Nat) : Int) = 0 from rfl, show ((1 : Nat) : Int) = 1 from rfl] at HL
  have HA := Lib.hid fun W => naddr_any 1 99 (by decide) (by decide) W
  rw [show ((99 : Nat) : Int) = 99 from rfl, show ((1 : Nat) : Int) = 1 from rfl] at HA
  clear hE h0 h1
  go_enter Tryz.func5, Tryz.ntmps5
  go_upto_region 7 with (first
    | (go_at_call 9; refine HF.out.mono ?_; rintro e w1 ⟨rfl, hb1⟩; have HB1 := Lib.hid hb1; clear hb1)
    | (go_at_call_of 19 (Value.int IntKind.i64 a0); refine (N0.out _).mono ?_; rintro e w2 ⟨rfl, rfl⟩)
    | (go_at_call_of 19 (Value.int IntKind.i64 a1); refine (N1.out _).mono ?_; rintro e w2 ⟨rfl, rfl⟩)
    | (go_at_call 20; refine (HL.out _).mono ?_; rintro e w3 ⟨M, rfl, hcw, hb3⟩; have HB3 := Lib.hid (below_next HB1.out hb3); have HCW := Lib.hid hcw; clear hcw hb3))
  have HM := Lib.hid hm
  clear hm
  have HN6 := Lib.hid (Blk.new w3 30 #[.slice M.r.A M.r.n M.r.c, .slice M.l.A M.l.n M.l.c, .slice M.p.A M.p.n M.p.c, .slice M.o.A M.o.n M.o.c, .slice M.g.A M.g.n M.g.c, .slice M.s.A M.s.n M.s.c, .slice M.m.A M.m.n M.m.c])
  have HB4 := Lib.hid ((Below.refl w3.heap.size w3).alloc (Nat.le_refl _) (.cells #[.slice M.r.A M.r.n M.r.c, .slice M.l.A M.l.n M.l.c, .slice M.p.A M.p.n M.p.c, .slice M.o.A M.o.n M.o.c, .slice M.g.A M.g.n M.g.c, .slice M.s.A M.s.n M.s.c, .slice M.m.A M.m.n M.m.c] 30))
  generalize w3.alloc (.cells #[.slice M.r.A M.r.n M.r.c, .slice M.l.A M.l.n M.l.c, .slice M.p.A M.p.n M.p.c, .slice M.o.A M.o.n M.o.c, .slice M.g.A M.g.n M.g.c, .slice M.s.A M.s.n M.s.c, .slice M.m.A M.m.n M.m.c] 30) = W4 at *
  have s3 : W4.cell? ⟨w3.heap.size, 3, none⟩ = some (.slice M.o.A M.o.n M.o.c) := HN6.out.cell 3
  have z3 : W4.frozen? ⟨w3.heap.size, 3, none⟩ = false := HN6.out.frozen 3
  go_upto_region 8 with fail
  have HN5 := Lib.hid (Blk.set_to HN6.out 3 (.slice none 0 0) (cs' := #[.slice M.r.A M.r.n M.r.c, .slice M.l.A M.l.n M.l.c, .slice M.p.A M.p.n M.p.c, .slice none 0 0, .slice M.g.A M.g.n M.g.c, .slice M.s.A M.s.n M.s.c, .slice M.m.A M.m.n M.m.c]) rfl)
  have HB5 := Lib.hid (HB4.out.setCell (p := ⟨w3.heap.size, 3, none⟩) (Nat.le_refl _) (.slice none 0 0))
  clear s3 z3 HN6 HB4
  generalize W4.setCell ⟨w3.heap.size, 3, none⟩ (.slice none 0 0) = W5 at *
  go_wp2
  go_loopw [7] (fun i wr => ∃ (k : Nat) (v : Value), k ≤ m ∧ i = .int .i64 k ∧ Hid (Blk wr w3.heap.size 30 #[.slice M.r.A M.r.n M.r.c, .slice M.l.A M.l.n M.l.c, .slice M.p.A M.p.n M.p.c, v, .slice M.g.A M.g.n M.g.c, .slice M.s.A M.s.n M.s.c, .slice M.m.A M.m.n M.m.c]) ∧ Hid (wr.ownsRow w3.heap.size 64 5 v ((deepOs m cs).take k).length (((deepOs m cs).take k).flatMap CRoute)) ∧ Hid (Below w3.heap.size w3 wr)) (fun i _ => m - (intOf i).toNat)
  case atStart => exact ⟨0, _, Nat.zero_le _, rfl, HN5, Lib.hid (by simpa using World.ownsRow_nil _ _ _ _), HB5⟩
  case round =>
    obtain ⟨k, v, hk, rfl, HN, HO, HB⟩ := hrel
    rcases Nat.lt_or_ge k m with hlt | hge
    · have hi0 : (k : Int) < (m : Int) := by omega
      have HT := Lib.hid (take_snoc (deep_elem (c := (cs : Int)) hlt))
      have HFL : Hid (((deepOs m cs).take k).length ≤ 9) := Lib.hid (by rw [List.length_take]; omega)
      have o1 := deep_or1 ⟨k, by omega⟩
      have o2 := deep_or2 ⟨k, by omega⟩
      dsimp only at o1 o2
      generalize (deepOs m cs).take k = L at *
      have hw : wrap64 ((m : Int) - 1) = (m : Int) - 1 := by unfold wrap64; omega
      by_cases hkm : k + 1 = m
      · rw [if_pos hkm] at HT
        have e0 : ((k : Int) == (m : Int) - 1) = true := by simp; omega
        clear hkm
        go_upto_region 14 with (go_at_call 21; refine (HA.out _).mono ?_; rintro e w5 ⟨rfl, he⟩; obtain rfl := he.symm)
        obtain ⟨i0, z0, hi, hz, hzs, hsz, hby⟩ := info_route
        have hfl := HFL.out
        have q3 : wr.cell? ⟨w3.heap.size, 3, none⟩ = some v := HN.out.cell 3
        go_wp2_with (
          at_builtin
          refine wpList_append_own _ rfl _ _ 25 rfl w3.heap.size 64 i0 z0 5 40 Tryz.underlying25 hi hz hsz hby hzs (by decide) v L.length (L.flatMap CRoute) rfl (HO.out.alloc _) ⟨wr.heap.size, 0, none⟩ 1 1 ([(0, 335544320 + (k : Int) * 65536, 16, adr 1 99, (cs : Int))].flatMap CRoute) rfl rfl (blk_news (Blk.new _ _ _) rfl) (fun u hu => by
            obtain ⟨y, _, hy⟩ := List.mem_flatMap.1 hu
            exact route_one y u hy) (by unfold maxLen; omega) (by omega) (by have := HB.out.size; simp; omega) ?_
          intro v' wz hown1 hgrow1 _
          have hbk := blk_by (HN.out.alloc _) (HO.out.alloc _) hgrow1 (by decide)
          have hbz : Below w3.heap.size w3 wz := (HB.out.alloc HB.out.size _).grown hgrow1 (by have := HB.out.size; simp; omega) (fun j e => (HO.out.lt j e).1)
          have hown2 : wz.ownsRow w3.heap.size 64 5 v' (L ++ [(0, 335544320 + (k : Int) * 65536, 16, adr 1 99, (cs : Int))]).length ((L ++ [(0, 335544320 + (k : Int) * 65536, 16, adr 1 99, (cs : Int))]).flatMap CRoute) := by rw [List.length_append, List.flatMap_append]; exact hown1
          obtain ⟨Aq, cq, rfl, _, _⟩ := IR.of_own route_len hown2
          have u3 : wz.cell? ⟨w3.heap.size, 3, none⟩ = some v := hbk.cell 3
          have z3 : wz.frozen? ⟨w3.heap.size, 3, none⟩ = false := hbk.frozen 3
          have HBK := Lib.hid hbk
          have HO1 := Lib.hid hown2
          have HB1' := Lib.hid hbz
          clear hbk hown1 hown2 hgrow1 hbz)
        clear u3 z3 q3
        have HN2 := Lib.hid (Blk.set_to HBK.out 3 (.slice Aq (L ++ [(0, 335544320 + (k : Int) * 65536, 16, adr 1 99, (cs : Int))]).length cq) (cs' := #[.slice M.r.A M.r.n M.r.c, .slice M.l.A M.l.n M.l.c, .slice M.p.A M.p.n M.p.c, .slice Aq (L ++ [(0, 335544320 + (k : Int) * 65536, 16, adr 1 99, (cs : Int))]).length cq, .slice M.g.A M.g.n M.g.c, .slice M.s.A M.s.n M.s.c, .slice M.m.A M.m.n M.m.c]) rfl)
        have HO2 := Lib.hid (ownk_far (i := 3) (u := .slice Aq (L ++ [(0, 335544320 + (k : Int) * 65536, 16, adr 1 99, (cs : Int))]).length cq) HO1.out HBK.out.slot (by decide))
        have HB2' := Lib.hid (HB1'.out.setCell (p := ⟨w3.heap.size, 3, none⟩) (Nat.le_refl _) (.slice Aq (L ++ [(0, 335544320 + (k : Int) * 65536, 16, adr 1 99, (cs : Int))]).length cq))
        simp only [List.length_append, List.length_cons, List.length_nil, Nat.zero_add] at HN2 HO2 HB2'
        go_roundw
        case rel => exact ⟨k + 1, _, by omega, by go_num, HN2, Lib.hid (by rw [HT.out, List.length_append]; exact HO2.out), HB2'⟩
        case measure => simp [intOf]; omega
      · rw [if_neg hkm] at HT
        have e0 : ((k : Int) == (m : Int) - 1) = false := by simp; omega
        clear hkm
        go_upto_region 14 with fail
        obtain ⟨i0, z0, hi, hz, hzs, hsz, hby⟩ := info_route
        have hfl := HFL.out
        have q3 : wr.cell? ⟨w3.heap.size, 3, none⟩ = some v := HN.out.cell 3
        go_wp2_with (
          at_builtin
          refine wpList_append_own _ rfl _ _ 25 rfl w3.heap.size 64 i0 z0 5 40 Tryz.underlying25 hi hz hsz hby hzs (by decide) v L.length (L.flatMap CRoute) rfl (HO.out.alloc _) ⟨wr.heap.size, 0, none⟩ 1 1 ([(0, 335544320 + (k : Int) * 65536, 16, 335544320 + ((k : Int) + 1) * 65536 + 1, (cs : Int))].flatMap CRoute) rfl rfl (blk_news (Blk.new _ _ _) rfl) (fun u hu => by
            obtain ⟨y, _, hy⟩ := List.mem_flatMap.1 hu
            exact route_one y u hy) (by unfold maxLen; omega) (by omega) (by have := HB.out.size; simp; omega) ?_
          intro v' wz hown1 hgrow1 _
          have hbk := blk_by (HN.out.alloc _) (HO.out.alloc _) hgrow1 (by decide)
          have hbz : Below w3.heap.size w3 wz := (HB.out.alloc HB.out.size _).grown hgrow1 (by have := HB.out.size; simp; omega) (fun j e => (HO.out.lt j e).1)
          have hown2 : wz.ownsRow w3.heap.size 64 5 v' (L ++ [(0, 335544320 + (k : Int) * 65536, 16, 335544320 + ((k : Int) + 1) * 65536 + 1, (cs : Int))]).length ((L ++ [(0, 335544320 + (k : Int) * 65536, 16, 335544320 + ((k : Int) + 1) * 65536 + 1, (cs : Int))]).flatMap CRoute) := by rw [List.length_append, List.flatMap_append]; exact hown1
          obtain ⟨Aq, cq, rfl, _, _⟩ := IR.of_own route_len hown2
          have u3 : wz.cell? ⟨w3.heap.size, 3, none⟩ = some v := hbk.cell 3
          have z3 : wz.frozen? ⟨w3.heap.size, 3, none⟩ = false := hbk.frozen 3
          have HBK := Lib.hid hbk
          have HO1 := Lib.hid hown2
          have HB1' := Lib.hid hbz
          clear hbk hown1 hown2 hgrow1 hbz)
        clear u3 z3 q3
        have HN2 := Lib.hid (Blk.set_to HBK.out 3 (.slice Aq (L ++ [(0, 335544320 + (k : Int) * 65536, 16, 335544320 + ((k : Int) + 1) * 65536 + 1, (cs : Int))]).length cq) (cs' := #[.slice M.r.A M.r.n M.r.c, .slice M.l.A M.l.n M.l.c, .slice M.p.A M.p.n M.p.c, .slice Aq (L ++ [(0, 335544320 + (k : Int) * 65536, 16, 335544320 + ((k : Int) + 1) * 65536 + 1, (cs : Int))]).length cq, .slice M.g.A M.g.n M.g.c, .slice M.s.A M.s.n M.s.c, .slice M.m.A M.m.n M.m.c]) rfl)
        have HO2 := Lib.hid (ownk_far (i := 3) (u := .slice Aq (L ++ [(0, 335544320 + (k : Int) * 65536, 16, 335544320 + ((k : Int) + 1) * 65536 + 1, (cs : Int))]).length cq) HO1.out HBK.out.slot (by decide))
        have HB2' := Lib.hid (HB1'.out.setCell (p := ⟨w3.heap.size, 3, none⟩) (Nat.le_refl _) (.slice Aq (L ++ [(0, 335544320 + (k : Int) * 65536, 16, 335544320 + ((k : Int) + 1) * 65536 + 1, (cs : Int))]).length cq))
        simp only [List.length_append, List.length_cons, List.length_nil, Nat.zero_add] at HN2 HO2 HB2'
        go_roundw
        case rel => exact ⟨k + 1, _, by omega, by go_num, HN2, Lib.hid (by rw [HT.out, List.length_append]; exact HO2.out), HB2'⟩
        case measure => simp [intOf]; omega
    · obtain rfl : k = m := by omega
      have hi0 : ¬ ((k : Int) < (k : Int)) := by omega
      have hlt : (deepOs k cs).length = k := by simp [deepOs]
      have hall : (deepOs k cs).take k = deepOs k cs := List.take_of_length_le (by omega)
      rw [hall] at HO
      obtain ⟨Ao, co, rfl, hco, hir⟩ := IR.of_own route_len HO.out
      have HNW := Lib.hid (new_ok ads { M with o := ⟨Ao, (deepOs k cs).length, co⟩ } (deepCfg k cs) [] wr (HE.out.below (HB3.out.trans (HB.out.mono HB3.out.size))) (CW.routes (HCW.out.next HB.out) hir hco (by omega) (deep_u32 k cs hm9)) (deep_valid k cs hm9 (by omega) (by omega)) (line_rn 1 0) (line_ln 1 0) (fun W _ => groups0_any _ W HCW.out.s.len.symm HCW.out.m.len.symm) (line_ports 1 0) (fun y hy => (by cases hy)))
      have HBr := Lib.hid (HB3.out.trans (HB.out.mono HB3.out.size))
      have HW := Lib.hid (deep_look k cs hm1 hm9 (by omega) (by omega))
      have HRO := Lib.hid (deep_ribok k cs hm9 (by omega) (by omega))
      dsimp only at HNW
      rw [hlt] at HNW HN
      have n0 : wr.cell? ⟨w3.heap.size, 0, none⟩ = some (.slice M.r.A M.r.n M.r.c) := HN.out.cell 0
      have n1 : wr.cell? ⟨w3.heap.size, 1, none⟩ = some (.slice M.l.A M.l.n M.l.c) := HN.out.cell 1
      have n2 : wr.cell? ⟨w3.heap.size, 2, none⟩ = some (.slice M.p.A M.p.n M.p.c) := HN.out.cell 2
      have n3 : wr.cell? ⟨w3.heap.size, 3, none⟩ = some (.slice Ao k co) := HN.out.cell 3
      have n4 : wr.cell? ⟨w3.heap.size, 4, none⟩ = some (.slice M.g.A M.g.n M.g.c) := HN.out.cell 4
      have n5 : wr.cell? ⟨w3.heap.size, 5, none⟩ = some (.slice M.s.A M.s.n M.s.c) := HN.out.cell 5
      have n6 : wr.cell? ⟨w3.heap.size, 6, none⟩ = some (.slice M.m.A M.m.n M.m.c) := HN.out.cell 6
      clear hall hlt hir hco
      go_upto_region 18 with (go_at_call 11; refine HNW.out.mono ?_; rintro e w6 ⟨T, x', rfl, hT, hal, hb6⟩; have HT := Lib.hid hT; have HAL := Lib.hid hal; have HB6 := Lib.hid (below_next HBr.out hb6); clear hT hal hb6)
      clear n0 n1 n2 n3 n4 n5 n6
      have HLK := Lib.hid fun W (hW : Below w6.heap.size w6 W) => look_at HAL.out HRO.out (line_rn 1 0) (line_ln 1 0) 0 335544325 W (HT.out.next hW)
      rw [HW.out] at HLK
      by_cases h6 : 6 < k
      · rw [if_pos h6] at HLK
        have hi1 : (6 : Int) < (k : Int) := by omega
        go_wp2_with (go_at_call 14; refine (HLK.out _ (Below.refl _ _)).mono ?_; rintro e w7 ⟨rfl, hb7⟩; have HB7 := Lib.hid (below_next HB6.out hb7); clear hb7)
        go_ret
        exact ⟨rfl, HB7.out.alloc HB7.out.size _⟩
      · rw [if_neg h6] at HLK
        have hi1 : ¬ ((6 : Int) < (k : Int)) := by omega
        go_upto_region 21 with (go_at_call 14; refine (HLK.out _ (Below.refl _ _)).mono ?_; rintro e w7 ⟨rfl, hb7⟩; have HB7 := Lib.hid (below_next HB6.out hb7); clear hb7)
        have hkc : k * cs ≤ 6 * 65535 := Nat.mul_le_mul (by omega) hcs
        have hkc2 : (k : Int) * (cs : Int) = ((k * cs : Nat) : Int) := by simp
        have hwm : wrap64 ((k : Int) * (cs : Int)) = (k : Int) * (cs : Int) := by unfold wrap64; omega
        clear hkc hkc2
        have s0 : (w7.alloc (.cells #[.int .i64 1, .int .u32 (adr 1 99), .int .i64 (min ((k : Int) * (cs : Int)) 65535)] 45)).cell? ⟨w7.heap.size, 0, none⟩ = some (.int .i64 1) := by go_simp
        have s1 : (w7.alloc (.cells #[.int .i64 1, .int .u32 (adr 1 99), .int .i64 (min ((k : Int) * (cs : Int)) 65535)] 45)).cell? ⟨w7.heap.size, 1, none⟩ = some (.int .u32 (adr 1 99)) := by go_simp
        have s2 : (w7.alloc (.cells #[.int .i64 1, .int .u32 (adr 1 99), .int .i64 (min ((k : Int) * (cs : Int)) 65535)] 45)).cell? ⟨w7.heap.size, 2, none⟩ = some (.int .i64 (min ((k : Int) * (cs : Int)) 65535)) := by go_simp
        have HB8 := Lib.hid (HB7.out.alloc HB7.out.size (.cells #[.int .i64 1, .int .u32 (adr 1 99), .int .i64 (min ((k : Int) * (cs : Int)) 65535)] 45))
        generalize w7.alloc (.cells #[.int .i64 1, .int .u32 (adr 1 99), .int .i64 (min ((k : Int) * (cs : Int)) 65535)] 45) = W8 at *
        go_quiet ((go_at_call 21; exact (Calls.quiet_of_same ((HA.out _).mono fun _ _ hh => ⟨hh.1, hh.2⟩))))
        go_wp2
        go_ret
        exact ⟨rfl, below_drewN HB8.out _⟩
end Go.Proofs.YtahnnaagpeinkaaGreatDoor

