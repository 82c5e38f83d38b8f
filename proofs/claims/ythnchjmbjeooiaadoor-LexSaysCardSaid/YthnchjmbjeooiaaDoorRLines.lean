/- Contract of the document's Lines: byte by byte it gives a text's lines. -/
import Derived.Test.YthnchjmbjeooiaaDoorLines
import Derived.Lib.SmallJoins
namespace Go.Proofs.YthnchjmbjeooiaaDoor
open Go.RowKit Go.Lib Lx
namespace Lx
theorem mach_end (no : Nat) (ws : List (List UInt8)) (wd : List UInt8) (note : Bool) (l : List UInt8) : mach no ws wd note (10 :: l) = fin no (push ws wd) ++ mach (no + 1) [] [] false l := by
  rw [mach, if_pos rfl]
theorem mach_cut {no : Nat} {ws : List (List UInt8)} {wd : List UInt8} {note : Bool} {c : UInt8} {l : List UInt8} (h : c ≠ 10) (g : ((note || decide (c = 35)) || sep c) = true) : mach no ws wd note (c :: l) = mach no (push ws wd) [] (note || decide (c = 35)) l := by
  rw [mach, if_neg h, if_pos g]
theorem mach_reg {no : Nat} {ws : List (List UInt8)} {wd : List UInt8} {note : Bool} {c : UInt8} {l : List UInt8} (h : c ≠ 10) (g : ((note || decide (c = 35)) || sep c) = false) : mach no ws wd note (c :: l) = mach no ws (wd ++ [c]) note l := by
  rw [mach, if_neg h, if_neg (by rw [g]; decide)]
theorem push_nil (ws : List (List UInt8)) : push ws [] = ws := by unfold push; rw [if_pos rfl]
theorem push_one {ws : List (List UInt8)} {wd : List UInt8} (h : wd ≠ []) : push ws wd = ws ++ [wd] := by unfold push; rw [if_neg h]
theorem fin_nil (no : Nat) : fin no [] = [] := rfl
theorem fin_one {no : Nat} {ws : List (List UInt8)} (h : ws ≠ []) : fin no ws = [(no, ws)] := by unfold fin; rw [if_neg h]
/-- which byte it is: the end of a line; a note's sign; what stands between words; a sign of a word -/
theorem by_byte (c : UInt8) : (c.toNat = 10 ∧ c = 10) ∨ (c.toNat = 35 ∧ c ≠ 10 ∧ decide (c = 35) = true) ∨ ((c.toNat = 32 ∨ c.toNat = 9 ∨ c.toNat = 13) ∧ c ≠ 10 ∧ decide (c = 35) = false ∧ sep c = true) ∨
    (c.toNat ≠ 10 ∧ c.toNat ≠ 35 ∧ c.toNat ≠ 32 ∧ c.toNat ≠ 9 ∧ c.toNat ≠ 13 ∧ c ≠ 10 ∧ decide (c = 35) = false ∧ sep c = false) := by
  have e : ∀ d : UInt8, c.toNat = d.toNat ↔ c = d := fun d => UInt8.toNat_inj
  have e10 := e 10
  have e35 := e 35
  have h10 : (10 : UInt8).toNat = 10 := rfl
  have h35 : (35 : UInt8).toNat = 35 := rfl
  rw [h10] at e10
  rw [h35] at e35
  unfold sep
  by_cases h1 : c = 10
  · exact .inl ⟨e10.2 h1, h1⟩
  · by_cases h2 : c = 35
    · exact .inr (.inl ⟨e35.2 h2, h1, by simp [h2]⟩)
    · have g1 : c.toNat ≠ 10 := fun h => h1 (e10.1 h)
      have g2 : c.toNat ≠ 35 := fun h => h2 (e35.1 h)
      by_cases h3 : c.toNat = 32 ∨ c.toNat = 9 ∨ c.toNat = 13
      · refine .inr (.inr (.inl ⟨h3, h1, by simp [h2], ?_⟩))
        rcases h3 with h | h | h <;> rw [h] <;> rfl
      · refine .inr (.inr (.inr ⟨g1, g2, by omega, by omega, by omega, h1, by simp [h2], ?_⟩))
        simp; omega
end Lx
theorem info_str : (Tryd.prog.info? 9).map (fun i => (i.zero, i.size, i.bytes)) = some (some (.string ⟨#[]⟩), 1, 16) := by kernel_rfl
theorem info_rline : (Tryd.prog.info? 35).map (fun i => (i.zero, i.size, i.bytes)) = some (some (.agg #[.int .i64 0, .slice none 0 0]), 2, 32) := by kernel_rfl
theorem cells1_new (w : World) (x : Value) (t : TypeId) : ∀ j u, [x][j]? = some u → (w.alloc (.cells #[x] t)).cell? ((⟨w.heap.size, 0, none⟩ : Addr).add j) = some u := by
  intro j u hj
  match j, hj with
  | 0, hj => simp at hj; subst hj; simp [Addr.add]
  | (j + 1), hj => simp at hj
theorem str_grow (s : ByteArray) (wd : List UInt8) (k : Nat) (h : k < s.data.toList.length) : str wd ++ s.extract k (k + 1) = str (wd ++ [s.data.toList[k]]) := by
  have e : (str wd ++ s.extract k (k + 1)).data.toList = wd ++ [s.data.toList[k]] := by
    rw [Joins.data_append, str_data, Lib.extract_data]
    rw [List.drop_eq_getElem_cons h, show k + 1 - k = 1 by omega]
    rfl
  rw [← e, str_list]
theorem str_none : (str []).toList.isEmpty = true := by rw [ByteArray.toList_eq, str_data]; rfl
theorem str_empty {wd : List UInt8} (h : wd ≠ []) : (str wd).toList.isEmpty = false := by
  rw [ByteArray.toList_eq, str_data]
  cases wd with
  | nil => exact absurd rfl h
  | cons a l => rfl
/-- what the round holds on to: the lines so far, in an elder world; the words of this line, in a row of their own -/
structure RInv (W0 w1 wr : World) (tL tS : TypeId) (L : List (Nat × List (List UInt8))) (cs : List Value) (ws : List (List UInt8)) (vo vw : Value) : Prop where
  base : Below W0.heap.size W0 w1
  out : w1.ownsRow W0.heap.size tL 2 vo L.length cs
  lc : LC w1 tS L cs
  up : Below w1.heap.size w1 wr
  own : wr.ownsRow w1.heap.size tS 1 vw ws.length (VS ws)
theorem RInv.word {W0 w1 wr w2 : World} {tL tS : TypeId} {L : List (Nat × List (List UInt8))} {cs : List Value} {ws : List (List UInt8)} {vo vw vw2 : Value} {wd : List UInt8} {o : Obj} (h : RInv W0 w1 wr tL tS L cs ws vo vw)
    (ho : w2.ownsRow w1.heap.size tS 1 vw2 (ws.length + 1) (VS ws ++ [.string (str wd)])) (hg : (wr.alloc o).grownBy w2 vw.ownBlock) : RInv W0 w1 w2 tL tS L cs (ws ++ [wd]) vo vw2 :=
  ⟨h.base, h.out, h.lc, (h.up.alloc h.up.size o).grown hg (by have := h.up.size; simp; omega) (fun k hk => ((h.own.alloc o).lt k hk).1), by rw [VS_app, List.length_append]; exact ho⟩
theorem RInv.line {W0 w1 wr w2 : World} {tL tS : TypeId} {L : List (Nat × List (List UInt8))} {cs : List Value} {ws : List (List UInt8)} {vo vw vo2 : Value} {no : Nat} {o : Obj} (hn : tS ≠ tL) (h : RInv W0 w1 wr tL tS L cs ws vo vw)
    (ho : w2.ownsRow W0.heap.size tL 2 vo2 (L.length + 1) (cs ++ [.int .i64 (no : Int), vw])) (hg : (wr.alloc o).grownBy w2 vo.ownBlock) : RInv W0 w2 w2 tL tS (L ++ [(no, ws)]) (cs ++ [.int .i64 (no : Int), vw]) [] vo2 (.slice none 0 0) := by
  have hb : Below W0.heap.size W0 wr := h.base.trans (h.up.mono h.base.size)
  have hout : wr.ownsRow W0.heap.size tL 2 vo L.length cs := own_nextk h.out h.up
  have hbo := (Below.refl wr.heap.size wr).alloc (Nat.le_refl _) o
  refine ⟨(hb.alloc hb.size o).grown hg (by have := hb.size; simp; omega) (fun k hk => ((hout.alloc o).lt k hk).1), by rw [List.length_append]; exact ho, ?_, Below.refl _ _, World.ownsRow_nil _ _ _ _⟩
  exact LC.kept hn (hout.alloc o) hg (((h.lc.next h.up).snoc (no := no) (own_up h.own (Nat.zero_le _))).next hbo)
theorem RInv.skip {W0 w1 wr : World} {tL tS : TypeId} {L : List (Nat × List (List UInt8))} {cs : List Value} {ws : List (List UInt8)} {vo vw : Value} (h : RInv W0 w1 wr tL tS L cs ws vo vw) : RInv W0 w1 wr tL tS L cs [] vo (.slice none 0 0) :=
  ⟨h.base, h.out, h.lc, h.up, World.ownsRow_nil _ _ _ _⟩
set_option maxRecDepth 100000 in
set_option maxHeartbeats 8000000 in
theorem rlines_any (s : ByteArray) (W : World) (hs : s.size ≤ 16384) :
    Calls Tryd.prog 10 #[.string s] W fun e w' => ∃ A c, e = .returned (.tuple #[.slice A (lines s.data.toList).length c, .int .i64 0]) ∧ LR w' A (lines s.data.toList).length (lines s.data.toList) ∧ Below W.heap.size W w' := by
  obtain ⟨iS, hiS, hzS, hzS1, hzS2⟩ := info_parts info_str
  obtain ⟨iL, hiL, hzL, hzL1, hzL2⟩ := info_parts info_rline
  have HLn : Hid (s.data.toList.length = s.size) := by show _ = _; simp
  have HE := Lib.hid (mach_lines s.data.toList)
  generalize lines s.data.toList = R at *
  go_enter Tryd.func10, Tryd.ntmps10
  go_wp2_with fail
  go_loopw [4, 5, 6, 7, 8, 9] (fun vo vn vw vd vt vi wr => ∃ (k no : Nat) (L : List (Nat × List (List UInt8))) (cs : List Value) (ws : List (List UInt8)) (wd : List UInt8) (note : Bool) (w1 : World),
      k ≤ s.size + 1 ∧ no ≤ k + 1 ∧ L.length ≤ k ∧ ws.length ≤ k ∧ wd.length ≤ k ∧ vi = .int .i64 k ∧ vn = .int .i64 no ∧ vd = .string (str wd) ∧ vt = .bool note ∧
      Hid (RInv W w1 wr 35 9 L cs ws vo vw) ∧ Hid ((k ≤ s.size → L ++ mach no ws wd note (s.data.toList.drop k) = R) ∧ (s.size < k → L = R))) (fun _ _ _ _ _ vi _ => s.size + 1 - (intOf vi).toNat)
  case atStart => exact ⟨0, 1, [], [], [], [], false, W, by omega, by omega, by simp, by simp, by simp, rfl, rfl, rfl, rfl, ⟨Below.refl _ _, World.ownsRow_nil _ _ _ _, rfl, Below.refl _ _, World.ownsRow_nil _ _ _ _⟩, ⟨fun _ => HE.out, fun h => absurd h (by omega)⟩⟩
  case round =>
    obtain ⟨k, no, L, cs, ws, wd, note, w1, hk, hno, hLl, hwl, hdl, rfl, rfl, rfl, rfl, HI, HR⟩ := hrel
    clear HE
    have hown := HI.out.own
    have hout : wr.ownsRow W.heap.size 35 2 _ L.length cs := own_nextk HI.out.out HI.out.up
    have hup := HI.out.up.size
    have hbs := HI.out.base.size
    rcases Nat.lt_or_ge s.size k with hend | hin
    · have hl := HI.out.lc.next HI.out.up
      have hb := HI.out.base.trans (HI.out.up.mono HI.out.base.size)
      rw [HR.out.2 hend] at hout hl
      obtain ⟨A, c, rfl, _, hr⟩ := own_lines hout hl
      have HX := Lib.hid hr
      have HB := Lib.hid hb
      clear hout hown hl hb hr
      go_wp2
      go_ret2
      exact ⟨A, c, rfl, HX.out, HB.out⟩
    · have hin' : ¬ (s.size : Int) < k := by omega
      rcases Nat.lt_or_ge k s.size with hlt | hge
      · have hki : (k : Int) < s.size := by omega
        have hl : k < s.data.toList.length := by rw [HLn.out]; exact hlt
        have hat : s[k]'hlt = s.data.toList[k]'hl := rfl
        have hd := HR.out.1 hin
        rw [List.drop_eq_getElem_cons hl] at hd
        have HG := Lib.hid (str_grow s wd k hl)
        have hc := by_byte (s[k]'hlt)
        rw [← hat] at hd HG
        clear hat HR
        generalize hcc : s[k]'hlt = c at *
        have hsz : ((str wd).size : Int) ≤ 16385 := by rw [str_size]; omega
        have hex : ((s.extract k (k + 1)).size : Int) ≤ 16385 := by rw [ByteArray.size_extract]; omega
        rcases hc with ⟨hv, hc10⟩ | ⟨hv, hc10, hdec⟩ | ⟨hv, hc10, hdec, hsep⟩ | ⟨g1, g2, g3, g4, g5, hc10, hdec, hsep⟩
        · rw [hc10, mach_end] at hd
          have HM := Lib.hid hd
          have fe10 : (((c.toNat : Nat) : Int) == 10) = true := by rw [hv]; rfl
          have fn10 : (((c.toNat : Nat) : Int) != 10) = false := by rw [hv]; rfl
          have fe35 : (((c.toNat : Nat) : Int) == 35) = false := by rw [hv]; rfl
          have fn35 : (((c.toNat : Nat) : Int) != 35) = true := by rw [hv]; rfl
          have fe32 : (((c.toNat : Nat) : Int) == 32) = false := by rw [hv]; rfl
          have fn32 : (((c.toNat : Nat) : Int) != 32) = true := by rw [hv]; rfl
          have fe9 : (((c.toNat : Nat) : Int) == 9) = false := by rw [hv]; rfl
          have fn9 : (((c.toNat : Nat) : Int) != 9) = true := by rw [hv]; rfl
          have fe13 : (((c.toNat : Nat) : Int) == 13) = false := by rw [hv]; rfl
          have fn13 : (((c.toNat : Nat) : Int) != 13) = true := by rw [hv]; rfl
          clear hv
          clear hd HG hc10 hsz hex hl
          cases note with
          | false =>
            by_cases hwd : wd = []
            · subst hwd
              rw [push_nil] at HM
              have hemp : (str []).toList.isEmpty = true := str_none
              by_cases hws : ws = []
              · subst hws
                rw [fin_nil] at HM
                obtain ⟨A3, c3, rfl, _⟩ := own_slice hown
                simp only [List.length_nil]
                clear hown hout
                go_wp2
                go_roundw
                case rel => exact ⟨k + 1, no + 1, L, cs, [], [], false, w1, by omega, by omega, (by first | omega | (simp; done) | (simp; omega)), (by first | omega | (simp; done) | (simp; omega)), (by first | omega | (simp; done) | (simp; omega)), by go_num, by go_num, rfl, rfl, Lib.hid HI.out.skip, ⟨fun _ => by simpa using HM.out, fun h => absurd h (by omega)⟩⟩
                case measure => first | (simp [intOf]; done) | (simp [intOf]; omega)
              · rw [fin_one hws] at HM
                have hpos : 0 < ws.length := List.length_pos_iff.2 hws
                obtain ⟨A3, c3, rfl, _⟩ := own_slice hown
                clear hown hws
                go_wp2_with (first
                  | (at_builtin; refine wpList_append_own _ rfl _ _ 28 rfl W.heap.size 35 iL (.agg #[.int .i64 0, .slice none 0 0]) 2 32 Tryd.underlying28 hiL hzL hzL1 hzL2 rfl (by decide) _ L.length cs rfl (hout.alloc _) ⟨wr.heap.size, 0, none⟩ 1 1 [.int .i64 (no : Int), .slice A3 ws.length c3] rfl rfl (cells2_new _ _ _ _) (by intro u hu; simp at hu; rcases hu with rfl | rfl <;> rfl) (by unfold maxLen; omega) (by omega) (by simp; omega) ?_; intro v6 w6 hown6 hgrow6 _
                     have HI6 := Lib.hid (HI.out.line (no := no) (by decide) hown6 hgrow6)
                     clear hown6 hgrow6))
                go_roundw
                case rel => exact ⟨k + 1, no + 1, L ++ [(no, ws)], cs ++ [.int .i64 (no : Int), .slice A3 ws.length c3], [], [], false, w6, by omega, by omega, (by first | omega | (simp; done) | (simp; omega)), (by first | omega | (simp; done) | (simp; omega)), (by first | omega | (simp; done) | (simp; omega)), by go_num, by go_num, rfl, rfl, HI6, ⟨fun _ => by simpa using HM.out, fun h => absurd h (by omega)⟩⟩
                case measure => first | (simp [intOf]; done) | (simp [intOf]; omega)
            · rw [push_one hwd, fin_one (by simp)] at HM
              have hemp := str_empty hwd
              go_wp2_with (first
                | (at_builtin; refine wpList_append_own _ rfl _ _ 32 rfl w1.heap.size 9 iS (.string ⟨#[]⟩) 1 16 Tryd.underlying32 hiS hzS hzS1 hzS2 rfl (by decide) _ ws.length (VS ws) rfl (hown.alloc _) ⟨wr.heap.size, 0, none⟩ 1 1 [.string (str wd)] rfl rfl (cells1_new _ _ _) (by intro u hu; simp at hu; subst hu; rfl) (by unfold maxLen; omega) (by omega) (by simp; omega) ?_; intro v4 w4 hown4 hgrow4 _
                   have HI4 := Lib.hid (HI.out.word hown4 hgrow4)
                   have hout4 : w4.ownsRow W.heap.size 35 2 _ L.length cs := own_nextk HI4.out.out HI4.out.up
                   have hs4 : W.heap.size ≤ w4.heap.size := (HI4.out.base.trans (HI4.out.up.mono HI4.out.base.size)).size
                   obtain ⟨A4, c4, rfl, _⟩ := own_slice hown4
                   clear hown4 hgrow4)
                | (at_builtin; refine wpList_append_own _ rfl _ _ 28 rfl W.heap.size 35 iL (.agg #[.int .i64 0, .slice none 0 0]) 2 32 Tryd.underlying28 hiL hzL hzL1 hzL2 rfl (by decide) _ L.length cs rfl (hout4.alloc _) ⟨w4.heap.size, 0, none⟩ 1 1 [.int .i64 (no : Int), .slice A4 (ws.length + 1) c4] rfl rfl (cells2_new _ _ _ _) (by intro u hu; simp at hu; rcases hu with rfl | rfl <;> rfl) (by unfold maxLen; omega) (by omega) (by simp; omega) ?_; intro v6 w6 hown6 hgrow6 _
                   have HI6 := Lib.hid (HI4.out.line (no := no) (by decide) hown6 hgrow6)
                   clear hown6 hgrow6))
              go_roundw
              case rel => exact ⟨k + 1, no + 1, L ++ [(no, ws ++ [wd])], cs ++ [.int .i64 (no : Int), .slice A4 (ws.length + 1) c4], [], [], false, w6, by omega, by omega, (by first | omega | (simp; done) | (simp; omega)), (by first | omega | (simp; done) | (simp; omega)), (by first | omega | (simp; done) | (simp; omega)), by go_num, by go_num, rfl, rfl, HI6, ⟨fun _ => by simpa using HM.out, fun h => absurd h (by omega)⟩⟩
              case measure => first | (simp [intOf]; done) | (simp [intOf]; omega)
          | true =>
            by_cases hwd : wd = []
            · subst hwd
              rw [push_nil] at HM
              have hemp : (str []).toList.isEmpty = true := str_none
              by_cases hws : ws = []
              · subst hws
                rw [fin_nil] at HM
                obtain ⟨A3, c3, rfl, _⟩ := own_slice hown
                simp only [List.length_nil]
                clear hown hout
                go_wp2
                go_roundw
                case rel => exact ⟨k + 1, no + 1, L, cs, [], [], false, w1, by omega, by omega, (by first | omega | (simp; done) | (simp; omega)), (by first | omega | (simp; done) | (simp; omega)), (by first | omega | (simp; done) | (simp; omega)), by go_num, by go_num, rfl, rfl, Lib.hid HI.out.skip, ⟨fun _ => by simpa using HM.out, fun h => absurd h (by omega)⟩⟩
                case measure => first | (simp [intOf]; done) | (simp [intOf]; omega)
              · rw [fin_one hws] at HM
                have hpos : 0 < ws.length := List.length_pos_iff.2 hws
                obtain ⟨A3, c3, rfl, _⟩ := own_slice hown
                clear hown hws
                go_wp2_with (first
                  | (at_builtin; refine wpList_append_own _ rfl _ _ 28 rfl W.heap.size 35 iL (.agg #[.int .i64 0, .slice none 0 0]) 2 32 Tryd.underlying28 hiL hzL hzL1 hzL2 rfl (by decide) _ L.length cs rfl (hout.alloc _) ⟨wr.heap.size, 0, none⟩ 1 1 [.int .i64 (no : Int), .slice A3 ws.length c3] rfl rfl (cells2_new _ _ _ _) (by intro u hu; simp at hu; rcases hu with rfl | rfl <;> rfl) (by unfold maxLen; omega) (by omega) (by simp; omega) ?_; intro v6 w6 hown6 hgrow6 _
                     have HI6 := Lib.hid (HI.out.line (no := no) (by decide) hown6 hgrow6)
                     clear hown6 hgrow6))
                go_roundw
                case rel => exact ⟨k + 1, no + 1, L ++ [(no, ws)], cs ++ [.int .i64 (no : Int), .slice A3 ws.length c3], [], [], false, w6, by omega, by omega, (by first | omega | (simp; done) | (simp; omega)), (by first | omega | (simp; done) | (simp; omega)), (by first | omega | (simp; done) | (simp; omega)), by go_num, by go_num, rfl, rfl, HI6, ⟨fun _ => by simpa using HM.out, fun h => absurd h (by omega)⟩⟩
                case measure => first | (simp [intOf]; done) | (simp [intOf]; omega)
            · rw [push_one hwd, fin_one (by simp)] at HM
              have hemp := str_empty hwd
              go_wp2_with (first
                | (at_builtin; refine wpList_append_own _ rfl _ _ 32 rfl w1.heap.size 9 iS (.string ⟨#[]⟩) 1 16 Tryd.underlying32 hiS hzS hzS1 hzS2 rfl (by decide) _ ws.length (VS ws) rfl (hown.alloc _) ⟨wr.heap.size, 0, none⟩ 1 1 [.string (str wd)] rfl rfl (cells1_new _ _ _) (by intro u hu; simp at hu; subst hu; rfl) (by unfold maxLen; omega) (by omega) (by simp; omega) ?_; intro v4 w4 hown4 hgrow4 _
                   have HI4 := Lib.hid (HI.out.word hown4 hgrow4)
                   have hout4 : w4.ownsRow W.heap.size 35 2 _ L.length cs := own_nextk HI4.out.out HI4.out.up
                   have hs4 : W.heap.size ≤ w4.heap.size := (HI4.out.base.trans (HI4.out.up.mono HI4.out.base.size)).size
                   obtain ⟨A4, c4, rfl, _⟩ := own_slice hown4
                   clear hown4 hgrow4)
                | (at_builtin; refine wpList_append_own _ rfl _ _ 28 rfl W.heap.size 35 iL (.agg #[.int .i64 0, .slice none 0 0]) 2 32 Tryd.underlying28 hiL hzL hzL1 hzL2 rfl (by decide) _ L.length cs rfl (hout4.alloc _) ⟨w4.heap.size, 0, none⟩ 1 1 [.int .i64 (no : Int), .slice A4 (ws.length + 1) c4] rfl rfl (cells2_new _ _ _ _) (by intro u hu; simp at hu; rcases hu with rfl | rfl <;> rfl) (by unfold maxLen; omega) (by omega) (by simp; omega) ?_; intro v6 w6 hown6 hgrow6 _
                   have HI6 := Lib.hid (HI4.out.line (no := no) (by decide) hown6 hgrow6)
                   clear hown6 hgrow6))
              go_roundw
              case rel => exact ⟨k + 1, no + 1, L ++ [(no, ws ++ [wd])], cs ++ [.int .i64 (no : Int), .slice A4 (ws.length + 1) c4], [], [], false, w6, by omega, by omega, (by first | omega | (simp; done) | (simp; omega)), (by first | omega | (simp; done) | (simp; omega)), (by first | omega | (simp; done) | (simp; omega)), by go_num, by go_num, rfl, rfl, HI6, ⟨fun _ => by simpa using HM.out, fun h => absurd h (by omega)⟩⟩
              case measure => first | (simp [intOf]; done) | (simp [intOf]; omega)
        · cases note with
          | false =>
            rw [mach_cut hc10 (by first | rfl | (rw [hdec]; rfl) | (rw [hsep]; simp))] at hd
            simp only [hdec, Bool.false_or] at hd
            have HM := Lib.hid hd
            have fe10 : (((c.toNat : Nat) : Int) == 10) = false := by rw [hv]; rfl
            have fn10 : (((c.toNat : Nat) : Int) != 10) = true := by rw [hv]; rfl
            have fe35 : (((c.toNat : Nat) : Int) == 35) = true := by rw [hv]; rfl
            have fn35 : (((c.toNat : Nat) : Int) != 35) = false := by rw [hv]; rfl
            have fe32 : (((c.toNat : Nat) : Int) == 32) = false := by rw [hv]; rfl
            have fn32 : (((c.toNat : Nat) : Int) != 32) = true := by rw [hv]; rfl
            have fe9 : (((c.toNat : Nat) : Int) == 9) = false := by rw [hv]; rfl
            have fn9 : (((c.toNat : Nat) : Int) != 9) = true := by rw [hv]; rfl
            have fe13 : (((c.toNat : Nat) : Int) == 13) = false := by rw [hv]; rfl
            have fn13 : (((c.toNat : Nat) : Int) != 13) = true := by rw [hv]; rfl
            clear hv
            clear hd HG hc10 hdec hsz hex hl
            by_cases hwd : wd = []
            · subst hwd
              rw [push_nil] at HM
              have hemp : (str []).toList.isEmpty = true := str_none
              clear hown hout
              go_wp2
              go_roundw
              case rel => exact ⟨k + 1, no, L, cs, ws, [], true, w1, by omega, by omega, (by first | omega | (simp; done) | (simp; omega)), (by first | omega | (simp; done) | (simp; omega)), (by first | omega | (simp; done) | (simp; omega)), by go_num, by go_num, rfl, rfl, HI, ⟨fun _ => HM.out, fun h => absurd h (by omega)⟩⟩
              case measure => first | (simp [intOf]; done) | (simp [intOf]; omega)
            · rw [push_one hwd] at HM
              have hemp := str_empty hwd
              go_wp2_with (first
                | (at_builtin; refine wpList_append_own _ rfl _ _ 32 rfl w1.heap.size 9 iS (.string ⟨#[]⟩) 1 16 Tryd.underlying32 hiS hzS hzS1 hzS2 rfl (by decide) _ ws.length (VS ws) rfl (hown.alloc _) ⟨wr.heap.size, 0, none⟩ 1 1 [.string (str wd)] rfl rfl (cells1_new _ _ _) (by intro u hu; simp at hu; subst hu; rfl) (by unfold maxLen; omega) (by omega) (by simp; omega) ?_; intro v4 w4 hown4 hgrow4 _
                   have HI4 := Lib.hid (HI.out.word hown4 hgrow4)
                   have hout4 : w4.ownsRow W.heap.size 35 2 _ L.length cs := own_nextk HI4.out.out HI4.out.up
                   have hs4 : W.heap.size ≤ w4.heap.size := (HI4.out.base.trans (HI4.out.up.mono HI4.out.base.size)).size
                   obtain ⟨A4, c4, rfl, _⟩ := own_slice hown4
                   clear hown4 hgrow4))
              go_roundw
              case rel => exact ⟨k + 1, no, L, cs, ws ++ [wd], [], true, w1, by omega, by omega, (by first | omega | (simp; done) | (simp; omega)), (by first | omega | (simp; done) | (simp; omega)), (by first | omega | (simp; done) | (simp; omega)), by go_num, by go_num, rfl, rfl, HI4, ⟨fun _ => HM.out, fun h => absurd h (by omega)⟩⟩
              case measure => first | (simp [intOf]; done) | (simp [intOf]; omega)
          | true =>
            rw [mach_cut hc10 (by first | rfl | (rw [hdec]; rfl) | (rw [hsep]; simp))] at hd
            simp only [Bool.true_or] at hd
            have HM := Lib.hid hd
            have fe10 : (((c.toNat : Nat) : Int) == 10) = false := by rw [hv]; rfl
            have fn10 : (((c.toNat : Nat) : Int) != 10) = true := by rw [hv]; rfl
            have fe35 : (((c.toNat : Nat) : Int) == 35) = true := by rw [hv]; rfl
            have fn35 : (((c.toNat : Nat) : Int) != 35) = false := by rw [hv]; rfl
            have fe32 : (((c.toNat : Nat) : Int) == 32) = false := by rw [hv]; rfl
            have fn32 : (((c.toNat : Nat) : Int) != 32) = true := by rw [hv]; rfl
            have fe9 : (((c.toNat : Nat) : Int) == 9) = false := by rw [hv]; rfl
            have fn9 : (((c.toNat : Nat) : Int) != 9) = true := by rw [hv]; rfl
            have fe13 : (((c.toNat : Nat) : Int) == 13) = false := by rw [hv]; rfl
            have fn13 : (((c.toNat : Nat) : Int) != 13) = true := by rw [hv]; rfl
            clear hv
            clear hd HG hc10 hdec hsz hex hl
            by_cases hwd : wd = []
            · subst hwd
              rw [push_nil] at HM
              have hemp : (str []).toList.isEmpty = true := str_none
              clear hown hout
              go_wp2
              go_roundw
              case rel => exact ⟨k + 1, no, L, cs, ws, [], true, w1, by omega, by omega, (by first | omega | (simp; done) | (simp; omega)), (by first | omega | (simp; done) | (simp; omega)), (by first | omega | (simp; done) | (simp; omega)), by go_num, by go_num, rfl, rfl, HI, ⟨fun _ => HM.out, fun h => absurd h (by omega)⟩⟩
              case measure => first | (simp [intOf]; done) | (simp [intOf]; omega)
            · rw [push_one hwd] at HM
              have hemp := str_empty hwd
              go_wp2_with (first
                | (at_builtin; refine wpList_append_own _ rfl _ _ 32 rfl w1.heap.size 9 iS (.string ⟨#[]⟩) 1 16 Tryd.underlying32 hiS hzS hzS1 hzS2 rfl (by decide) _ ws.length (VS ws) rfl (hown.alloc _) ⟨wr.heap.size, 0, none⟩ 1 1 [.string (str wd)] rfl rfl (cells1_new _ _ _) (by intro u hu; simp at hu; subst hu; rfl) (by unfold maxLen; omega) (by omega) (by simp; omega) ?_; intro v4 w4 hown4 hgrow4 _
                   have HI4 := Lib.hid (HI.out.word hown4 hgrow4)
                   have hout4 : w4.ownsRow W.heap.size 35 2 _ L.length cs := own_nextk HI4.out.out HI4.out.up
                   have hs4 : W.heap.size ≤ w4.heap.size := (HI4.out.base.trans (HI4.out.up.mono HI4.out.base.size)).size
                   obtain ⟨A4, c4, rfl, _⟩ := own_slice hown4
                   clear hown4 hgrow4))
              go_roundw
              case rel => exact ⟨k + 1, no, L, cs, ws ++ [wd], [], true, w1, by omega, by omega, (by first | omega | (simp; done) | (simp; omega)), (by first | omega | (simp; done) | (simp; omega)), (by first | omega | (simp; done) | (simp; omega)), by go_num, by go_num, rfl, rfl, HI4, ⟨fun _ => HM.out, fun h => absurd h (by omega)⟩⟩
              case measure => first | (simp [intOf]; done) | (simp [intOf]; omega)
        · rcases hv with hv | hv | hv
          · cases note with
            | false =>
              rw [mach_cut hc10 (by first | rfl | (rw [hdec]; rfl) | (rw [hsep]; simp))] at hd
              simp only [hdec, Bool.false_or] at hd
              have HM := Lib.hid hd
              have fe10 : (((c.toNat : Nat) : Int) == 10) = false := by rw [hv]; rfl
              have fn10 : (((c.toNat : Nat) : Int) != 10) = true := by rw [hv]; rfl
              have fe35 : (((c.toNat : Nat) : Int) == 35) = false := by rw [hv]; rfl
              have fn35 : (((c.toNat : Nat) : Int) != 35) = true := by rw [hv]; rfl
              have fe32 : (((c.toNat : Nat) : Int) == 32) = true := by rw [hv]; rfl
              have fn32 : (((c.toNat : Nat) : Int) != 32) = false := by rw [hv]; rfl
              have fe9 : (((c.toNat : Nat) : Int) == 9) = false := by rw [hv]; rfl
              have fn9 : (((c.toNat : Nat) : Int) != 9) = true := by rw [hv]; rfl
              have fe13 : (((c.toNat : Nat) : Int) == 13) = false := by rw [hv]; rfl
              have fn13 : (((c.toNat : Nat) : Int) != 13) = true := by rw [hv]; rfl
              clear hv
              clear hd HG hc10 hdec hsz hex hl hsep
              by_cases hwd : wd = []
              · subst hwd
                rw [push_nil] at HM
                have hemp : (str []).toList.isEmpty = true := str_none
                clear hown hout
                go_wp2
                go_roundw
                case rel => exact ⟨k + 1, no, L, cs, ws, [], false, w1, by omega, by omega, (by first | omega | (simp; done) | (simp; omega)), (by first | omega | (simp; done) | (simp; omega)), (by first | omega | (simp; done) | (simp; omega)), by go_num, by go_num, rfl, rfl, HI, ⟨fun _ => HM.out, fun h => absurd h (by omega)⟩⟩
                case measure => first | (simp [intOf]; done) | (simp [intOf]; omega)
              · rw [push_one hwd] at HM
                have hemp := str_empty hwd
                go_wp2_with (first
                  | (at_builtin; refine wpList_append_own _ rfl _ _ 32 rfl w1.heap.size 9 iS (.string ⟨#[]⟩) 1 16 Tryd.underlying32 hiS hzS hzS1 hzS2 rfl (by decide) _ ws.length (VS ws) rfl (hown.alloc _) ⟨wr.heap.size, 0, none⟩ 1 1 [.string (str wd)] rfl rfl (cells1_new _ _ _) (by intro u hu; simp at hu; subst hu; rfl) (by unfold maxLen; omega) (by omega) (by simp; omega) ?_; intro v4 w4 hown4 hgrow4 _
                     have HI4 := Lib.hid (HI.out.word hown4 hgrow4)
                     have hout4 : w4.ownsRow W.heap.size 35 2 _ L.length cs := own_nextk HI4.out.out HI4.out.up
                     have hs4 : W.heap.size ≤ w4.heap.size := (HI4.out.base.trans (HI4.out.up.mono HI4.out.base.size)).size
                     obtain ⟨A4, c4, rfl, _⟩ := own_slice hown4
                     clear hown4 hgrow4))
                go_roundw
                case rel => exact ⟨k + 1, no, L, cs, ws ++ [wd], [], false, w1, by omega, by omega, (by first | omega | (simp; done) | (simp; omega)), (by first | omega | (simp; done) | (simp; omega)), (by first | omega | (simp; done) | (simp; omega)), by go_num, by go_num, rfl, rfl, HI4, ⟨fun _ => HM.out, fun h => absurd h (by omega)⟩⟩
                case measure => first | (simp [intOf]; done) | (simp [intOf]; omega)
            | true =>
              rw [mach_cut hc10 (by first | rfl | (rw [hdec]; rfl) | (rw [hsep]; simp))] at hd
              simp only [Bool.true_or] at hd
              have HM := Lib.hid hd
              have fe10 : (((c.toNat : Nat) : Int) == 10) = false := by rw [hv]; rfl
              have fn10 : (((c.toNat : Nat) : Int) != 10) = true := by rw [hv]; rfl
              have fe35 : (((c.toNat : Nat) : Int) == 35) = false := by rw [hv]; rfl
              have fn35 : (((c.toNat : Nat) : Int) != 35) = true := by rw [hv]; rfl
              have fe32 : (((c.toNat : Nat) : Int) == 32) = true := by rw [hv]; rfl
              have fn32 : (((c.toNat : Nat) : Int) != 32) = false := by rw [hv]; rfl
              have fe9 : (((c.toNat : Nat) : Int) == 9) = false := by rw [hv]; rfl
              have fn9 : (((c.toNat : Nat) : Int) != 9) = true := by rw [hv]; rfl
              have fe13 : (((c.toNat : Nat) : Int) == 13) = false := by rw [hv]; rfl
              have fn13 : (((c.toNat : Nat) : Int) != 13) = true := by rw [hv]; rfl
              clear hv
              clear hd HG hc10 hdec hsz hex hl hsep
              by_cases hwd : wd = []
              · subst hwd
                rw [push_nil] at HM
                have hemp : (str []).toList.isEmpty = true := str_none
                clear hown hout
                go_wp2
                go_roundw
                case rel => exact ⟨k + 1, no, L, cs, ws, [], true, w1, by omega, by omega, (by first | omega | (simp; done) | (simp; omega)), (by first | omega | (simp; done) | (simp; omega)), (by first | omega | (simp; done) | (simp; omega)), by go_num, by go_num, rfl, rfl, HI, ⟨fun _ => HM.out, fun h => absurd h (by omega)⟩⟩
                case measure => first | (simp [intOf]; done) | (simp [intOf]; omega)
              · rw [push_one hwd] at HM
                have hemp := str_empty hwd
                go_wp2_with (first
                  | (at_builtin; refine wpList_append_own _ rfl _ _ 32 rfl w1.heap.size 9 iS (.string ⟨#[]⟩) 1 16 Tryd.underlying32 hiS hzS hzS1 hzS2 rfl (by decide) _ ws.length (VS ws) rfl (hown.alloc _) ⟨wr.heap.size, 0, none⟩ 1 1 [.string (str wd)] rfl rfl (cells1_new _ _ _) (by intro u hu; simp at hu; subst hu; rfl) (by unfold maxLen; omega) (by omega) (by simp; omega) ?_; intro v4 w4 hown4 hgrow4 _
                     have HI4 := Lib.hid (HI.out.word hown4 hgrow4)
                     have hout4 : w4.ownsRow W.heap.size 35 2 _ L.length cs := own_nextk HI4.out.out HI4.out.up
                     have hs4 : W.heap.size ≤ w4.heap.size := (HI4.out.base.trans (HI4.out.up.mono HI4.out.base.size)).size
                     obtain ⟨A4, c4, rfl, _⟩ := own_slice hown4
                     clear hown4 hgrow4))
                go_roundw
                case rel => exact ⟨k + 1, no, L, cs, ws ++ [wd], [], true, w1, by omega, by omega, (by first | omega | (simp; done) | (simp; omega)), (by first | omega | (simp; done) | (simp; omega)), (by first | omega | (simp; done) | (simp; omega)), by go_num, by go_num, rfl, rfl, HI4, ⟨fun _ => HM.out, fun h => absurd h (by omega)⟩⟩
                case measure => first | (simp [intOf]; done) | (simp [intOf]; omega)
          · cases note with
            | false =>
              rw [mach_cut hc10 (by first | rfl | (rw [hdec]; rfl) | (rw [hsep]; simp))] at hd
              simp only [hdec, Bool.false_or] at hd
              have HM := Lib.hid hd
              have fe10 : (((c.toNat : Nat) : Int) == 10) = false := by rw [hv]; rfl
              have fn10 : (((c.toNat : Nat) : Int) != 10) = true := by rw [hv]; rfl
              have fe35 : (((c.toNat : Nat) : Int) == 35) = false := by rw [hv]; rfl
              have fn35 : (((c.toNat : Nat) : Int) != 35) = true := by rw [hv]; rfl
              have fe32 : (((c.toNat : Nat) : Int) == 32) = false := by rw [hv]; rfl
              have fn32 : (((c.toNat : Nat) : Int) != 32) = true := by rw [hv]; rfl
              have fe9 : (((c.toNat : Nat) : Int) == 9) = true := by rw [hv]; rfl
              have fn9 : (((c.toNat : Nat) : Int) != 9) = false := by rw [hv]; rfl
              have fe13 : (((c.toNat : Nat) : Int) == 13) = false := by rw [hv]; rfl
              have fn13 : (((c.toNat : Nat) : Int) != 13) = true := by rw [hv]; rfl
              clear hv
              clear hd HG hc10 hdec hsz hex hl hsep
              by_cases hwd : wd = []
              · subst hwd
                rw [push_nil] at HM
                have hemp : (str []).toList.isEmpty = true := str_none
                clear hown hout
                go_wp2
                go_roundw
                case rel => exact ⟨k + 1, no, L, cs, ws, [], false, w1, by omega, by omega, (by first | omega | (simp; done) | (simp; omega)), (by first | omega | (simp; done) | (simp; omega)), (by first | omega | (simp; done) | (simp; omega)), by go_num, by go_num, rfl, rfl, HI, ⟨fun _ => HM.out, fun h => absurd h (by omega)⟩⟩
                case measure => first | (simp [intOf]; done) | (simp [intOf]; omega)
              · rw [push_one hwd] at HM
                have hemp := str_empty hwd
                go_wp2_with (first
                  | (at_builtin; refine wpList_append_own _ rfl _ _ 32 rfl w1.heap.size 9 iS (.string ⟨#[]⟩) 1 16 Tryd.underlying32 hiS hzS hzS1 hzS2 rfl (by decide) _ ws.length (VS ws) rfl (hown.alloc _) ⟨wr.heap.size, 0, none⟩ 1 1 [.string (str wd)] rfl rfl (cells1_new _ _ _) (by intro u hu; simp at hu; subst hu; rfl) (by unfold maxLen; omega) (by omega) (by simp; omega) ?_; intro v4 w4 hown4 hgrow4 _
                     have HI4 := Lib.hid (HI.out.word hown4 hgrow4)
                     have hout4 : w4.ownsRow W.heap.size 35 2 _ L.length cs := own_nextk HI4.out.out HI4.out.up
                     have hs4 : W.heap.size ≤ w4.heap.size := (HI4.out.base.trans (HI4.out.up.mono HI4.out.base.size)).size
                     obtain ⟨A4, c4, rfl, _⟩ := own_slice hown4
                     clear hown4 hgrow4))
                go_roundw
                case rel => exact ⟨k + 1, no, L, cs, ws ++ [wd], [], false, w1, by omega, by omega, (by first | omega | (simp; done) | (simp; omega)), (by first | omega | (simp; done) | (simp; omega)), (by first | omega | (simp; done) | (simp; omega)), by go_num, by go_num, rfl, rfl, HI4, ⟨fun _ => HM.out, fun h => absurd h (by omega)⟩⟩
                case measure => first | (simp [intOf]; done) | (simp [intOf]; omega)
            | true =>
              rw [mach_cut hc10 (by first | rfl | (rw [hdec]; rfl) | (rw [hsep]; simp))] at hd
              simp only [Bool.true_or] at hd
              have HM := Lib.hid hd
              have fe10 : (((c.toNat : Nat) : Int) == 10) = false := by rw [hv]; rfl
              have fn10 : (((c.toNat : Nat) : Int) != 10) = true := by rw [hv]; rfl
              have fe35 : (((c.toNat : Nat) : Int) == 35) = false := by rw [hv]; rfl
              have fn35 : (((c.toNat : Nat) : Int) != 35) = true := by rw [hv]; rfl
              have fe32 : (((c.toNat : Nat) : Int) == 32) = false := by rw [hv]; rfl
              have fn32 : (((c.toNat : Nat) : Int) != 32) = true := by rw [hv]; rfl
              have fe9 : (((c.toNat : Nat) : Int) == 9) = true := by rw [hv]; rfl
              have fn9 : (((c.toNat : Nat) : Int) != 9) = false := by rw [hv]; rfl
              have fe13 : (((c.toNat : Nat) : Int) == 13) = false := by rw [hv]; rfl
              have fn13 : (((c.toNat : Nat) : Int) != 13) = true := by rw [hv]; rfl
              clear hv
              clear hd HG hc10 hdec hsz hex hl hsep
              by_cases hwd : wd = []
              · subst hwd
                rw [push_nil] at HM
                have hemp : (str []).toList.isEmpty = true := str_none
                clear hown hout
                go_wp2
                go_roundw
                case rel => exact ⟨k + 1, no, L, cs, ws, [], true, w1, by omega, by omega, (by first | omega | (simp; done) | (simp; omega)), (by first | omega | (simp; done) | (simp; omega)), (by first | omega | (simp; done) | (simp; omega)), by go_num, by go_num, rfl, rfl, HI, ⟨fun _ => HM.out, fun h => absurd h (by omega)⟩⟩
                case measure => first | (simp [intOf]; done) | (simp [intOf]; omega)
              · rw [push_one hwd] at HM
                have hemp := str_empty hwd
                go_wp2_with (first
                  | (at_builtin; refine wpList_append_own _ rfl _ _ 32 rfl w1.heap.size 9 iS (.string ⟨#[]⟩) 1 16 Tryd.underlying32 hiS hzS hzS1 hzS2 rfl (by decide) _ ws.length (VS ws) rfl (hown.alloc _) ⟨wr.heap.size, 0, none⟩ 1 1 [.string (str wd)] rfl rfl (cells1_new _ _ _) (by intro u hu; simp at hu; subst hu; rfl) (by unfold maxLen; omega) (by omega) (by simp; omega) ?_; intro v4 w4 hown4 hgrow4 _
                     have HI4 := Lib.hid (HI.out.word hown4 hgrow4)
                     have hout4 : w4.ownsRow W.heap.size 35 2 _ L.length cs := own_nextk HI4.out.out HI4.out.up
                     have hs4 : W.heap.size ≤ w4.heap.size := (HI4.out.base.trans (HI4.out.up.mono HI4.out.base.size)).size
                     obtain ⟨A4, c4, rfl, _⟩ := own_slice hown4
                     clear hown4 hgrow4))
                go_roundw
                case rel => exact ⟨k + 1, no, L, cs, ws ++ [wd], [], true, w1, by omega, by omega, (by first | omega | (simp; done) | (simp; omega)), (by first | omega | (simp; done) | (simp; omega)), (by first | omega | (simp; done) | (simp; omega)), by go_num, by go_num, rfl, rfl, HI4, ⟨fun _ => HM.out, fun h => absurd h (by omega)⟩⟩
                case measure => first | (simp [intOf]; done) | (simp [intOf]; omega)
          · cases note with
            | false =>
              rw [mach_cut hc10 (by first | rfl | (rw [hdec]; rfl) | (rw [hsep]; simp))] at hd
              simp only [hdec, Bool.false_or] at hd
              have HM := Lib.hid hd
              have fe10 : (((c.toNat : Nat) : Int) == 10) = false := by rw [hv]; rfl
              have fn10 : (((c.toNat : Nat) : Int) != 10) = true := by rw [hv]; rfl
              have fe35 : (((c.toNat : Nat) : Int) == 35) = false := by rw [hv]; rfl
              have fn35 : (((c.toNat : Nat) : Int) != 35) = true := by rw [hv]; rfl
              have fe32 : (((c.toNat : Nat) : Int) == 32) = false := by rw [hv]; rfl
              have fn32 : (((c.toNat : Nat) : Int) != 32) = true := by rw [hv]; rfl
              have fe9 : (((c.toNat : Nat) : Int) == 9) = false := by rw [hv]; rfl
              have fn9 : (((c.toNat : Nat) : Int) != 9) = true := by rw [hv]; rfl
              have fe13 : (((c.toNat : Nat) : Int) == 13) = true := by rw [hv]; rfl
              have fn13 : (((c.toNat : Nat) : Int) != 13) = false := by rw [hv]; rfl
              clear hv
              clear hd HG hc10 hdec hsz hex hl hsep
              by_cases hwd : wd = []
              · subst hwd
                rw [push_nil] at HM
                have hemp : (str []).toList.isEmpty = true := str_none
                clear hown hout
                go_wp2
                go_roundw
                case rel => exact ⟨k + 1, no, L, cs, ws, [], false, w1, by omega, by omega, (by first | omega | (simp; done) | (simp; omega)), (by first | omega | (simp; done) | (simp; omega)), (by first | omega | (simp; done) | (simp; omega)), by go_num, by go_num, rfl, rfl, HI, ⟨fun _ => HM.out, fun h => absurd h (by omega)⟩⟩
                case measure => first | (simp [intOf]; done) | (simp [intOf]; omega)
              · rw [push_one hwd] at HM
                have hemp := str_empty hwd
                go_wp2_with (first
                  | (at_builtin; refine wpList_append_own _ rfl _ _ 32 rfl w1.heap.size 9 iS (.string ⟨#[]⟩) 1 16 Tryd.underlying32 hiS hzS hzS1 hzS2 rfl (by decide) _ ws.length (VS ws) rfl (hown.alloc _) ⟨wr.heap.size, 0, none⟩ 1 1 [.string (str wd)] rfl rfl (cells1_new _ _ _) (by intro u hu; simp at hu; subst hu; rfl) (by unfold maxLen; omega) (by omega) (by simp; omega) ?_; intro v4 w4 hown4 hgrow4 _
                     have HI4 := Lib.hid (HI.out.word hown4 hgrow4)
                     have hout4 : w4.ownsRow W.heap.size 35 2 _ L.length cs := own_nextk HI4.out.out HI4.out.up
                     have hs4 : W.heap.size ≤ w4.heap.size := (HI4.out.base.trans (HI4.out.up.mono HI4.out.base.size)).size
                     obtain ⟨A4, c4, rfl, _⟩ := own_slice hown4
                     clear hown4 hgrow4))
                go_roundw
                case rel => exact ⟨k + 1, no, L, cs, ws ++ [wd], [], false, w1, by omega, by omega, (by first | omega | (simp; done) | (simp; omega)), (by first | omega | (simp; done) | (simp; omega)), (by first | omega | (simp; done) | (simp; omega)), by go_num, by go_num, rfl, rfl, HI4, ⟨fun _ => HM.out, fun h => absurd h (by omega)⟩⟩
                case measure => first | (simp [intOf]; done) | (simp [intOf]; omega)
            | true =>
              rw [mach_cut hc10 (by first | rfl | (rw [hdec]; rfl) | (rw [hsep]; simp))] at hd
              simp only [Bool.true_or] at hd
              have HM := Lib.hid hd
              have fe10 : (((c.toNat : Nat) : Int) == 10) = false := by rw [hv]; rfl
              have fn10 : (((c.toNat : Nat) : Int) != 10) = true := by rw [hv]; rfl
              have fe35 : (((c.toNat : Nat) : Int) == 35) = false := by rw [hv]; rfl
              have fn35 : (((c.toNat : Nat) : Int) != 35) = true := by rw [hv]; rfl
              have fe32 : (((c.toNat : Nat) : Int) == 32) = false := by rw [hv]; rfl
              have fn32 : (((c.toNat : Nat) : Int) != 32) = true := by rw [hv]; rfl
              have fe9 : (((c.toNat : Nat) : Int) == 9) = false := by rw [hv]; rfl
              have fn9 : (((c.toNat : Nat) : Int) != 9) = true := by rw [hv]; rfl
              have fe13 : (((c.toNat : Nat) : Int) == 13) = true := by rw [hv]; rfl
              have fn13 : (((c.toNat : Nat) : Int) != 13) = false := by rw [hv]; rfl
              clear hv
              clear hd HG hc10 hdec hsz hex hl hsep
              by_cases hwd : wd = []
              · subst hwd
                rw [push_nil] at HM
                have hemp : (str []).toList.isEmpty = true := str_none
                clear hown hout
                go_wp2
                go_roundw
                case rel => exact ⟨k + 1, no, L, cs, ws, [], true, w1, by omega, by omega, (by first | omega | (simp; done) | (simp; omega)), (by first | omega | (simp; done) | (simp; omega)), (by first | omega | (simp; done) | (simp; omega)), by go_num, by go_num, rfl, rfl, HI, ⟨fun _ => HM.out, fun h => absurd h (by omega)⟩⟩
                case measure => first | (simp [intOf]; done) | (simp [intOf]; omega)
              · rw [push_one hwd] at HM
                have hemp := str_empty hwd
                go_wp2_with (first
                  | (at_builtin; refine wpList_append_own _ rfl _ _ 32 rfl w1.heap.size 9 iS (.string ⟨#[]⟩) 1 16 Tryd.underlying32 hiS hzS hzS1 hzS2 rfl (by decide) _ ws.length (VS ws) rfl (hown.alloc _) ⟨wr.heap.size, 0, none⟩ 1 1 [.string (str wd)] rfl rfl (cells1_new _ _ _) (by intro u hu; simp at hu; subst hu; rfl) (by unfold maxLen; omega) (by omega) (by simp; omega) ?_; intro v4 w4 hown4 hgrow4 _
                     have HI4 := Lib.hid (HI.out.word hown4 hgrow4)
                     have hout4 : w4.ownsRow W.heap.size 35 2 _ L.length cs := own_nextk HI4.out.out HI4.out.up
                     have hs4 : W.heap.size ≤ w4.heap.size := (HI4.out.base.trans (HI4.out.up.mono HI4.out.base.size)).size
                     obtain ⟨A4, c4, rfl, _⟩ := own_slice hown4
                     clear hown4 hgrow4))
                go_roundw
                case rel => exact ⟨k + 1, no, L, cs, ws ++ [wd], [], true, w1, by omega, by omega, (by first | omega | (simp; done) | (simp; omega)), (by first | omega | (simp; done) | (simp; omega)), (by first | omega | (simp; done) | (simp; omega)), by go_num, by go_num, rfl, rfl, HI4, ⟨fun _ => HM.out, fun h => absurd h (by omega)⟩⟩
                case measure => first | (simp [intOf]; done) | (simp [intOf]; omega)
        · cases note with
          | true =>
            rw [mach_cut hc10 (by first | rfl | (rw [hdec]; rfl) | (rw [hsep]; simp))] at hd
            simp only [Bool.true_or] at hd
            have HM := Lib.hid hd
            have fe10 : (((c.toNat : Nat) : Int) == 10) = false := by simp; omega
            have fn10 : (((c.toNat : Nat) : Int) != 10) = true := by simp; omega
            have fe35 : (((c.toNat : Nat) : Int) == 35) = false := by simp; omega
            have fn35 : (((c.toNat : Nat) : Int) != 35) = true := by simp; omega
            have fe32 : (((c.toNat : Nat) : Int) == 32) = false := by simp; omega
            have fn32 : (((c.toNat : Nat) : Int) != 32) = true := by simp; omega
            have fe9 : (((c.toNat : Nat) : Int) == 9) = false := by simp; omega
            have fn9 : (((c.toNat : Nat) : Int) != 9) = true := by simp; omega
            have fe13 : (((c.toNat : Nat) : Int) == 13) = false := by simp; omega
            have fn13 : (((c.toNat : Nat) : Int) != 13) = true := by simp; omega
            clear g1 g2 g3 g4 g5
            clear hd HG hc10 hdec hsz hex hl hsep
            by_cases hwd : wd = []
            · subst hwd
              rw [push_nil] at HM
              have hemp : (str []).toList.isEmpty = true := str_none
              clear hown hout
              go_wp2
              go_roundw
              case rel => exact ⟨k + 1, no, L, cs, ws, [], true, w1, by omega, by omega, (by first | omega | (simp; done) | (simp; omega)), (by first | omega | (simp; done) | (simp; omega)), (by first | omega | (simp; done) | (simp; omega)), by go_num, by go_num, rfl, rfl, HI, ⟨fun _ => HM.out, fun h => absurd h (by omega)⟩⟩
              case measure => first | (simp [intOf]; done) | (simp [intOf]; omega)
            · rw [push_one hwd] at HM
              have hemp := str_empty hwd
              go_wp2_with (first
                | (at_builtin; refine wpList_append_own _ rfl _ _ 32 rfl w1.heap.size 9 iS (.string ⟨#[]⟩) 1 16 Tryd.underlying32 hiS hzS hzS1 hzS2 rfl (by decide) _ ws.length (VS ws) rfl (hown.alloc _) ⟨wr.heap.size, 0, none⟩ 1 1 [.string (str wd)] rfl rfl (cells1_new _ _ _) (by intro u hu; simp at hu; subst hu; rfl) (by unfold maxLen; omega) (by omega) (by simp; omega) ?_; intro v4 w4 hown4 hgrow4 _
                   have HI4 := Lib.hid (HI.out.word hown4 hgrow4)
                   have hout4 : w4.ownsRow W.heap.size 35 2 _ L.length cs := own_nextk HI4.out.out HI4.out.up
                   have hs4 : W.heap.size ≤ w4.heap.size := (HI4.out.base.trans (HI4.out.up.mono HI4.out.base.size)).size
                   obtain ⟨A4, c4, rfl, _⟩ := own_slice hown4
                   clear hown4 hgrow4))
              go_roundw
              case rel => exact ⟨k + 1, no, L, cs, ws ++ [wd], [], true, w1, by omega, by omega, (by first | omega | (simp; done) | (simp; omega)), (by first | omega | (simp; done) | (simp; omega)), (by first | omega | (simp; done) | (simp; omega)), by go_num, by go_num, rfl, rfl, HI4, ⟨fun _ => HM.out, fun h => absurd h (by omega)⟩⟩
              case measure => first | (simp [intOf]; done) | (simp [intOf]; omega)
          | false =>
            rw [mach_reg hc10 (by rw [hdec, hsep]; rfl)] at hd
            have HM := Lib.hid hd
            have fe10 : (((c.toNat : Nat) : Int) == 10) = false := by simp; omega
            have fn10 : (((c.toNat : Nat) : Int) != 10) = true := by simp; omega
            have fe35 : (((c.toNat : Nat) : Int) == 35) = false := by simp; omega
            have fn35 : (((c.toNat : Nat) : Int) != 35) = true := by simp; omega
            have fe32 : (((c.toNat : Nat) : Int) == 32) = false := by simp; omega
            have fn32 : (((c.toNat : Nat) : Int) != 32) = true := by simp; omega
            have fe9 : (((c.toNat : Nat) : Int) == 9) = false := by simp; omega
            have fn9 : (((c.toNat : Nat) : Int) != 9) = true := by simp; omega
            have fe13 : (((c.toNat : Nat) : Int) == 13) = false := by simp; omega
            have fn13 : (((c.toNat : Nat) : Int) != 13) = true := by simp; omega
            clear g1 g2 g3 g4 g5
            have HS := Lib.hid (congrArg Value.string HG.out)
            clear hd HG hc10 hdec hsep hl hown hout
            go_wp2
            go_roundw
            case rel => exact ⟨k + 1, no, L, cs, ws, wd ++ [c], false, w1, by omega, by omega, (by first | omega | (simp; done) | (simp; omega)), (by first | omega | (simp; done) | (simp; omega)), (by first | omega | (simp; done) | (simp; omega)), by go_num, by go_num, HS.out, rfl, HI, ⟨fun _ => HM.out, fun h => absurd h (by omega)⟩⟩
            case measure => first | (simp [intOf]; done) | (simp [intOf]; omega)
      · obtain rfl : k = s.size := by omega
        have hnk : ¬ (s.size : Int) < s.size := by omega
        have hd := HR.out.1 (Nat.le_refl _)
        rw [List.drop_eq_nil_of_le (by rw [HLn.out]; exact Nat.le_refl _), mach] at hd
        have HM := Lib.hid hd
        clear hd HR
        cases note with
        | false =>
          by_cases hwd : wd = []
          · subst hwd
            rw [push_nil] at HM
            have hemp : (str []).toList.isEmpty = true := str_none
            by_cases hws : ws = []
            · subst hws
              rw [fin_nil] at HM
              obtain ⟨A3, c3, rfl, _⟩ := own_slice hown
              simp only [List.length_nil]
              clear hown hout
              go_wp2
              go_roundw
              case rel => exact ⟨s.size + 1, no + 1, L, cs, [], [], false, w1, by omega, by omega, (by first | omega | (simp; done) | (simp; omega)), (by first | omega | (simp; done) | (simp; omega)), (by first | omega | (simp; done) | (simp; omega)), by go_num, by go_num, rfl, rfl, Lib.hid HI.out.skip, ⟨fun h => absurd h (by omega), fun _ => by simpa using HM.out⟩⟩
              case measure => first | (simp [intOf]; done) | (simp [intOf]; omega)
            · rw [fin_one hws] at HM
              have hpos : 0 < ws.length := List.length_pos_iff.2 hws
              obtain ⟨A3, c3, rfl, _⟩ := own_slice hown
              clear hown hws
              go_wp2_with (first
                | (at_builtin; refine wpList_append_own _ rfl _ _ 28 rfl W.heap.size 35 iL (.agg #[.int .i64 0, .slice none 0 0]) 2 32 Tryd.underlying28 hiL hzL hzL1 hzL2 rfl (by decide) _ L.length cs rfl (hout.alloc _) ⟨wr.heap.size, 0, none⟩ 1 1 [.int .i64 (no : Int), .slice A3 ws.length c3] rfl rfl (cells2_new _ _ _ _) (by intro u hu; simp at hu; rcases hu with rfl | rfl <;> rfl) (by unfold maxLen; omega) (by omega) (by simp; omega) ?_; intro v6 w6 hown6 hgrow6 _
                   have HI6 := Lib.hid (HI.out.line (no := no) (by decide) hown6 hgrow6)
                   clear hown6 hgrow6))
              go_roundw
              case rel => exact ⟨s.size + 1, no + 1, L ++ [(no, ws)], cs ++ [.int .i64 (no : Int), .slice A3 ws.length c3], [], [], false, w6, by omega, by omega, (by first | omega | (simp; done) | (simp; omega)), (by first | omega | (simp; done) | (simp; omega)), (by first | omega | (simp; done) | (simp; omega)), by go_num, by go_num, rfl, rfl, HI6, ⟨fun h => absurd h (by omega), fun _ => by simpa using HM.out⟩⟩
              case measure => first | (simp [intOf]; done) | (simp [intOf]; omega)
          · rw [push_one hwd, fin_one (by simp)] at HM
            have hemp := str_empty hwd
            go_wp2_with (first
              | (at_builtin; refine wpList_append_own _ rfl _ _ 32 rfl w1.heap.size 9 iS (.string ⟨#[]⟩) 1 16 Tryd.underlying32 hiS hzS hzS1 hzS2 rfl (by decide) _ ws.length (VS ws) rfl (hown.alloc _) ⟨wr.heap.size, 0, none⟩ 1 1 [.string (str wd)] rfl rfl (cells1_new _ _ _) (by intro u hu; simp at hu; subst hu; rfl) (by unfold maxLen; omega) (by omega) (by simp; omega) ?_; intro v4 w4 hown4 hgrow4 _
                 have HI4 := Lib.hid (HI.out.word hown4 hgrow4)
                 have hout4 : w4.ownsRow W.heap.size 35 2 _ L.length cs := own_nextk HI4.out.out HI4.out.up
                 have hs4 : W.heap.size ≤ w4.heap.size := (HI4.out.base.trans (HI4.out.up.mono HI4.out.base.size)).size
                 obtain ⟨A4, c4, rfl, _⟩ := own_slice hown4
                 clear hown4 hgrow4)
              | (at_builtin; refine wpList_append_own _ rfl _ _ 28 rfl W.heap.size 35 iL (.agg #[.int .i64 0, .slice none 0 0]) 2 32 Tryd.underlying28 hiL hzL hzL1 hzL2 rfl (by decide) _ L.length cs rfl (hout4.alloc _) ⟨w4.heap.size, 0, none⟩ 1 1 [.int .i64 (no : Int), .slice A4 (ws.length + 1) c4] rfl rfl (cells2_new _ _ _ _) (by intro u hu; simp at hu; rcases hu with rfl | rfl <;> rfl) (by unfold maxLen; omega) (by omega) (by simp; omega) ?_; intro v6 w6 hown6 hgrow6 _
                 have HI6 := Lib.hid (HI4.out.line (no := no) (by decide) hown6 hgrow6)
                 clear hown6 hgrow6))
            go_roundw
            case rel => exact ⟨s.size + 1, no + 1, L ++ [(no, ws ++ [wd])], cs ++ [.int .i64 (no : Int), .slice A4 (ws.length + 1) c4], [], [], false, w6, by omega, by omega, (by first | omega | (simp; done) | (simp; omega)), (by first | omega | (simp; done) | (simp; omega)), (by first | omega | (simp; done) | (simp; omega)), by go_num, by go_num, rfl, rfl, HI6, ⟨fun h => absurd h (by omega), fun _ => by simpa using HM.out⟩⟩
            case measure => first | (simp [intOf]; done) | (simp [intOf]; omega)
        | true =>
          by_cases hwd : wd = []
          · subst hwd
            rw [push_nil] at HM
            have hemp : (str []).toList.isEmpty = true := str_none
            by_cases hws : ws = []
            · subst hws
              rw [fin_nil] at HM
              obtain ⟨A3, c3, rfl, _⟩ := own_slice hown
              simp only [List.length_nil]
              clear hown hout
              go_wp2
              go_roundw
              case rel => exact ⟨s.size + 1, no + 1, L, cs, [], [], false, w1, by omega, by omega, (by first | omega | (simp; done) | (simp; omega)), (by first | omega | (simp; done) | (simp; omega)), (by first | omega | (simp; done) | (simp; omega)), by go_num, by go_num, rfl, rfl, Lib.hid HI.out.skip, ⟨fun h => absurd h (by omega), fun _ => by simpa using HM.out⟩⟩
              case measure => first | (simp [intOf]; done) | (simp [intOf]; omega)
            · rw [fin_one hws] at HM
              have hpos : 0 < ws.length := List.length_pos_iff.2 hws
              obtain ⟨A3, c3, rfl, _⟩ := own_slice hown
              clear hown hws
              go_wp2_with (first
                | (at_builtin; refine wpList_append_own _ rfl _ _ 28 rfl W.heap.size 35 iL (.agg #[.int .i64 0, .slice none 0 0]) 2 32 Tryd.underlying28 hiL hzL hzL1 hzL2 rfl (by decide) _ L.length cs rfl (hout.alloc _) ⟨wr.heap.size, 0, none⟩ 1 1 [.int .i64 (no : Int), .slice A3 ws.length c3] rfl rfl (cells2_new _ _ _ _) (by intro u hu; simp at hu; rcases hu with rfl | rfl <;> rfl) (by unfold maxLen; omega) (by omega) (by simp; omega) ?_; intro v6 w6 hown6 hgrow6 _
                   have HI6 := Lib.hid (HI.out.line (no := no) (by decide) hown6 hgrow6)
                   clear hown6 hgrow6))
              go_roundw
              case rel => exact ⟨s.size + 1, no + 1, L ++ [(no, ws)], cs ++ [.int .i64 (no : Int), .slice A3 ws.length c3], [], [], false, w6, by omega, by omega, (by first | omega | (simp; done) | (simp; omega)), (by first | omega | (simp; done) | (simp; omega)), (by first | omega | (simp; done) | (simp; omega)), by go_num, by go_num, rfl, rfl, HI6, ⟨fun h => absurd h (by omega), fun _ => by simpa using HM.out⟩⟩
              case measure => first | (simp [intOf]; done) | (simp [intOf]; omega)
          · rw [push_one hwd, fin_one (by simp)] at HM
            have hemp := str_empty hwd
            go_wp2_with (first
              | (at_builtin; refine wpList_append_own _ rfl _ _ 32 rfl w1.heap.size 9 iS (.string ⟨#[]⟩) 1 16 Tryd.underlying32 hiS hzS hzS1 hzS2 rfl (by decide) _ ws.length (VS ws) rfl (hown.alloc _) ⟨wr.heap.size, 0, none⟩ 1 1 [.string (str wd)] rfl rfl (cells1_new _ _ _) (by intro u hu; simp at hu; subst hu; rfl) (by unfold maxLen; omega) (by omega) (by simp; omega) ?_; intro v4 w4 hown4 hgrow4 _
                 have HI4 := Lib.hid (HI.out.word hown4 hgrow4)
                 have hout4 : w4.ownsRow W.heap.size 35 2 _ L.length cs := own_nextk HI4.out.out HI4.out.up
                 have hs4 : W.heap.size ≤ w4.heap.size := (HI4.out.base.trans (HI4.out.up.mono HI4.out.base.size)).size
                 obtain ⟨A4, c4, rfl, _⟩ := own_slice hown4
                 clear hown4 hgrow4)
              | (at_builtin; refine wpList_append_own _ rfl _ _ 28 rfl W.heap.size 35 iL (.agg #[.int .i64 0, .slice none 0 0]) 2 32 Tryd.underlying28 hiL hzL hzL1 hzL2 rfl (by decide) _ L.length cs rfl (hout4.alloc _) ⟨w4.heap.size, 0, none⟩ 1 1 [.int .i64 (no : Int), .slice A4 (ws.length + 1) c4] rfl rfl (cells2_new _ _ _ _) (by intro u hu; simp at hu; rcases hu with rfl | rfl <;> rfl) (by unfold maxLen; omega) (by omega) (by simp; omega) ?_; intro v6 w6 hown6 hgrow6 _
                 have HI6 := Lib.hid (HI4.out.line (no := no) (by decide) hown6 hgrow6)
                 clear hown6 hgrow6))
            go_roundw
            case rel => exact ⟨s.size + 1, no + 1, L ++ [(no, ws ++ [wd])], cs ++ [.int .i64 (no : Int), .slice A4 (ws.length + 1) c4], [], [], false, w6, by omega, by omega, (by first | omega | (simp; done) | (simp; omega)), (by first | omega | (simp; done) | (simp; omega)), (by first | omega | (simp; done) | (simp; omega)), by go_num, by go_num, rfl, rfl, HI6, ⟨fun h => absurd h (by omega), fun _ => by simpa using HM.out⟩⟩
            case measure => first | (simp [intOf]; done) | (simp [intOf]; omega)
end Go.Proofs.YthnchjmbjeooiaaDoor
