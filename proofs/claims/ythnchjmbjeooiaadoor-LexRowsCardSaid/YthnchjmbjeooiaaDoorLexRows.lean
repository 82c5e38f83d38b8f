/- The law on words apart by gaps, walked. Conditions: the library's bound variable holds some number; its table of powers of ten is as its text lays it. -/
import Derived.Test.YthnchjmbjeooiaaDoorRowsT
import Derived.Test.YthnchjmbjeooiaaDoorOpenI
import Derived.Test.YthnchjmbjeooiaaDoorFirst
import Derived.Test.YthnchjmbjeooiaaDoorNumb
import Derived.Test.YthnchjmbjeooiaaDoorIsC
namespace Go.Proofs.YthnchjmbjeooiaaDoor
open Go.RowKit Go.Lib Lx
theorem info_strs : (Tryd.prog.info? 9).map (fun i => (i.zero, i.size, i.bytes)) = some (some (.string ⟨#[]⟩), 1, 16) := by kernel_rfl
theorem cells1 (w : World) (x : Value) (t : TypeId) : ∀ j u, [x][j]? = some u → (w.alloc (.cells #[x] t)).cell? ((⟨w.heap.size, 0, none⟩ : Addr).add j) = some u := by
  intro j u hj
  match j, hj with
  | 0, hj => simp at hj; subst hj; simp [Addr.add]
  | (j + 1), hj => simp at hj
theorem keepcr {w w' : World} {p : Addr} {v : Value} (h : w.cell? p = some v) (hb : Below w.heap.size w w') : w'.cell? p = some v := (hb.cell (World.block_lt_of_cell? w _ h)).trans h
theorem num_str (n : Int) (h0 : -9223372036854775808 ≤ n) (h1 : n ≤ 9223372036854775807) (w : World) (hT : EnvT w) :
    Calls Tryd.prog 18 #[.int .i64 n] w fun e w' => e = .returned (.string (str (Lib.itoa n))) ∧ Below w.heap.size w w' := by
  have H := Lib.hid (itoa_any n h0 h1 w hT)
  go_enter Tryd.func18, Tryd.ntmps18
  go_wp2_with (go_at_call 25; refine H.out.mono ?_; rintro e w1 ⟨rfl, hb⟩)
  go_ret
  exact ⟨rfl, hb⟩
theorem gap_cell (w : World) (t : TypeId) (q : Nat) (hq : q < 4) :
    (w.alloc (.cells #[.string ⟨#[32]⟩, .string ⟨#[9]⟩, .string ⟨#[32, 32, 9, 32]⟩, .string ⟨#[32, 13]⟩] t)).cell? ⟨w.heap.size, q, none⟩ = some (.string (str (gapOf q))) := by
  rw [(Blk.new w _ _).cell q]
  match q, hq with
  | 0, _ => rfl
  | 1, _ => rfl
  | 2, _ => rfl
  | 3, _ => rfl
theorem tail_cell (w : World) (t : TypeId) (g : List UInt8) (q : Nat) (hq : q < 4) :
    (w.alloc (.cells #[.string ⟨#[]⟩, .string ⟨#[32, 35, 32, 110, 111, 116, 101, 32, 35, 32, 109, 111, 114, 101]⟩, .string ⟨#[35, 120]⟩, .string (str g)] t)).cell? ⟨w.heap.size, q, none⟩ = some (.string (str (tailOf g q))) := by
  rw [(Blk.new w _ _).cell q]
  match q, hq with
  | 0, _ => rfl
  | 1, _ => rfl
  | 2, _ => rfl
  | 3, _ => rfl
theorem str_app (a b : List UInt8) : str a ++ str b = str (a ++ b) := by
  rw [← str_list (str a ++ str b), Joins.data_append, str_data, str_data]
/-- what a line is made of: how many words, which note -/
def pOf (x : Int) : Nat × Nat := ((x % 6).toNat, (x.tdiv 6 % 4).toNat)
theorem pOf_lt (x : Int) : (pOf x).1 < 6 ∧ (pOf x).2 < 4 := by
  unfold pOf
  have h1 : x % 6 < 6 := Int.emod_lt_of_pos _ (by omega)
  have h2 : x.tdiv 6 % 4 < 4 := Int.emod_lt_of_pos _ (by omega)
  constructor
  · show (x % 6).toNat < 6; omega
  · show (x.tdiv 6 % 4).toNat < 4; omega
theorem pOf_one (x : Int) : x % 6 = ((pOf x).1 : Int) := by
  have h1 : 0 ≤ x % 6 := Int.emod_nonneg _ (by omega)
  show x % 6 = ((x % 6).toNat : Int); omega
theorem pOf_two (x : Int) : x.tdiv 6 % 4 = ((pOf x).2 : Int) := by
  have h1 : 0 ≤ x.tdiv 6 % 4 := Int.emod_nonneg _ (by omega)
  show x.tdiv 6 % 4 = ((x.tdiv 6 % 4).toNat : Int); omega
theorem tdiv_in (x : Int) (h : -9223372036854775808 ≤ x ∧ x ≤ 9223372036854775807) : -9223372036854775808 ≤ x.tdiv 6 ∧ x.tdiv 6 ≤ 9223372036854775807 := by
  have e := Int.tdiv_eq_ediv (a := x) (b := 6)
  rw [show Int.sign 6 = 1 from rfl] at e
  split at e <;> omega
theorem SR.news {w : World} {b o n : Nat} {ws : List (List UInt8)} (h : SR w (some ⟨b, o, none⟩) n ws) : ∀ j u, (VS ws)[j]? = some u → w.cell? ((⟨b, o, none⟩ : Addr).add j) = some u := by
  intro j u hj
  have hjl : j < ws.length := by
    have := (List.getElem?_eq_some_iff.1 hj).1
    rw [VS_len] at this
    exact this
  obtain ⟨b', o', e, _, hc⟩ := h.at_ (k := j) (by rw [← h.len]; exact hjl)
  injection e with e
  injection e with e1 e2
  subst e1 e2
  rw [WideShapes.add_plain, hc, ← hj, VS_at hjl]
theorem own_drewN {w : World} {B k n : Nat} {e : TypeId} {v : Value} {ys : List Value} (h : w.ownsRow B e k v n ys) (q : Nat) : (w.drewN q).ownsRow B e k v n ys := h
theorem map_getD (xs : List Int) (i : Nat) (h : i < xs.length) : (xs.map pOf).getD i (0, 0) = pOf (xs.getD i 0) := by
  simp [List.getD, List.getElem?_eq_getElem h]
set_option maxRecDepth 100000 in
set_option maxHeartbeats 8000000 in
theorem law_rows (m : Int) (A : Option Addr) (n c : Nat) (xs : List Int) (a1 : Int) (W : World) (hM : EnvM m W) (hT : EnvT W) (hI : IR W A n xs) :
    Calls Tryd.prog 4 #[.slice A n c, .int .i64 a1] W fun e w' => e = .returned (.bool true) ∧ Below W.heap.size W w' := by
  obtain ⟨iS, hiS, hzS, hzS1, hzS2⟩ := info_parts info_strs
  have HF := Lib.hid (first_any m W hM)
  by_cases hbig : 10 < n
  · clear hM hT hI
    go_enter Tryd.func4, Tryd.ntmps4
    go_wp2_with (go_at_call 8; refine HF.out.mono ?_; rintro e w1 ⟨rfl, hb⟩; have HB := Lib.hid hb; clear hb)
    go_ret
    exact ⟨rfl, HB.out⟩
  · have hn : n ≤ 10 := by omega
    clear hbig
    have hq0 : 0 ≤ a1 % 4 := Int.emod_nonneg _ (by omega)
    have hq1 : a1 % 4 < 4 := Int.emod_lt_of_pos _ (by omega)
    obtain ⟨q, hq⟩ : ∃ q : Nat, a1 % 4 = q := ⟨(a1 % 4).toNat, by omega⟩
    have HQ := Lib.hid (fun X => number_any a1 4 X (by omega) (by omega))
    rw [hq] at HQ hq1
    have hq4 : q < 4 := by omega
    clear hq hq0 hq1
    have HG4 := Lib.hid (gap_len q)
    have HGC := Lib.hid (fun X t => gap_cell X t q hq4)
    have HTC := Lib.hid (fun X t r (hr : r < 4) => tail_cell X t (gapOf q) r hr)
    have HLT := Lib.hid (lines_txt q (xs.map pOf))
    generalize hg : gapOf q = g at *
    clear hg
    have HNm := Lib.hid (fun (i : Nat) (hi : i < 10) X (hb : Below W.heap.size W X) => num_str (i : Int) (by omega) (by omega) X (hT.below hb))
    have HM := Lib.hid hM
    have HI := Lib.hid hI
    have hlen : Hid (xs.length = n) := hI.1
    clear hM hT hI
    go_enter Tryd.func4, Tryd.ntmps4
    go_wp2_with (first
      | (go_at_call 8; refine HF.out.mono ?_; rintro e w1 ⟨rfl, hb⟩; have HB := Lib.hid hb; clear hb)
      | (go_at_call 17; refine (HQ.out _).mono ?_; rintro e w2 ⟨rfl, hw⟩
         have hcell : w2.cell? ⟨w1.heap.size, q, none⟩ = some (.string (str g)) := by rw [← hw]; exact HGC.out _ _
         have HB := Lib.hid (show Below W.heap.size W w2 by rw [← hw]; exact HB.out.alloc HB.out.size _)
         clear hw))
    clear HF HQ HGC
    go_loopw [6, 7, 9] (fun vs vw vi wr => ∃ i : Nat, i ≤ n ∧ vi = .int .i64 i ∧ vs = .string (str (txt g 0 ((xs.map pOf).take i))) ∧
      wr.ownsRow W.heap.size 9 1 vw (wnt 0 ((xs.map pOf).take i)).length (VS (wnt 0 ((xs.map pOf).take i))) ∧ Below W.heap.size W wr) (fun _ _ vi _ => n - (intOf vi).toNat)
    case atStart => exact ⟨0, Nat.zero_le _, rfl, by simp [txt, str], by simpa [wnt, VS] using World.ownsRow_nil _ _ _ _, HB.out⟩
    case round =>
      obtain ⟨i, hi, rfl, rfl, hown, hbw⟩ := hrel
      have HO := Lib.hid hown
      have HB := Lib.hid hbw
      clear hown hbw hcell
      rcases Nat.lt_or_ge i n with hlt | hge
      · obtain ⟨b, o, rfl, hbl, hc⟩ := (HI.out.next HB.out).at_ hlt
        have hp := pOf_lt (xs.getD i 0)
        have HN6 := Lib.hid (fun X => number_any (xs.getD i 0) 6 X (by omega) (by omega))
        have HN4 := Lib.hid (fun X => number_any ((xs.getD i 0).tdiv 6) 4 X (by omega) (by omega))
        have hx := HI.out.2.1.at_ i
        have hy := tdiv_in _ hx
        have HTk := Lib.hid (take_succ_getDL (xs.map pOf) i (0, 0) (by rw [List.length_map, hlen.out]; exact hlt))
        rw [map_getD xs i (by rw [hlen.out]; exact hlt)] at HTk
        have e1 := pOf_one (xs.getD i 0)
        have e2 := pOf_two (xs.getD i 0)
        rw [e1] at HN6
        rw [e2] at HN4
        clear e1 e2
        have HCx : Hid (∀ X, Below W.heap.size W X → X.cell? ⟨b, o + i, none⟩ = some (.int .i64 (xs.getD i 0))) := by
          intro X hX
          obtain ⟨b', o', e', _, hc'⟩ := (HI.out.next hX).at_ hlt
          injection e' with e'
          injection e' with e1 e2
          subst e1 e2
          exact hc'
        generalize pOf (xs.getD i 0) = p at *
        generalize xs.getD i 0 = x at *
        obtain ⟨p1, p2⟩ := p
        simp only at HN6 HN4 hp
        obtain ⟨hp1, hp2⟩ := hp
        have HSn : Hid (txt g 0 ((xs.map pOf).take (i + 1)) = txt g 0 ((xs.map pOf).take i) ++ (rowT g i (p1, p2) ++ [10])) := by
          show _ = _
          rw [HTk.out, txt_snoc, List.length_take, List.length_map, hlen.out, Nat.min_eq_left hi, Nat.zero_add]
        have HWn : Hid (wnt 0 ((xs.map pOf).take (i + 1)) = wnt 0 ((xs.map pOf).take i) ++ wds i p1) := by
          show _ = _
          rw [HTk.out, wnt_snoc, List.length_take, List.length_map, hlen.out, Nat.min_eq_left hi, Nat.zero_add]
        have hps : ∀ x ∈ (xs.map pOf).take i, x.1 < 6 := by
          intro x hx
          obtain ⟨y, _, rfl⟩ := List.mem_map.1 (List.mem_of_mem_take hx)
          exact (pOf_lt y).1
        have htl : (txt g 0 ((xs.map pOf).take i)).length ≤ 600 := by
          have := txt_len HG4.out ((xs.map pOf).take i) 0 (by rw [List.length_take]; omega) hps
          rw [List.length_take] at this
          omega
        have hwl : (wnt 0 ((xs.map pOf).take i)).length ≤ 50 := by
          have := wnt_len ((xs.map pOf).take i) 0 hps
          rw [List.length_take] at this
          omega
        clear hps HTk
        generalize txt g 0 ((xs.map pOf).take i) = S at *
        generalize wnt 0 ((xs.map pOf).take i) = V at *
        go_wp2_with (go_at_call 17; refine (HN6.out _).mono ?_; rintro e w3 ⟨rfl, rfl⟩)
        have HI1 : Hid (∀ X, EnvT X → True) := fun _ _ => trivial
        clear HI1 hc hbl
        have HgB : Hid (∀ k, k < p1 → (body g (wds i k)).length ≤ 35) := by
          intro k hk
          have := body_len HG4.out (i := i) (by omega) k (by omega)
          omega
        go_loopw [6, 7, 11] (fun vs vw vk wx => ∃ k : Nat, k ≤ p1 ∧ vk = .int .i64 k ∧ vs = .string (str (S ++ body g (wds i k))) ∧
          wx.ownsRow W.heap.size 9 1 vw (V ++ wds i k).length (VS (V ++ wds i k)) ∧ Below W.heap.size W wx) (fun _ _ vk _ => p1 - (intOf vk).toNat)
        case atStart => exact ⟨0, Nat.zero_le _, rfl, by simp [wds, body], by simpa [wds] using HO.out, HB.out⟩
        case round =>
          obtain ⟨k, hk, rfl, rfl, hown, hbw⟩ := hrel
          clear HO HB
          have HO := Lib.hid hown
          have HB := Lib.hid hbw
          clear hown hbw
          rcases Nat.lt_or_ge k p1 with hkl | hkg
          · have hgb := HgB.out k hkl
            have hVl : (V ++ wds i k).length ≤ 60 := by rw [List.length_append, wds_len]; omega
            have HNi := Lib.hid (fun X hb => HNm.out i (by omega) X hb)
            have HNk := Lib.hid (fun X hb => HNm.out k (by omega) X hb)
            have hni : (str (Lib.itoa (i : Int))).size = 1 := by rw [str_size, itoa_one (by omega)]
            have hnk : (str (Lib.itoa (k : Int))).size = 1 := by rw [str_size, itoa_one (by omega)]
            have hss : (str (S ++ body g (wds i k))).size ≤ 700 := by rw [str_size, List.length_append]; omega
            have hgs : (str g).size ≤ 4 := by rw [str_size]; exact HG4.out
            have HW : Hid ((⟨#[119]⟩ ++ str (Lib.itoa (i : Int)) : ByteArray) ++ str (Lib.itoa (k : Int)) = str (wd i k)) := by
              show _ = _
              rw [show (⟨#[119]⟩ : ByteArray) = str [119] from rfl, str_app, str_app]
              rfl
            have HSt : Hid ((((str (S ++ body g (wds i k)) ++ str g) ++ ⟨#[119]⟩) ++ str (Lib.itoa (i : Int))) ++ str (Lib.itoa (k : Int)) = str (S ++ body g (wds i (k + 1)))) := by
              show _ = _
              rw [show (⟨#[119]⟩ : ByteArray) = str [119] from rfl, str_app, str_app, str_app, str_app, wds_succ, body_snoc, wd]
              simp
            have HVn : Hid (V ++ wds i (k + 1) = (V ++ wds i k) ++ [wd i k]) := by
              show _ = _
              rw [wds_succ, List.append_assoc]
            generalize V ++ wds i k = V' at *
            generalize str (S ++ body g (wds i k)) = s0 at *
            generalize str (Lib.itoa (i : Int)) = N1 at *
            generalize str (Lib.itoa (k : Int)) = N2 at *
            generalize hsg : str g = G at *
            go_wp2_with fail
            refine (HNi.out _ HB.out).mono ?_
            rintro e w3 ⟨rfl, hb⟩
            have HO := Lib.hid (own_next HO.out hb)
            have HB := Lib.hid (HB.out.trans (hb.mono HB.out.size))
            clear hb
            go_wp2_with fail
            refine (HNk.out _ HB.out).mono ?_
            rintro e w3 ⟨rfl, hb⟩
            have HO := Lib.hid (own_next HO.out hb)
            have HB := Lib.hid (HB.out.trans (hb.mono HB.out.size))
            clear hb
            go_wp2_with fail
            refine (HNi.out _ HB.out).mono ?_
            rintro e w3 ⟨rfl, hb⟩
            have HO := Lib.hid (own_next HO.out hb)
            have HB := Lib.hid (HB.out.trans (hb.mono HB.out.size))
            clear hb
            go_wp2_with fail
            refine (HNk.out _ HB.out).mono ?_
            rintro e w3 ⟨rfl, hb⟩
            have HO := Lib.hid (own_next HO.out hb)
            have HB := Lib.hid (HB.out.trans (hb.mono HB.out.size))
            clear hb
            go_wp2_with (at_builtin; refine wpList_append_own _ rfl _ _ 32 rfl W.heap.size 9 iS (.string ⟨#[]⟩) 1 16 Tryd.underlying32 hiS hzS hzS1 hzS2 rfl (by decide) _ V'.length (VS V') rfl (HO.out.alloc _) ⟨w3.heap.size, 0, none⟩ 1 1 [.string ((⟨#[119]⟩ ++ N1) ++ N2)] rfl rfl (cells1 _ _ _) (by intro u hu; simp at hu; subst hu; rfl) (by unfold maxLen; omega) (by omega) (by have := HB.out.size; simp; omega) ?_; intro v4 w4 hown4 hgrow4 _)
            rw [HW.out] at hown4
            have HO4 := Lib.hid hown4
            have HB4 := Lib.hid ((HB.out.alloc HB.out.size _).grown hgrow4 (by have := HB.out.size; simp; omega) (fun g hg => (HO.out.lt g hg).1))
            clear hown4 hgrow4
            go_roundw
            case rel => exact ⟨k + 1, by omega, by go_num, congrArg Value.string HSt.out, by rw [HVn.out, List.length_append, VS_app]; exact HO4.out, HB4.out⟩
            case measure => simp [intOf]; omega
          · obtain rfl : k = p1 := by omega
            have HSt2 : Hid ((str (S ++ body g (wds i k)) ++ str (tailOf g p2)) ++ ⟨#[10]⟩ = str (txt g 0 ((xs.map pOf).take (i + 1)))) := by
              show _ = _
              rw [HSn.out, show (⟨#[10]⟩ : ByteArray) = str [10] from rfl, str_app, str_app, rowT]
              simp
            have hts : (str (tailOf g p2)).size ≤ 14 := by rw [str_size]; exact tail_len HG4.out p2
            have hss : (str (S ++ body g (wds i k))).size ≤ 700 := by
              have := body_len HG4.out (i := i) (by omega) k (by omega)
              rw [str_size, List.length_append]; omega
            have hcA : (wr.alloc (.cells #[.string ⟨#[]⟩, .string ⟨#[32, 35, 32, 110, 111, 116, 101, 32, 35, 32, 109, 111, 114, 101]⟩, .string ⟨#[35, 120]⟩, .string (str g)] 9)).cell? ⟨b, o + i, none⟩ = some (.int .i64 x) := HCx.out _ (HB.out.alloc HB.out.size _)
            generalize str (S ++ body g (wds i k)) = s0 at *
            go_wp2_with (first
              | (go_at_call 17; refine (HN4.out _).mono ?_; rintro e w3 ⟨rfl, hw⟩
                 have hcell : w3.cell? ⟨wr.heap.size, p2, none⟩ = some (.string (str (tailOf g p2))) := by rw [← hw]; exact HTC.out _ _ p2 hp2
                 have HO3 := Lib.hid (show w3.ownsRow W.heap.size 9 1 u7 (V ++ wds i k).length (VS (V ++ wds i k)) by rw [← hw]; exact HO.out.alloc _)
                 have HB3 := Lib.hid (show Below W.heap.size W w3 by rw [← hw]; exact HB.out.alloc HB.out.size _)
                 clear hw))
            go_roundw
            case rel => exact ⟨i + 1, by omega, by go_num, congrArg Value.string HSt2.out, by rw [HWn.out]; exact HO3.out, HB3.out⟩
            case measure => simp [intOf]; omega
      · obtain rfl : i = n := by omega
        have hta : (xs.map pOf).take i = xs.map pOf := List.take_of_length_le (by rw [List.length_map, hlen.out]; exact Nat.le_refl _)
        have hpa : ∀ x ∈ xs.map pOf, x.1 < 6 := by
          intro x hx
          obtain ⟨y, _, rfl⟩ := List.mem_map.1 hx
          exact (pOf_lt y).1
        have hpl : (xs.map pOf).length = i := by rw [List.length_map, hlen.out]
        have HLx := Lib.hid (fun X (hb : Below W.heap.size W X) => lines_any (str (txt g 0 ((xs.map pOf).take i))) m X (by
          have := txt_len HG4.out (xs.map pOf) 0 (by omega) hpa
          rw [hta, str_size]; omega) (HM.out.next hb))
        simp only [str_data] at HLx
        have HO1 := HO.out
        rw [hta] at HO1
        rw [show lines (txt g 0 ((xs.map pOf).take i)) = expl 0 (xs.map pOf) by rw [hta]; exact HLT.out] at HLx
        obtain ⟨Aw, cw, rfl, _, hsw⟩ := own_strs HO1
        have hfl : Hid ((expl 0 (xs.map pOf)).flatMap (·.2) = wnt 0 (xs.map pOf)) := expl_wnt _ _
        have hin : Hid (∀ x ∈ expl 0 (xs.map pOf), 0 < x.1 ∧ x.1 ≤ i ∧ x.2 ≠ []) := by
          intro x hx
          have := expl_in _ _ x hx
          rw [hpl, Nat.zero_add] at this
          exact this
        have hri : Hid ((expl 0 (xs.map pOf)).Pairwise (fun a b => a.1 < b.1)) := expl_rise _ _
        have hRl : (expl 0 (xs.map pOf)).length ≤ 10 := by
          have := expl_len (xs.map pOf) 0
          omega
        have hVl : (wnt 0 (xs.map pOf)).length ≤ 50 := by
          have := wnt_len (xs.map pOf) 0 hpa
          omega
        clear hta hpa hpl HO1 HO hlen HLT HI
        generalize expl 0 (xs.map pOf) = R at *
        generalize wnt 0 (xs.map pOf) = V at *
        generalize str (txt g 0 ((xs.map pOf).take i)) = T at *
        have HSw := Lib.hid hsw
        clear hsw
        go_wp2_with (first
          | (go_at_call 9; refine (HLx.out _ HB.out).mono ?_; rintro e w5 ⟨Ax, cx, rfl, hlr, hb⟩
             have HLR := Lib.hid hlr
             have HSw := Lib.hid (HSw.out.next hb)
             have HB := Lib.hid (HB.out.trans (hb.mono HB.out.size))
             clear hlr hb))
        go_loopw [14, 15] (fun vg vi wr => ∃ j : Nat, j ≤ R.length ∧ vi = .int .i64 j ∧ wr.ownsRow w5.heap.size 9 1 vg ((R.take j).flatMap (·.2)).length (VS ((R.take j).flatMap (·.2))) ∧ Below w5.heap.size w5 wr) (fun _ vi _ => R.length - (intOf vi).toNat)
        case atStart => exact ⟨0, Nat.zero_le _, rfl, by simpa [VS] using World.ownsRow_nil _ _ _ _, Below.refl _ _⟩
        case round =>
          obtain ⟨j, hj, rfl, hown, hbw⟩ := hrel
          rcases Nat.lt_or_ge j R.length with hlt | hge
          · have hmem : R.getD j (0, []) ∈ R := by
              rw [List.getD_eq_getElem?_getD, List.getElem?_eq_getElem hlt]
              exact List.getElem_mem hlt
            obtain ⟨hm1, hm2, hm3⟩ := hin.out _ hmem
            obtain ⟨bx, rfl, hbl, hn0, B, d, hw0, hsr⟩ := (HLR.out.next hbw).at_ hlt
            have HFn : Hid ((R.take (j + 1)).flatMap (·.2) = (R.take j).flatMap (·.2) ++ (R.getD j (0, [])).2) := by
              show _ = _
              rw [take_succ_getDL R j (0, []) hlt, List.flatMap_append]
              simp
            have hFl : ((R.take (j + 1)).flatMap (·.2)).length ≤ 50 := by
              have h1 : (R.take (j + 1)).flatMap (·.2) ++ (R.drop (j + 1)).flatMap (·.2) = V := by rw [← List.flatMap_append, List.take_append_drop, hfl.out]
              have := congrArg List.length h1
              rw [List.length_append] at this
              omega
            rw [HFn.out, List.length_append] at hFl
            have hpos : 0 < (R.getD j (0, [])).2.length := List.length_pos_iff.2 hm3
            obtain ⟨bs, os, rfl, _, _⟩ := hsr.at_ hpos
            have HNews := Lib.hid hsr.news
            have hprev : ∀ j', j = j' + 1 → (R.getD j' (0, [])).1 < (R.getD j (0, [])).1 ∧ wr.cell? ⟨bx, j' * 2, none⟩ = some (.int .i64 ((R.getD j' (0, [])).1 : Int)) := by
              rintro j' rfl
              obtain ⟨b', e', _, hc', _⟩ := (HLR.out.next hbw).at_ (k := j') (by omega)
              injection e' with e'
              injection e' with e1 _
              subst e1
              refine ⟨?_, hc'⟩
              have := List.pairwise_iff_getElem.1 hri.out j' (j' + 1) (by omega) hlt (by omega)
              simpa [List.getD, List.getElem?_eq_getElem hlt, List.getElem?_eq_getElem (show j' < R.length by omega)] using this
            generalize (R.getD j (0, [])).1 = no at *
            generalize (R.getD j (0, [])).2 = ws at *
            generalize (R.take j).flatMap (·.2) = F at *
            have HO := Lib.hid hown
            have HBw := Lib.hid hbw
            have hj0 : (j : Int) < R.length := by omega
            have hz : ((ws.length : Int) == 0) = false := by simp; omega
            have hd1 : decide ((no : Int) < 1) = false := by rw [decide_eq_false_iff_not]; omega
            have hd2 : decide ((i : Int) < (no : Int)) = false := by rw [decide_eq_false_iff_not]; omega
            have hd2' : decide (i < no) = false := by rw [decide_eq_false_iff_not]; omega
            clear hown hbw hm1 hm2 hm3 hsr hmem hbl
            rcases Nat.eq_zero_or_pos j with rfl | hjp
            · rw [Nat.zero_mul] at hn0 hw0
              clear hprev
              go_wp2_with fail
              go_quiet (fail)
              go_wp2_with (at_builtin; refine wpList_append_own _ rfl _ _ 32 rfl w5.heap.size 9 iS (.string ⟨#[]⟩) 1 16 Tryd.underlying32 hiS hzS hzS1 hzS2 rfl (by decide) _ F.length (VS F) rfl (own_drewN HO.out _) ⟨bs, os, none⟩ ws.length d (VS ws) rfl (by rw [VS_len]; omega) HNews.out (by intro u hu; obtain ⟨x, _, rfl⟩ := List.mem_map.1 hu; rfl) (by unfold maxLen; omega) (by omega) (by have := HBw.out.size; simp; omega) ?_; intro v6 w6 hown6 hgrow6 _)
              rw [← VS_app] at hown6
              have HO6 := Lib.hid hown6
              have HB6 := Lib.hid ((below_drewN HBw.out _).grown hgrow6 (by have := HBw.out.size; simp; omega) (fun g hg => (HO.out.lt g hg).1))
              clear hown6 hgrow6
              go_roundw
              case rel => exact ⟨0 + 1, by omega, by go_num, by rw [HFn.out, List.length_append]; exact HO6.out, HB6.out⟩
              case measure => simp [intOf]; omega
            · obtain ⟨hp1, hp2⟩ := hprev (j - 1) (by omega)
              generalize (R.getD (j - 1) (0, [])).1 = no' at *
              have hd3 : decide ((no : Int) ≤ (no' : Int)) = false := by rw [decide_eq_false_iff_not]; omega
              have hd4 : decide ((0 : Int) < (j : Int)) = true := by rw [decide_eq_true_iff]; omega
              have hd3' : decide (no ≤ no') = false := by rw [decide_eq_false_iff_not]; omega
              have hd4' : decide (0 < j) = true := by rw [decide_eq_true_iff]; omega
              have hj1 : (j : Int) - 1 < R.length := by omega
              have hj2 : (0 : Int) ≤ (j : Int) - 1 := by omega
              clear hprev hp1
              go_wp2_with fail
              go_quiet (fail)
              go_wp2_with (at_builtin; refine wpList_append_own _ rfl _ _ 32 rfl w5.heap.size 9 iS (.string ⟨#[]⟩) 1 16 Tryd.underlying32 hiS hzS hzS1 hzS2 rfl (by decide) _ F.length (VS F) rfl (own_drewN HO.out _) ⟨bs, os, none⟩ ws.length d (VS ws) rfl (by rw [VS_len]; omega) HNews.out (by intro u hu; obtain ⟨x, _, rfl⟩ := List.mem_map.1 hu; rfl) (by unfold maxLen; omega) (by omega) (by have := HBw.out.size; simp; omega) ?_; intro v6 w6 hown6 hgrow6 _)
              rw [← VS_app] at hown6
              have HO6 := Lib.hid hown6
              have HB6 := Lib.hid ((below_drewN HBw.out _).grown hgrow6 (by have := HBw.out.size; simp; omega) (fun g hg => (HO.out.lt g hg).1))
              clear hown6 hgrow6
              go_roundw
              case rel => exact ⟨j + 1, by omega, by go_num, by rw [HFn.out, List.length_append]; exact HO6.out, HB6.out⟩
              case measure => simp [intOf]; omega
          · obtain rfl : j = R.length := by omega
            rw [List.take_length, hfl.out] at hown
            obtain ⟨Ag, cg, rfl, _, hsg⟩ := own_strs hown
            have HX := Lib.hid (texts_any Ag Aw V.length V.length cg cw V V wr hsg (HSw.out.next hbw) (by omega) (by omega))
            rw [show decide (V = V) = true by simp] at HX
            have HB := Lib.hid (HB.out.trans (hbw.mono HB.out.size))
            clear hown hsg hbw
            go_wp2_with (go_at_call 12; refine HX.out.mono ?_; rintro e w6 ⟨rfl, hb⟩)
            go_ret
            exact ⟨rfl, HB.out.trans (hb.mono HB.out.size)⟩
end Go.Proofs.YthnchjmbjeooiaaDoor
