/- Contracts of lex.Lines: a text's lines that have words; a text that is too long. Conditions: the library's bound variable holds some number; the error of many lies in its variable. -/
import Derived.Test.YthnchjmbjeooiaaDoorWords
import Derived.BigQuiet
import Derived.Deep.QuietTactic
import Derived.Deep.RegionHeld3
namespace Go.Proofs.YthnchjmbjeooiaaDoor
open Go.RowKit Go.Lib Lx
def EnvM (m : Int) (w : World) : Prop := w.cell? ⟨4, 0, none⟩ = some (.int .i64 m)
theorem EnvM.next {m : Int} {w w' : World} (h : EnvM m w) (hb : Below w.heap.size w w') : EnvM m w' := (hb.cell (World.block_lt_of_cell? _ _ h)).trans h
theorem split_any (s : ByteArray) (m : Int) (w : World) (hs : s.size ≤ 1048576) (hm : EnvM m w) :
    Calls Tryd.prog 19 #[.string s, .string ⟨#[10]⟩] w fun e w' => ∃ b, e = .returned (.slice (some ⟨b, 0, none⟩) (nl s.data.toList).length (nl s.data.toList).length) ∧ b < w'.heap.size ∧ SR w' (some ⟨b, 0, none⟩) (nl s.data.toList).length (nl s.data.toList) ∧ Below w.heap.size w w' := by
  have hc : Lib.countB s ⟨#[10]⟩ = s.data.toList.count 10 := Lib.count_one 10 _
  have hp : (Lib.splitB ⟨#[10]⟩ 0 (Lib.countB s ⟨#[10]⟩) s).map (·.data.toList) = nl s.data.toList := by
    rw [Lib.splitB_data, hc]
    exact split_nl _ _ rfl
  have hl : (nl s.data.toList).length = Lib.countB s ⟨#[10]⟩ + 1 := by
    rw [← hp, List.length_map, Lib.splitB_all ⟨#[10]⟩ (by decide) 0 _ s rfl]
  have he : (Lib.splitB ⟨#[10]⟩ 0 (Lib.countB s ⟨#[10]⟩) s).map Value.string = VS (nl s.data.toList) := by
    rw [← hp, VS, List.map_map]
    exact List.map_congr_left fun b _ => by simp [str]
  refine (Tryd.strings_Split s ⟨#[10]⟩ m w (by omega) hm (by decide)).mono ?_
  rintro e w' ⟨rfl, rfl⟩
  rw [he, ← hl]
  refine ⟨_, rfl, by simp, ⟨rfl, fun _ => ⟨_, 0, rfl, by simp, fun i hi => ?_⟩⟩, (Below.refl _ _).alloc (Nat.le_refl _) _⟩
  rw [Nat.zero_add, (Blk.new w _ _).cell i]
  simpa using VS_at hi
theorem cut_any (s : ByteArray) (m : Int) (w : World) (hs : s.size ≤ 1048576) (hm : EnvM m w) :
    Calls Tryd.prog 20 #[.string s, .string ⟨#[35]⟩] w fun e w' => ∃ t b, e = .returned (.tuple #[.string (str (bare s.data.toList)), .string t, .bool b]) ∧ Below w.heap.size w w' := by
  refine (Tryd.strings_Cut s ⟨#[35]⟩ m w (by omega) hm).mono ?_
  rintro e w' ⟨rfl, n, rfl⟩
  have he := cut_bare s.data.toList
  rw [show (⟨#[35]⟩ : ByteArray).data.toList = [35] from rfl, he]
  exact ⟨_, _, rfl, below_drewN (Below.refl _ _) n⟩
theorem nl_len : ∀ (l : List UInt8), ∀ x ∈ nl l, x.length ≤ l.length
  | [], x, hx => by simp [nl] at hx; subst hx; simp
  | c :: l, x, hx => by
    obtain ⟨p, ps, hp⟩ := nl_cons l
    have h1 := nl_len l
    rw [nl, hp] at hx
    rw [hp] at h1
    split at hx
    · rcases List.mem_cons.1 hx with rfl | hx
      · simp
      · have := h1 x hx; simp; omega
    · rcases List.mem_cons.1 hx with rfl | hx
      · have := h1 p (by simp); simp; omega
      · have := h1 x (by simp [hx]); simp; omega
theorem nl_num : ∀ (l : List UInt8), (nl l).length ≤ l.length + 1
  | [] => by simp [nl]
  | c :: l => by
    obtain ⟨p, ps, hp⟩ := nl_cons l
    have h1 := nl_num l
    rw [nl, hp]
    rw [hp] at h1
    split
    · simp at h1 ⊢; omega
    · simp at h1 ⊢; omega
theorem rows_len : ∀ (ps : List (List UInt8)) (no : Nat), (rows no ps).length ≤ ps.length
  | [], _ => by simp [rows]
  | p :: ps, no => by
    have h1 := rows_len ps (no + 1)
    have h2 : (row no p).length ≤ 1 := by unfold row; split <;> simp
    rw [rows, List.length_append, List.length_cons]
    omega
theorem take_succ_getDL {α : Type} (xs : List α) (k : Nat) (d : α) (h : k < xs.length) : xs.take (k + 1) = xs.take k ++ [xs.getD k d] := by
  rw [List.take_succ_eq_append_getElem h]
  simp [List.getD, List.getElem?_eq_getElem h]
theorem rows_take (ps : List (List UInt8)) (k : Nat) (h : k < ps.length) : rows 1 (ps.take (k + 1)) = rows 1 (ps.take k) ++ row (k + 1) (ps.getD k []) := by
  rw [take_succ_getDL ps k [] h, rows_snoc, List.length_take, Nat.min_eq_left (by omega), Nat.add_comm 1 k]
theorem row_no {no : Nat} {p : List UInt8} (h : words (bare p) = []) : row no p = [] := by unfold row; rw [if_pos h]
theorem row_yes {no : Nat} {p : List UInt8} (h : words (bare p) ≠ []) : row no p = [(no, words (bare p))] := by unfold row; rw [if_neg h]
theorem info_line : (Tryd.prog.info? 34).map (fun i => (i.zero, i.size, i.bytes)) = some (some (.agg #[.int .i64 0, .slice none 0 0]), 2, 32) := by kernel_rfl
theorem cells2_new (w : World) (x y : Value) (t : TypeId) : ∀ j u, [x, y][j]? = some u → (w.alloc (.cells #[x, y] t)).cell? ((⟨w.heap.size, 0, none⟩ : Addr).add j) = some u := by
  intro j u hj
  match j, hj with
  | 0, hj => simp at hj; subst hj; simp [Addr.add]
  | 1, hj => simp at hj; subst hj; simp [Addr.add]
  | (j + 2), hj => simp at hj
set_option maxRecDepth 100000 in
set_option maxHeartbeats 2000000 in
theorem lines_any (s : ByteArray) (m : Int) (w : World) (hs : s.size ≤ 16384) (hm : EnvM m w) :
    Calls Tryd.prog 9 #[.string s] w fun e w' => ∃ A c, e = .returned (.tuple #[.slice A (lines s.data.toList).length c, .nilIface]) ∧ LR w' A (lines s.data.toList).length (lines s.data.toList) ∧ Below w.heap.size w w' := by
  obtain ⟨i0, hi, hz0, hz1, hz2⟩ := info_parts info_line
  have HS := Lib.hid (split_any s m w (by omega) hm)
  have HM := Lib.hid hm
  have hN : (nl s.data.toList).length ≤ 16385 := by
    have := nl_num s.data.toList
    rw [← Lib.size_eq] at this
    omega
  have HP : Hid (∀ i, i < (nl s.data.toList).length → ((nl s.data.toList).getD i []).length ≤ 16384) := by
    intro i hi
    have := nl_len s.data.toList ((nl s.data.toList).getD i []) (by
      rw [List.getD_eq_getElem?_getD, List.getElem?_eq_getElem hi]
      exact List.getElem_mem hi)
    rw [← Lib.size_eq] at this
    omega
  have HE : Hid (lines s.data.toList = rows 1 (nl s.data.toList)) := rfl
  generalize lines s.data.toList = R at *
  generalize nl s.data.toList = ps at *
  clear hm
  go_enter Tryd.func9, Tryd.ntmps9
  go_wp2_with (go_at_call 19; refine HS.out.mono ?_; rintro e w1 ⟨b, rfl, hbl, hsr, hb⟩)
  clear HS
  have HM1 := Lib.hid (HM.out.next hb)
  have HR := Lib.hid hsr
  have HB := Lib.hid hb
  clear hsr hb hbl HM
  go_loopw [4, 18] (fun v i wr => ∃ (k : Nat) (cs : List Value), k ≤ ps.length ∧ i = .int .i64 k ∧ wr.ownsRow w1.heap.size 34 2 v (rows 1 (ps.take k)).length cs ∧ LC wr 9 (rows 1 (ps.take k)) cs ∧ Below w1.heap.size w1 wr) (fun _ i _ => ps.length - (intOf i).toNat)
  case atStart => exact ⟨0, [], Nat.zero_le _, rfl, by simpa [rows] using World.ownsRow_nil _ _ _ _, by simp [rows, LC], Below.refl _ _⟩
  case round =>
    obtain ⟨k, cs, hk, rfl, hown, hlc, hbw⟩ := hrel
    rcases Nat.lt_or_ge k ps.length with hlt | hge
    · obtain ⟨b', o', e', _, hc⟩ := (HR.out.next hbw).at_ hlt
      injection e' with e'
      injection e' with e1 e2
      subst e1 e2
      rw [Nat.zero_add] at hc
      have hlen : (rows 1 (ps.take k)).length ≤ 16385 := by
        have := rows_len (ps.take k) 1
        rw [List.length_take] at this
        omega
      have HT := Lib.hid (rows_take ps k hlt)
      have hpl := HP.out k hlt
      have hbl2 := bare_len (ps.getD k [])
      have HC := Lib.hid (cut_any (str (ps.getD k [])) m wr (by rw [str_size]; omega) (HM1.out.next hbw))
      have HW := Lib.hid (fun W => words_any (str (bare (ps.getD k []))) W (by rw [str_size]; omega))
      simp only [str_data] at HC HW
      have HO := Lib.hid hown
      have HL := Lib.hid hlc
      have HBw := Lib.hid hbw
      clear hown hlc hbw hpl hbl2 HB
      have hi0 : (k : Int) < ps.length := by omega
      generalize ps.getD k [] = p at *
      by_cases hw : words (bare p) = []
      · rw [hw] at HW
        rw [row_no hw, List.append_nil] at HT
        clear hw
        generalize bare p = bp at *
        generalize rows 1 (ps.take k) = L at *
        go_wp2_with (first
          | (go_at_call 20; refine HC.out.mono ?_; rintro e w2 ⟨t2, q2, rfl, hb2⟩
             have HO2 := Lib.hid (own_nextk HO.out hb2)
             have HL2 := Lib.hid (HL.out.next hb2)
             have HB2 := Lib.hid (below_next HBw.out hb2)
             clear hb2)
          | (go_at_call 21; refine (HW.out _).mono ?_; rintro e w3 ⟨A3, rfl, hown3, hb3⟩
             have HO3 := Lib.hid (own_nextk HO2.out hb3)
             have HL3 := Lib.hid (HL2.out.next hb3)
             have HB3 := Lib.hid (below_next HB2.out hb3)
             clear hb3 hown3))
        go_roundw
        case rel => exact ⟨k + 1, cs, by omega, by go_num, by rw [HT.out]; exact HO3.out, by rw [HT.out]; exact HL3.out, HB3.out⟩
        case measure => simp [intOf]; omega
      · rw [row_yes hw] at HT
        have hpos : 0 < (words (bare p)).length := List.length_pos_iff.2 hw
        clear hw
        generalize words (bare p) = ws at *
        generalize bare p = bp at *
        generalize rows 1 (ps.take k) = L at *
        go_wp2_with (first
          | (go_at_call 20; refine HC.out.mono ?_; rintro e w2 ⟨t2, q2, rfl, hb2⟩
             have HO2 := Lib.hid (own_nextk HO.out hb2)
             have HL2 := Lib.hid (HL.out.next hb2)
             have HB2 := Lib.hid (below_next HBw.out hb2)
             clear hb2)
          | (go_at_call 21; refine (HW.out _).mono ?_; rintro e w3 ⟨A3, rfl, hown3, hb3⟩
             have HO3 := Lib.hid (own_nextk HO2.out hb3)
             have HL3 := Lib.hid (HL2.out.next hb3)
             have HB3 := Lib.hid (below_next HB2.out hb3)
             have HW3 := Lib.hid (own_up hown3 (Nat.zero_le _))
             clear hb3 hown3)
          | (at_builtin; refine wpList_append_own _ rfl _ _ 23 rfl w1.heap.size 34 i0 (.agg #[.int .i64 0, .slice none 0 0]) 2 32 Tryd.underlying23 hi hz0 hz1 hz2 rfl (by decide) _ L.length _ rfl (HO3.out.alloc _) ⟨w3.heap.size, 0, none⟩ 1 1 [.int .i64 ((k : Int) + 1), .slice A3 ws.length ws.length] rfl rfl (cells2_new _ _ _ _) (by intro u hu; simp at hu; rcases hu with rfl | rfl <;> rfl) (by unfold maxLen; omega) (by omega) (by have := HB3.out.size; simp; omega) ?_; intro v4 w4 hown4 hgrow4 _
             have hb4 := (HB3.out.alloc HB3.out.size (.cells #[.int .i64 ((k : Int) + 1), .slice A3 ws.length ws.length] 34)).grown hgrow4 (by have := HB3.out.size; simp; omega) (fun g hg => ((HO3.out.alloc (.cells #[.int .i64 ((k : Int) + 1), .slice A3 ws.length ws.length] 34)).lt g hg).1)
             have hl4 := ((HL3.out.snoc (no := k + 1) HW3.out).next ((Below.refl _ _).alloc (Nat.le_refl _) (.cells #[.int .i64 ((k : Int) + 1), .slice A3 ws.length ws.length] 34))).kept (tL := 34) (by decide) (HO3.out.alloc _) hgrow4
             have HB4 := Lib.hid hb4
             have HL4 := Lib.hid hl4
             have HO4 := Lib.hid hown4
             clear hb4 hl4 hown4 hgrow4))
        go_roundw
        case rel => exact ⟨k + 1, cs ++ [.int .i64 ((k : Int) + 1), .slice A3 ws.length ws.length], by omega, by go_num, by rw [HT.out, List.length_append]; exact HO4.out, by rw [HT.out]; exact HL4.out, HB4.out⟩
        case measure => simp [intOf]; omega
    · obtain rfl : k = ps.length := by omega
      rw [List.take_length, ← HE.out] at hown hlc
      obtain ⟨A, c, rfl, _, hr⟩ := own_lines hown hlc
      have HBx := Lib.hid (below_next HB.out hbw)
      have HRx := Lib.hid hr
      clear hown hlc hbw hr HB
      go_wp2
      go_ret2
      exact ⟨A, c, rfl, HRx.out, HBx.out⟩
theorem lines_many (s : ByteArray) (x : Value) (w : World) (hs : 16384 < s.size) (hx : w.cell? ⟨0, 0, none⟩ = some x) :
    Calls Tryd.prog 9 #[.string s] w fun e w' => e = .returned (.tuple #[.slice none 0 0, x]) ∧ Below w.heap.size w w' := by
  have HB := Lib.hid (Below.refl w.heap.size w)
  go_enter Tryd.func9, Tryd.ntmps9
  go_wp2_with fail
  go_quiet (fail)
  go_wp2
  go_ret2
  exact ⟨rfl, below_drewN HB.out _⟩
end Go.Proofs.YthnchjmbjeooiaaDoor
