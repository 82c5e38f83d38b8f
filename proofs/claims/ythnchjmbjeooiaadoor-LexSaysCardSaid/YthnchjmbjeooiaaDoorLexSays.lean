/- The stage's law, walked: any text's lines, any number, any name, against the document's. Conditions: the fourteen errors lie in their variables; the library's bound variable holds some number, its two errors of numbers something; its table of powers of ten is as its text lays it. -/
import Derived.Test.YthnchjmbjeooiaaDoorRLines
import Derived.Test.YthnchjmbjeooiaaDoorRName
import Derived.Test.YthnchjmbjeooiaaDoorRNum
import Derived.Test.YthnchjmbjeooiaaDoorFirst
import Derived.Test.YthnchjmbjeooiaaDoorIsC
import Derived.Deep.RegionHeld3
namespace Go.Proofs.YthnchjmbjeooiaaDoor
open Go.RowKit Go.Lib Lx
theorem keepc {w w' : World} {p : Addr} {v : Value} (h : w.cell? p = some v) (hb : Below w.heap.size w w') : w'.cell? p = some v := (hb.cell (World.block_lt_of_cell? w _ h)).trans h
theorem rows_words : ∀ (ps : List (List UInt8)) (no : Nat), ∀ x ∈ rows no ps, ∃ p ∈ ps, x.2 = words (bare p)
  | [], _, x, hx => by simp [rows] at hx
  | p :: ps, no, x, hx => by
    rw [rows] at hx
    rcases List.mem_append.1 hx with h | h
    · unfold row at h
      split at h
      · cases h
      · simp at h
        exact ⟨p, by simp, by rw [h]⟩
    · obtain ⟨q, hq, e⟩ := rows_words ps _ x h
      exact ⟨q, by simp [hq], e⟩
theorem lines_words (l : List UInt8) : ∀ x ∈ lines l, x.2.length ≤ l.length + 1 := by
  intro x hx
  obtain ⟨p, hp, e⟩ := rows_words _ _ x hx
  have h1 := nl_len l p hp
  have h2 := bare_len p
  have h3 := words_num (bare p)
  rw [e]
  omega
theorem isC_nm (l : List UInt8) (most : Int) : IsC (nmCode l most) := by
  unfold nmCode
  split
  · split
    · exact .inr ⟨2, by omega, by omega⟩
    · exact .inl rfl
  · exact .inr ⟨6, by omega, by omega⟩
theorem isC_nmC (b : Bool) : IsC (nmC b) := by
  cases b
  · exact .inr ⟨8, by omega, rfl⟩
  · exact .inl rfl
theorem nmE_erS (ads : List Addr) (l : List UInt8) (most : Int) : nmE (erS ads 103) (erS ads 107) (nmCode l most) = erS ads (nmCode l most) := by
  unfold nmCode
  split
  · split <;> rfl
  · rfl
theorem nmV_erS (ads : List Addr) (b : Bool) : nmV b (erS ads 109) = erS ads (nmC b) := by cases b <;> rfl
set_option maxRecDepth 100000 in
set_option maxHeartbeats 4000000 in
theorem law_says (ads : List Addr) (m : Int) (s t : ByteArray) (most : Int) (W : World) (hS : EnvS ads W) (hM : EnvM m W) (hT : EnvT W) (hE : EnvE W) :
    Calls Tryd.prog 3 #[.string s, .string t, .int .i64 most] W fun e w' => e = .returned (.bool true) ∧ Below W.heap.size W w' := by
  have HF := Lib.hid (first_any m W hM)
  by_cases h1 : 500 < s.size
  · clear hS hM hT hE
    go_enter Tryd.func3, Tryd.ntmps3
    go_wp2_with (go_at_call 8; refine HF.out.mono ?_; rintro e w1 ⟨rfl, hb⟩; have HB := Lib.hid hb; clear hb)
    go_ret
    exact ⟨rfl, HB.out⟩
  · by_cases h2 : 40 < t.size
    · clear hS hM hT hE
      have h1' : s.size ≤ 500 := by omega
      clear h1
      go_enter Tryd.func3, Tryd.ntmps3
      go_wp2_with (go_at_call 8; refine HF.out.mono ?_; rintro e w1 ⟨rfl, hb⟩; have HB := Lib.hid hb; clear hb)
      go_ret
      exact ⟨rfl, HB.out⟩
    · have h1' : s.size ≤ 500 := by omega
      have h2' : t.size ≤ 40 := by omega
      clear h1 h2
      have HL := Lib.hid (fun W' (hb : Below W.heap.size W W') => lines_any s m W' (by omega) (hM.next hb))
      have HR := Lib.hid (fun W' => rlines_any s W' (by omega))
      have hlen : (lines s.data.toList).length ≤ 501 := by
        have e1 := rows_len (nl s.data.toList) 1
        have e2 := nl_num s.data.toList
        rw [← Lib.size_eq] at e2
        unfold lines
        omega
      have hwd : ∀ x ∈ lines s.data.toList, x.2.length ≤ 501 := by
        intro x hx
        have := lines_words _ x hx
        rw [← Lib.size_eq] at this
        omega
      have HWd := Lib.hid hwd
      clear hwd
      generalize lines s.data.toList = R at *
      have hc3 := erS_cell hS (j := 2) (g := 2) (by omega) rfl
      have hc7 := erS_cell hS (j := 6) (g := 1) (by omega) rfl
      have hc9 := erS_cell hS (j := 8) (g := 3) (by omega) rfl
      have HN1 := Lib.hid (fun W' (hw : Below W.heap.size W W') => number_lex t most _ _ W' (by omega) (hT.below hw) (hE.next hw) (keepc hc3 hw) (keepc hc7 hw))
      have e1 := nmE_erS ads t.data.toList most
      have e2 := nmV_erS ads (nameOk t.data.toList)
      have HM1 := Lib.hid (fun W' (hw : Below W.heap.size W W') => name_any t _ W' (keepc hc9 hw))
      have HN2 := Lib.hid (fun W' => rnumber_any t most W')
      have HM2 := Lib.hid (fun W' => rname_any t W' (by omega))
      have HI0 := Lib.hid (fun W' => is_nil 0 W')
      have HI1 := Lib.hid (fun W' (hw : Below W.heap.size W W') => is_code ads _ (nmCode t.data.toList most) (isC_nm t.data.toList most) W' (hS.below hw))
      have HI2 := Lib.hid (fun W' (hw : Below W.heap.size W W') => is_code ads _ (nmC (nameOk t.data.toList)) (isC_nmC (nameOk t.data.toList)) W' (hS.below hw))
      simp only [beq_self_eq_true] at HI0 HI1 HI2
      have e3 : (101 + ((2 : Nat) : Int)) = 103 := rfl
      have e7 : (101 + ((6 : Nat) : Int)) = 107 := rfl
      have e9 : (101 + ((8 : Nat) : Int)) = 109 := rfl
      rw [e3, e7, e1] at HN1
      rw [e9, e2] at HM1
      clear e1 e2 e3 e7 e9 hc3 hc7 hc9 hS hM hT hE
      generalize nmC (nameOk t.data.toList) = C2 at *
      generalize nmVal t.data.toList most = V1 at *
      generalize nmCode t.data.toList most = C1 at *
      generalize erS ads C1 = E1 at *
      generalize erS ads C2 = E2 at *
      go_enter Tryd.func3, Tryd.ntmps3
      go_wp2_with (first
        | (go_at_call 8; refine HF.out.mono ?_; rintro e w1 ⟨rfl, hb⟩; have HB := Lib.hid hb; clear hb)
        | (go_at_call 9; refine (HL.out _ HB.out).mono ?_; rintro e w2 ⟨A, c, rfl, hlr, hb⟩
           have HA := Lib.hid hlr
           have HB := Lib.hid (HB.out.trans (hb.mono HB.out.size))
           clear hlr hb)
        | (go_at_call 10; refine (HR.out _).mono ?_; rintro e w3 ⟨A', c', rfl, hlr, hb⟩
           have HA' := Lib.hid hlr
           have HA := Lib.hid (HA.out.next hb)
           have HB := Lib.hid (HB.out.trans (hb.mono HB.out.size))
           clear hlr hb)
        | (go_at_call 11; refine (HI0.out _).mono ?_; rintro e w4 ⟨rfl, hb⟩
           have HA := Lib.hid (HA.out.next hb)
           have HA' := Lib.hid (HA'.out.next hb)
           have HB := Lib.hid (HB.out.trans (hb.mono HB.out.size))
           clear hb))
      go_loopw [12] (fun i wr => ∃ k : Nat, k ≤ R.length ∧ i = .int .i64 k ∧ Below w4.heap.size w4 wr) (fun i _ => R.length - (intOf i).toNat)
      case atStart => exact ⟨0, Nat.zero_le _, rfl, Below.refl _ _⟩
      case round =>
        obtain ⟨k, hk, rfl, hbw⟩ := hrel
        rcases Nat.lt_or_ge k R.length with hlt | hge
        · obtain ⟨b, rfl, hbl, hn, B, d, hw, hsr⟩ := (HA.out.next hbw).at_ hlt
          obtain ⟨b', rfl, hbl', hn', B', d', hw', hsr'⟩ := (HA'.out.next hbw).at_ hlt
          have hwl : (R.getD k (0, [])).2.length ≤ 1048577 := by
            have hx : R.getD k (0, []) ∈ R := by
              rw [List.getD_eq_getElem?_getD, List.getElem?_eq_getElem hlt]
              exact List.getElem_mem hlt
            have := HWd.out _ hx
            omega
          have c0 := fun (X : World) (hX : Below wr.heap.size wr X) => keepc hn hX
          have c1 := fun (X : World) (hX : Below wr.heap.size wr X) => keepc hw hX
          have c2 := fun (X : World) (hX : Below wr.heap.size wr X) => keepc hn' hX
          have c3 := fun (X : World) (hX : Below wr.heap.size wr X) => keepc hw' hX
          have HX := Lib.hid (fun (X : World) (hX : Below wr.heap.size wr X) => texts_any B B' _ _ d d' _ _ X (hsr.next hX) (hsr'.next hX) hwl hwl)
          rw [show (decide ((R.getD k (0, [])).2 = (R.getD k (0, [])).2)) = true from by simp] at HX
          have hi0 : (k : Int) < R.length := by omega
          generalize (R.getD k (0, [])).1 = no at *
          generalize (R.getD k (0, [])).2 = ws at *
          have HBw := Lib.hid hbw
          clear hbw hn hw hn' hw' hsr hsr' hbl hbl'
          go_wp2_with fail
          go_region_held3 (fun w' => Below wr.heap.size wr w')
            (first | with_reducible assumption | with_reducible exact (Below.refl _ _).drew)
            (first
            | (go_at_call 12; refine (HX.out _ (by with_reducible assumption)).mono ?_; rintro e w5 ⟨rfl, hb5⟩; have hb6 := below_next (w := wr) (by with_reducible assumption) hb5))
          go_wp2
          go_roundw
          case rel => exact ⟨k + 1, by omega, by go_num, below_next HBw.out hb6⟩
          case measure => simp [intOf]; omega
        · obtain rfl : k = R.length := by omega
          have HB := Lib.hid (HB.out.trans (hbw.mono HB.out.size))
          clear hbw
          go_wp2_with (first
            | (go_at_call 13; refine (HN1.out _ HB.out).mono ?_; rintro e w5 ⟨rfl, hb⟩
               have HB := Lib.hid (HB.out.trans (hb.mono HB.out.size))
               clear hb)
            | (go_at_call 14; refine (HN2.out _).mono ?_; rintro e w5 ⟨rfl, rfl⟩)
            | (go_at_call 15; refine (HM1.out _ HB.out).mono ?_; rintro e w5 ⟨rfl, rfl⟩)
            | (go_at_call 16; refine (HM2.out _).mono ?_; rintro e w5 ⟨rfl, rfl⟩)
            | (go_at_call 11; first | (with_reducible refine (HI1.out _ HB.out).mono ?_) | (with_reducible refine (HI2.out _ HB.out).mono ?_)
               rintro e w5 ⟨rfl, hb⟩
               have HB := Lib.hid (HB.out.trans (hb.mono HB.out.size))
               clear hb))
          go_ret
          exact ⟨rfl, HB.out⟩
end Go.Proofs.YthnchjmbjeooiaaDoor
