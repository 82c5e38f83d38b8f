/- Contracts of package lex's inner functions: what stands between words; a line's words, in memory of their own. -/
import Derived.Test.YthnchjmbjeooiaaDoorStr
import Derived.Test.YthnchjmbjeooiaaDoorShelf
import Derived.WalkKit
import Derived.Lib.Hide
namespace Go.Proofs.YthnchjmbjeooiaaDoor
open Go.RowKit Go.Lib Lx
theorem ret_boolx {a b : Bool} {W : World} (h : a = b) : Ending.returned (.bool a) = Ending.returned (.bool b) ∧ W = W := ⟨by rw [h], rfl⟩
theorem between_any (x : Nat) (W : World) :
    Calls Tryd.prog 32 #[.int .i32 (x : Int)] W fun e w' => e = .returned (.bool (sepR x)) ∧ W = w' := by
  by_cases h1 : x = 32
  · subst h1
    go_enter Tryd.func32, Tryd.ntmps32
    go_wp2
    go_ret
    exact ret_boolx rfl
  · have e1 : ((x : Int) == 32) = false := by simp; omega
    have g1 : (x == 32) = false := by simpa using h1
    by_cases h2 : x = 9
    · subst h2
      go_enter Tryd.func32, Tryd.ntmps32
      go_wp2
      go_ret
      exact ret_boolx rfl
    · have e2 : ((x : Int) == 9) = false := by simp; omega
      have g2 : (x == 9) = false := by simpa using h2
      by_cases h3 : x = 13
      · subst h3
        go_enter Tryd.func32, Tryd.ntmps32
        go_wp2
        go_ret
        exact ret_boolx rfl
      · have e3 : ((x : Int) == 13) = false := by simp; omega
        have g3 : (x == 13) = false := by simpa using h3
        have HS := Lib.hid (show false = sepR x by unfold sepR; rw [g1, g2, g3]; rfl)
        clear h1 h2 h3 g1 g2 g3
        go_enter Tryd.func32, Tryd.ntmps32
        go_wp2
        go_ret
        exact ret_boolx HS.out
theorem fields_any (s : ByteArray) (w : World) (hs : s.size ≤ 1048576) :
    Calls Tryd.prog 31 #[.string s, .func (.func 32) #[] #[]] w fun e w' => ∃ A, e = .returned (.slice (some ⟨A, 0, none⟩) (words s.data.toList).length (words s.data.toList).length) ∧ w.heap.size ≤ A ∧
      w'.ownsRow w.heap.size 9 1 (.slice (some ⟨A, 0, none⟩) (words s.data.toList).length (words s.data.toList).length) (words s.data.toList).length (VS (words s.data.toList)) ∧ Below w.heap.size w w' := by
  have h := Tryd.strings_FieldsFunc_grows 32 #[] (enters_of Tryd.func32 (by kernel_rfl) rfl) sepR s w (by omega) (fun W x hx hb => (between_any x W).mono fun e w' ⟨he, hw⟩ => ⟨he, hw ▸ Below.refl _ _⟩)
  have e : VS (words s.data.toList) = (Lib.goFieldsP sepR s).map Value.string := by
    rw [← goFields_words, VS, List.map_map]
    exact List.map_congr_left fun b _ => by simp [str]
  have el : (words s.data.toList).length = (Lib.goFieldsP sepR s).length := by rw [← goFields_words, List.length_map]
  rw [e, el]
  exact h
theorem clone_any (s : ByteArray) (w : World) (hs : s.size ≤ 281474976710656) :
    Calls Tryd.prog 33 #[.string s] w fun e w' => e = .returned (.string s) ∧ Below w.heap.size w w' := by
  have H := Lib.hid (Tryd.stringslite_Clone s w hs)
  go_enter Tryd.func33, Tryd.ntmps33
  go_wp2_with (go_at_call 43; refine H.out.mono ?_; rintro e w1 ⟨rfl, hb⟩)
  go_ret
  exact ⟨rfl, hb⟩
theorem scan_len : ∀ (l cur : List UInt8), ∀ x ∈ scan cur l, x.length ≤ cur.length + l.length
  | [], cur, x, hx => by
    unfold scan at hx
    split at hx
    · cases hx
    · simp at hx; subst hx; simp
  | c :: l, cur, x, hx => by
    unfold scan at hx
    split at hx
    · split at hx
      · have := scan_len l [] x hx; simp at this ⊢; omega
      · rcases List.mem_cons.1 hx with rfl | hx
        · simp
        · have := scan_len l [] x hx; simp at this ⊢; omega
    · have := scan_len l _ x hx; simp at this ⊢; omega
theorem scan_num : ∀ (l cur : List UInt8), (scan cur l).length ≤ l.length + 1
  | [], cur => by unfold scan; split <;> simp
  | c :: l, cur => by
    unfold scan
    split
    · have := scan_num l []
      split
      · simp; omega
      · simp; omega
    · have := scan_num l (cur ++ [c]); simp; omega
theorem words_num (l : List UInt8) : (words l).length ≤ l.length + 1 := scan_num l []
theorem own_str_set {w : World} {base g cap n : Nat} {e : TypeId} {ws : List (List UInt8)} (h : w.ownsRow base e 1 (.slice (some ⟨g, 0, none⟩) n cap) n (VS ws)) (i : Nat) (hi : i < ws.length) :
    (w.setCell ⟨g, i, none⟩ (.string (str (ws.getD i [])))).ownsRow base e 1 (.slice (some ⟨g, 0, none⟩) n cap) n (VS ws) := by
  have h2 := (h.stored i (.string (str (ws.getD i [])))).1
  have e2 : (VS ws).set i (.string (str (ws.getD i []))) = VS ws := by
    apply List.ext_getElem?
    intro j
    rw [List.getElem?_set]
    split
    · rename_i hj
      subst hj
      rw [VS_at hi, VS_len, if_pos hi]
    · rfl
  rwa [e2] at h2
set_option maxRecDepth 100000 in
set_option maxHeartbeats 1000000 in
theorem words_any (s : ByteArray) (w : World) (hs : s.size ≤ 1048576) :
    Calls Tryd.prog 21 #[.string s] w fun e w' => ∃ A, e = .returned (.slice A (words s.data.toList).length (words s.data.toList).length) ∧
      w'.ownsRow w.heap.size 9 1 (.slice A (words s.data.toList).length (words s.data.toList).length) (words s.data.toList).length (VS (words s.data.toList)) ∧ Below w.heap.size w w' := by
  have HF := Lib.hid (fields_any s w hs)
  have HL : Hid (∀ i, i < (words s.data.toList).length → (str ((words s.data.toList).getD i [])).size ≤ 281474976710656) := by
    intro i hi
    have h1 := scan_len s.data.toList [] ((words s.data.toList).getD i []) (by
      rw [List.getD_eq_getElem?_getD, List.getElem?_eq_getElem hi]
      exact List.getElem_mem hi)
    rw [str_size]
    rw [← Lib.size_eq, List.length_nil, Nat.zero_add] at h1
    omega
  have hn : (words s.data.toList).length ≤ 1048577 := by
    have := words_num s.data.toList
    rw [← Lib.size_eq] at this
    omega
  generalize words s.data.toList = ws at *
  go_enter Tryd.func21, Tryd.ntmps21
  go_wp2_with (go_at_call 31; refine HF.out.mono ?_; rintro e w1 ⟨A, rfl, hA, hown, hb⟩)
  clear HF
  have HO := Lib.hid hown
  have HB := Lib.hid hb
  clear hown hb
  go_loopw [10] (fun i wr => ∃ k : Nat, k ≤ ws.length ∧ i = .int .i64 k ∧ wr.ownsRow w.heap.size 9 1 (.slice (some ⟨A, 0, none⟩) ws.length ws.length) ws.length (VS ws) ∧ Below w.heap.size w wr) (fun i _ => ws.length - (intOf i).toNat)
  case atStart => exact ⟨0, Nat.zero_le _, rfl, HO.out, HB.out⟩
  case round =>
    obtain ⟨k, hk, rfl, hown, hbw⟩ := hrel
    clear HO HB
    rcases Nat.lt_or_ge k ws.length with hlt | hge
    · have hc : wr.cell? ⟨A, k, none⟩ = some (.string (str (ws.getD k []))) := by rw [hown.cellAt k (by omega)]; exact VS_at hlt
      have HC := Lib.hid (fun W => clone_any (str (ws.getD k [])) W (HL.out k hlt))
      have hset := Lib.hid (fun (W : World) (h : W.ownsRow w.heap.size 9 1 (.slice (some ⟨A, 0, none⟩) ws.length ws.length) ws.length (VS ws)) => own_str_set h k hlt)
      have HO := Lib.hid hown
      have HB := Lib.hid hbw
      clear hown hbw
      have hi0 : (k : Int) < ws.length := by omega
      generalize str (ws.getD k []) = v at *
      go_wp2_with (go_at_call 33; refine (HC.out _).mono ?_; rintro e w2 ⟨rfl, hb2⟩
                   have HO2 := Lib.hid (own_next HO.out hb2)
                   have hf2 : w2.frozen? ⟨A, k, none⟩ = false := HO2.out.frozenAt k
                   have HB2 := Lib.hid (below_next HB.out hb2)
                   have hc2 : w2.cell? ⟨A, k, none⟩ = some (.string v) := (hb2.cell (World.block_lt_of_cell? _ _ hc)).trans hc
                   clear hb2)
      go_roundw
      case rel => exact ⟨k + 1, by omega, by go_num, hset.out _ HO2.out, below_store HB2.out hA _⟩
      case measure => simp [intOf]; omega
    · obtain rfl : k = ws.length := by omega
      go_wp2
      go_ret
      exact ⟨_, rfl, hown, hbw⟩
end Go.Proofs.YthnchjmbjeooiaaDoor
