/- Plain facts: reading an address byte by byte gives what splitting it gives; the document's reader of short numerals against the program's. No program is imported beyond BackP's. -/
import Derived.Test.YtcnkbhmhbbpmhaaDoorBackP
namespace Go.Proofs.YtcnkbhmhbbpmhaaDoor
open Go.RowKit
namespace Ad
def rOk (l : List UInt8) (d : Nat) : Bool := decide (1 ≤ l.length ∧ l.length ≤ d) && (!(decide (1 < l.length) && decide (l.headD 0 = 48)) && l.all isDig)
/-- the document's reader: -1 where there is no number -/
def rnum (l : List UInt8) (d : Nat) : Int := if rOk l d then (val l : Int) else -1
theorem rnum_no {l : List UInt8} {d : Nat} (h : rOk l d = false) : (-1 : Int) = rnum l d := by unfold rnum; rw [h]; rfl
theorem rnum_yes {l : List UInt8} {d : Nat} (h : rOk l d = true) : (val l : Int) = rnum l d := by unfold rnum; rw [h]; rfl
theorem rnum3 (l : List UInt8) : (numYes l 255 = true ∧ rnum l 3 = val l ∧ 0 ≤ rnum l 3 ∧ rnum l 3 ≤ 255) ∨ (numYes l 255 = false ∧ (rnum l 3 < 0 ∨ 255 < rnum l 3)) := by
  have e : numOk l = rOk l 3 := rfl
  unfold numYes
  rw [e]
  by_cases h : rOk l 3 = true
  · have e2 := rnum_yes h
    rw [h, ← e2]
    by_cases hv : (val l : Int) ≤ 255
    · exact .inl ⟨by simpa using hv, rfl, by omega, hv⟩
    · exact .inr ⟨by simpa using hv, .inr (by omega)⟩
  · have h' : rOk l 3 = false := by simpa using h
    have e2 := rnum_no h'
    rw [h', ← e2]
    exact .inr ⟨rfl, .inl (by omega)⟩
theorem long_big {l : List UInt8} (h : rOk l 3 = true) (hl : l.length = 3) : 100 ≤ val l := by
  match l, hl with
  | [a, b, c], _ =>
    unfold rOk isDig at h
    simp at h
    have ha : a.toNat ≠ 48 := fun e => h.1 (UInt8.toNat_inj.1 e)
    show 100 ≤ 10 * (10 * (10 * 0 + (a.toNat - 48)) + (b.toNat - 48)) + (c.toNat - 48)
    omega
theorem rOk_2 {l : List UInt8} (h : l.length ≠ 3) : rOk l 2 = rOk l 3 := by
  unfold rOk
  have : decide (1 ≤ l.length ∧ l.length ≤ 2) = decide (1 ≤ l.length ∧ l.length ≤ 3) := by
    rw [decide_eq_decide]; omega
  rw [this]
theorem rnum2 (l : List UInt8) : (numYes l 32 = true ∧ rnum l 2 = val l ∧ 0 ≤ rnum l 2 ∧ rnum l 2 ≤ 32) ∨ (numYes l 32 = false ∧ (rnum l 2 < 0 ∨ 32 < rnum l 2)) := by
  have e : numOk l = rOk l 3 := rfl
  unfold numYes
  rw [e]
  by_cases hl : l.length = 3
  · have h2 : rOk l 2 = false := by unfold rOk; simp [hl]
    refine .inr ⟨?_, .inl (by rw [← rnum_no h2]; omega)⟩
    by_cases h : rOk l 3 = true
    · have := long_big h hl
      rw [h]; simp; omega
    · have h' : rOk l 3 = false := by simpa using h
      rw [h']; rfl
  · have e3 := rOk_2 hl
    rw [← e3]
    by_cases h : rOk l 2 = true
    · have e2 := rnum_yes h
      rw [h, ← e2]
      by_cases hv : (val l : Int) ≤ 32
      · exact .inl ⟨by simpa using hv, rfl, by omega, hv⟩
      · exact .inr ⟨by simpa using hv, .inr (by omega)⟩
    · have h' : rOk l 2 = false := by simpa using h
      have e2 := rnum_no h'
      rw [h', ← e2]
      exact .inr ⟨rfl, .inl (by omega)⟩
/-- byte by byte: what has been gathered of the part, what is left, the address so far, how many parts -/
def scan : List UInt8 → List UInt8 → Int → Nat → Option Int
  | cur, [], a, p => if numYes cur 255 then (if p = 4 then none else if p + 1 = 4 then some (a * 256 + val cur) else none) else none
  | cur, c :: l, a, p => if c = 46 then (if numYes cur 255 then (if p = 4 then none else scan [] l (a * 256 + val cur) (p + 1)) else none) else scan (cur ++ [c]) l a p
/-- of the parts: n more are wanted -/
def fin : Nat → Int → List (List UInt8) → Option Int
  | 0, a, [] => some a
  | 0, _, _ :: _ => none
  | _ + 1, _, [] => none
  | n + 1, a, q :: qs => if numYes q 255 then fin n (a * 256 + val q) qs else none
theorem scan_four : ∀ (l cur : List UInt8) (a : Int), scan cur l a 4 = none
  | [], cur, a => by simp [scan]
  | c :: l, cur, a => by
    rw [scan, scan_four l]
    simp
theorem scan_fin : ∀ (l cur : List UInt8) (a : Int) (n : Nat), n < 4 → (∀ x ∈ cur, x ≠ 46) → scan cur l a (3 - n) = fin (n + 1) a (Lib.splitK [46] 0 (n + 1) (cur ++ l))
  | [], cur, a, n, hn, hc => by
    rw [List.append_nil, splitK_miss 46 _ _ hc, scan, fin]
    by_cases h0 : n = 0
    · subst h0; rfl
    · obtain ⟨m, rfl⟩ : ∃ m, n = m + 1 := ⟨n - 1, by omega⟩
      rw [if_neg (show ¬ (3 - (m + 1) = 4) by omega), if_neg (show ¬ (3 - (m + 1) + 1 = 4) by omega)]
      simp [fin]
  | c :: l, cur, a, n, hn, hc => by
    rw [scan]
    by_cases h46 : c = 46
    · subst h46
      rw [if_pos rfl, splitK_hit 46 n cur l hc, fin, if_neg (show ¬ (3 - n = 4) by omega)]
      by_cases h0 : n = 0
      · subst h0
        rw [show 3 - 0 + 1 = 4 from rfl, scan_four, Lib.splitK, fin]
      · obtain ⟨m, rfl⟩ : ∃ m, n = m + 1 := ⟨n - 1, by omega⟩
        have ih := scan_fin l [] (a * 256 + val cur) m (by omega) (by simp)
        rw [List.nil_append] at ih
        rw [show 3 - (m + 1) + 1 = 3 - m by omega, ih]
    · rw [if_neg h46]
      have ih := scan_fin l (cur ++ [c]) a n hn (fun x hx => by
        rw [List.mem_append] at hx
        rcases hx with hx | hx
        · exact hc x hx
        · have : x = c := by simpa using hx
          rw [this]; exact h46)
      rw [ih, List.append_assoc]; rfl
theorem splitK_more : ∀ (k : Nat) (s : List UInt8), s.length ≤ k → Lib.splitK [46] 0 k s = Lib.splitK [46] 0 (k + 1) s
  | 0, s, h => by
    have : s = [] := List.length_eq_zero_iff.1 (by omega)
    subst this
    rfl
  | k + 1, s, h => by
    rw [Lib.splitK, Lib.splitK]
    split
    · rfl
    · rename_i hm
      have hs : s ≠ [] := fun e => by subst e; exact hm rfl
      have h0 : 0 < s.length := List.length_pos_iff.2 hs
      have hl : (s.drop ((Lib.index s [46]).toNat + [(46 : UInt8)].length)).length ≤ k := by
        rw [List.length_drop, List.length_singleton]; omega
      rw [splitK_more k _ hl]
theorem splitK_4 (s : List UInt8) : Lib.splitK [46] 0 (min 5 (s.length + 1) - 1) s = Lib.splitK [46] 0 4 s := by
  by_cases h : 4 ≤ s.length
  · rw [show min 5 (s.length + 1) - 1 = 4 by omega]
  · rw [show min 5 (s.length + 1) - 1 = s.length by omega]
    have step : ∀ j, s.length ≤ j → j ≤ 4 → Lib.splitK [46] 0 s.length s = Lib.splitK [46] 0 j s := by
      intro j
      induction j with
      | zero => intro h1 _; rw [show s.length = 0 by omega]
      | succ j ih =>
        intro h1 h2
        by_cases hj : s.length ≤ j
        · rw [ih hj (by omega), splitK_more j s hj]
        · rw [show s.length = j + 1 by omega]
    exact step 4 (by omega) (by omega)
theorem parseL_fin (ps : List ByteArray) : parseL ps = fin 4 0 (ps.map (·.data.toList)) := by
  match ps with
  | [] => rfl
  | [a] => simp [fin]; rfl
  | [a, b] => simp [fin]; rfl
  | [a, b, c] => simp [fin]; rfl
  | [a, b, c, d] =>
    rw [parseL_if]
    simp only [List.map_cons, List.map_nil, fin]
    unfold byteYes byteV
    by_cases ha : numYes a.data.toList 255 = true
    · by_cases hb : numYes b.data.toList 255 = true
      · by_cases hc : numYes c.data.toList 255 = true
        · by_cases hd : numYes d.data.toList 255 = true
          · simp only [ha, hb, hc, hd, Bool.and_self, if_true]
            exact congrArg some (by omega)
          · simp [hd]
        · simp [hc]
      · simp [hb]
    · simp [ha]
  | a :: b :: c :: d :: e :: l => simp [fin]; rfl
theorem scan_parse (s : ByteArray) : scan [] s.data.toList 0 0 = parse s := by
  have h := scan_fin s.data.toList [] 0 3 (by omega) (by simp)
  rw [List.nil_append] at h
  have h2 : scan [] s.data.toList 0 0 = fin 4 0 (Lib.splitK [46] 0 4 s.data.toList) := h
  rw [h2]
  unfold parse parts
  rw [parseL_fin, Lib.splitB_data, show (⟨#[46]⟩ : ByteArray).data.toList = [46] from rfl, Lib.size_eq s, splitK_4]
/-- where the reader stands: at k, its part from f on -/
def stand (s : ByteArray) (f k : Nat) (a : Int) (p : Nat) : Option Int :=
  if k ≤ s.size then scan (s.extract f k).data.toList (s.data.toList.drop k) a p else if p = 4 then some a else none
theorem stand_start (s : ByteArray) : stand s 0 0 0 0 = parse s := by
  unfold stand
  rw [if_pos (Nat.zero_le _), Lib.extract_data, ← scan_parse]
  rfl
theorem drop_at (s : ByteArray) (k : Nat) (h : k < s.size) : s.data.toList.drop k = s[k] :: s.data.toList.drop (k + 1) := by
  rw [List.drop_eq_getElem_cons (by rw [← Lib.size_eq]; exact h)]
  rfl
theorem cur_next (s : ByteArray) (f k : Nat) (hf : f ≤ k) (h : k < s.size) : (s.extract f (k + 1)).data.toList = (s.extract f k).data.toList ++ [s[k]] := by
  have hl : s.data.toList.length = s.size := (Lib.size_eq s).symm
  rw [Lib.extract_data, Lib.extract_data, show k + 1 - f = (k - f) + 1 by omega, List.take_succ_eq_append_getElem (by rw [List.length_drop]; omega), List.getElem_drop]
  congr 2
  show s.data.toList[f + (k - f)] = s.data.toList[k]
  congr 1; omega
theorem stand_next (s : ByteArray) (f k : Nat) (a : Int) (p : Nat) (hf : f ≤ k) (h : k < s.size) (hn : s[k] ≠ 46) : stand s f (k + 1) a p = stand s f k a p := by
  unfold stand
  rw [if_pos (by omega), if_pos (by omega), drop_at s k h, scan, if_neg hn, cur_next s f k hf h]
theorem empty_at (s : ByteArray) (k : Nat) : (s.extract k k).data.toList = [] := by rw [Lib.extract_data, Nat.sub_self]; rfl
/-- a part ends at k: at a point, or at the end -/
theorem stand_no (s : ByteArray) (f k : Nat) (a : Int) (p : Nat) (hk : k ≤ s.size) (he : ∀ h : k < s.size, s[k] = 46) (hn : numYes (s.extract f k).data.toList 255 = false) : stand s f k a p = none := by
  unfold stand
  rw [if_pos hk]
  by_cases h : k < s.size
  · rw [drop_at s k h, scan, if_pos (he h), hn]; rfl
  · rw [List.drop_of_length_le (by rw [← Lib.size_eq]; omega), scan, hn]; rfl
theorem stand_four (s : ByteArray) (f k : Nat) (a : Int) (hk : k ≤ s.size) : stand s f k a 4 = none := by
  unfold stand
  rw [if_pos hk, scan_four]
theorem stand_yes (s : ByteArray) (f k : Nat) (a : Int) (p : Nat) (hk : k ≤ s.size) (he : ∀ h : k < s.size, s[k] = 46) (hy : numYes (s.extract f k).data.toList 255 = true) (hp : p ≠ 4) :
    stand s (k + 1) (k + 1) (a * 256 + val (s.extract f k).data.toList) (p + 1) = stand s f k a p := by
  unfold stand
  rw [if_pos hk]
  by_cases h : k < s.size
  · rw [if_pos (by omega), empty_at, drop_at s k h, scan, if_pos (he h), if_pos hy, if_neg hp]
  · rw [if_neg (by omega), List.drop_of_length_le (by rw [← Lib.size_eq]; omega), scan, if_pos hy, if_neg hp]
theorem stand_end (s : ByteArray) (f k : Nat) (a : Int) (p : Nat) (hk : s.size < k) : stand s f k a p = if p = 4 then some a else none := by
  unfold stand
  rw [if_neg (by omega)]
theorem step_bd (p : Nat) (hp : p < 4) (a n : Int) (h0 : 0 ≤ a) (h1 : a < 256 ^ p) (n0 : 0 ≤ n) (n1 : n ≤ 255) : a ≤ 16777215 ∧ 0 ≤ a * 256 + n ∧ a * 256 + n < 256 ^ (p + 1) := by
  have hp' : p = 0 ∨ p = 1 ∨ p = 2 ∨ p = 3 := by omega
  rcases hp' with rfl | rfl | rfl | rfl <;> simp at h1 ⊢ <;> omega
theorem join8 (a n : Int) (h0 : 0 ≤ a) (h1 : a ≤ 16777215) (n0 : 0 ≤ n) (n1 : n ≤ 255) : bits .or .u32 (a * 256 % 4294967296) n = a * 256 + n := by
  rw [show a * 256 % 4294967296 = a * 256 by omega]
  exact or_join _ _ 8 (by omega) (by omega) (by omega) (by omega) (by omega) (by omega)
theorem take_no_next (s : ByteArray) (k : Nat) (h : k < s.size) (hn : ∀ x ∈ s.data.toList.take k, x ≠ 47) (hk : s[k] ≠ 47) : ∀ x ∈ s.data.toList.take (k + 1), x ≠ 47 := by
  intro x hx
  rw [List.take_succ_eq_append_getElem (by rw [← Lib.size_eq]; exact h), List.mem_append] at hx
  rcases hx with hx | hx
  · exact hn x hx
  · have : x = s[k] := List.mem_singleton.1 hx
    rw [this]; exact hk
theorem cut_at (s : ByteArray) (k : Nat) (h : k < s.size) (hn : ∀ x ∈ s.data.toList.take k, x ≠ 47) (hk : s[k] = 47) : cut1 s = s.extract 0 k ∧ cut2 s = s.extract (k + 1) s.size := by
  have e : s.data.toList = s.data.toList.take k ++ 47 :: s.data.toList.drop (k + 1) := by
    have h1 := drop_at s k h
    rw [hk] at h1
    rw [← h1, List.take_append_drop]
  have e2 : Lib.cut s.data.toList [47] = (s.data.toList.take k, s.data.toList.drop (k + 1), true) := by
    rw [e, cut_hit 47 _ _ hn, ← e]
  unfold cut1 cut2
  rw [e2]
  refine ⟨(bytes_of_list ?_).symm, (bytes_of_list ?_).symm⟩
  · rw [Lib.extract_data]; simp
  · rw [Lib.extract_to_end]
theorem pref_miss (s : ByteArray) (hn : ∀ x ∈ s.data.toList, x ≠ 47) : pref s = none := by
  have e2 : (cut2 s).data.toList = [] := by unfold cut2; rw [cut_miss 47 _ hn]
  unfold pref
  cases parse (cut1 s) with
  | none => rfl
  | some a =>
    show (if numYes (cut2 s).data.toList 32 && valid a (val (cut2 s).data.toList) then some (a, (val (cut2 s).data.toList : Int)) else none) = none
    rw [e2]; rfl
theorem pref_no (s : ByteArray) (h : parse (cut1 s) = none) : pref s = none := by unfold pref; rw [h]; rfl
theorem pref_out (s : ByteArray) (a : Int) (_h : parse (cut1 s) = some a) (h2 : numYes (cut2 s).data.toList 32 = false) : pref s = none := by
  unfold pref; rw [_h]
  show (if numYes (cut2 s).data.toList 32 && valid a (val (cut2 s).data.toList) then some (a, (val (cut2 s).data.toList : Int)) else none) = none
  rw [h2]; rfl
theorem pref_bad (s : ByteArray) (a : Int) (h : parse (cut1 s) = some a) (h2 : valid a (val (cut2 s).data.toList) = false) : pref s = none := by
  unfold pref; rw [h]
  show (if numYes (cut2 s).data.toList 32 && valid a (val (cut2 s).data.toList) then some (a, (val (cut2 s).data.toList : Int)) else none) = none
  rw [h2, Bool.and_false]; rfl
theorem pref_yes (s : ByteArray) (a : Int) (h : parse (cut1 s) = some a) (h1 : numYes (cut2 s).data.toList 32 = true) (h2 : valid a (val (cut2 s).data.toList) = true) : pref s = some (a, (val (cut2 s).data.toList : Int)) := by
  unfold pref; rw [h]
  show (if numYes (cut2 s).data.toList 32 && valid a (val (cut2 s).data.toList) then some (a, (val (cut2 s).data.toList : Int)) else none) = _
  rw [h1, h2]; rfl
end Ad
end Go.Proofs.YtcnkbhmhbbpmhaaDoor
