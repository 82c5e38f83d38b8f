/- Plain facts on lines and words: splitting a text, cutting its notes off and splitting by the runes between words gives what one pass over its bytes gives. No program is imported. A slice of texts that reads as a list, a slice of lines that reads as lines; what the call owns reads so. No program is imported. -/
import Derived.Test.YtbeoalmcibnpaaaGreatDoorKit
import Derived.Lib.FieldsP
import Derived.Lib.SplitLaws
import Derived.Test.YtbeoalmcibnpaaaGreatDoorAs
namespace Go.Proofs.YtbeoalmcibnpaaaGreatDoor
namespace Lx
def sep (c : UInt8) : Bool := c.toNat == 32 || c.toNat == 9 || c.toNat == 13
def sepR (r : Nat) : Bool := r == 32 || r == 9 || r == 13
/-- the words behind what has been gathered of one, byte by byte -/
def scan : List UInt8 → List UInt8 → List (List UInt8)
  | cur, [] => if cur = [] then [] else [cur]
  | cur, c :: l => if sep c then (if cur = [] then scan [] l else cur :: scan [] l) else scan (cur ++ [c]) l
def words (l : List UInt8) : List (List UInt8) := scan [] l
theorem scan_run (r : List UInt8) : ∀ (bs cur : List UInt8), (∀ x ∈ bs, sep x = false) → scan cur (bs ++ r) = scan (cur ++ bs) r
  | [], cur, _ => by simp
  | b :: bs, cur, h => by
    rw [List.cons_append, scan, h b (by simp)]
    simp only [Bool.false_eq_true, if_false]
    rw [scan_run r bs _ (fun x hx => h x (by simp [hx])), List.append_assoc, List.singleton_append]
theorem dec_big (n b0 b1 b2 b3 : Nat) (h : 128 ≤ b0) : 128 ≤ (Lib.decodeN n b0 b1 b2 b3).1 := by
  unfold Lib.decodeN
  repeat' split
  all_goals (simp only; omega)
theorem dec_wide (n b0 b1 b2 b3 : Nat) : (Lib.decodeN n b0 b1 b2 b3).2 ≤ 4 ∧ (1 < (Lib.decodeN n b0 b1 b2 b3).2 → b1 / 64 = 2) ∧ (2 < (Lib.decodeN n b0 b1 b2 b3).2 → b2 / 64 = 2) ∧ (3 < (Lib.decodeN n b0 b1 b2 b3).2 → b3 / 64 = 2) := by
  unfold Lib.decodeN
  repeat' split
  all_goals (simp only; omega)
theorem sep_low {c : UInt8} (h : 128 ≤ c.toNat) : sep c = false := by
  unfold sep; simp; omega
/-- a rune that stands in a word: so do its bytes -/
theorem rune_out (l : List UInt8) (n : Nat) (x0 : UInt8) (h0 : l[0]? = some x0) (hr : sepR (Lib.decodeN n (l.getD 0 0).toNat (l.getD 1 0).toNat (l.getD 2 0).toNat (l.getD 3 0).toNat).1 = false) :
    ∀ x ∈ l.take (Lib.decodeN n (l.getD 0 0).toNat (l.getD 1 0).toNat (l.getD 2 0).toNat (l.getD 3 0).toNat).2, sep x = false := by
  have hd : l.getD 0 0 = x0 := by simp [List.getD, h0]
  rw [hd] at hr ⊢
  intro x hx
  by_cases hb : x0.toNat < 128
  · rw [Lib.decodeN_ascii _ _ _ _ _ hb] at hr hx
    match l, h0 with
    | y :: l, h0 =>
      simp at h0 hx
      subst h0 hx
      exact hr
  · obtain ⟨w4, w1, w2, w3⟩ := dec_wide n x0.toNat (l.getD 1 0).toNat (l.getD 2 0).toNat (l.getD 3 0).toNat
    obtain ⟨i, hi, rfl⟩ := List.mem_iff_getElem.1 hx
    rw [List.length_take] at hi
    rw [List.getElem_take]
    have hg : l[i]'(by omega) = l.getD i 0 := by simp [List.getD, List.getElem?_eq_getElem (show i < l.length by omega)]
    rw [hg]
    apply sep_low
    have hi4 : i = 0 ∨ i = 1 ∨ i = 2 ∨ i = 3 := by omega
    rcases hi4 with rfl | rfl | rfl | rfl
    · rw [hd]; omega
    · have := w1 (by omega); omega
    · have := w2 (by omega); omega
    · have := w3 (by omega); omega
theorem rune_in (l : List UInt8) (n : Nat) (x0 : UInt8) (h0 : l[0]? = some x0) (hr : sepR (Lib.decodeN n (l.getD 0 0).toNat (l.getD 1 0).toNat (l.getD 2 0).toNat (l.getD 3 0).toNat).1 = true) :
    (Lib.decodeN n (l.getD 0 0).toNat (l.getD 1 0).toNat (l.getD 2 0).toNat (l.getD 3 0).toNat).2 = 1 ∧ sep x0 = true := by
  have hd : l.getD 0 0 = x0 := by simp [List.getD, h0]
  rw [hd] at hr ⊢
  by_cases hb : x0.toNat < 128
  · rw [Lib.decodeN_ascii _ _ _ _ _ hb] at hr ⊢
    exact ⟨rfl, hr⟩
  · have := dec_big n x0.toNat (l.getD 1 0).toNat (l.getD 2 0).toNat (l.getD 3 0).toNat (by omega)
    generalize (Lib.decodeN n x0.toNat (l.getD 1 0).toNat (l.getD 2 0).toNat (l.getD 3 0).toNat).1 = r at *
    unfold sepR at hr
    simp at hr
    omega
theorem spans_scan (s : ByteArray) : ∀ (f pos : Nat) (st : Option Nat) (acc : List (Nat × Nat)), s.size ≤ pos + f → pos ≤ s.size → (∀ a, st = some a → a < pos) →
    acc.map (fun p => Lib.pieceU s.data.toList p.1 p.2) ++ scan (Lib.openPiece s.data.toList st pos) (s.data.toList.drop pos) = (Lib.closeSpans s (Lib.spansFromP sepR s f pos st acc)).map (fun p => Lib.pieceU s.data.toList p.1 p.2) := by
  have hend : ∀ (f : Nat) (st : Option Nat) (acc : List (Nat × Nat)), (∀ a, st = some a → a < s.size) →
      acc.map (fun p => Lib.pieceU s.data.toList p.1 p.2) ++ scan (Lib.openPiece s.data.toList st s.size) (s.data.toList.drop s.size) = (Lib.closeSpans s (Lib.spansFromP sepR s f s.size st acc)).map (fun p => Lib.pieceU s.data.toList p.1 p.2) := by
    intro f st acc hst
    have hd : s.data.toList.drop s.size = [] := List.drop_eq_nil_of_le (by rw [← Lib.size_eq]; exact Nat.le_refl _)
    rw [hd, scan, Lib.spansFromP_end _ _ _ _ _ _ (by omega)]
    cases st with
    | none => simp [Lib.closeSpans, Lib.openPiece]
    | some a =>
      have := Lib.pieceU_ne s.data.toList a s.size (hst a rfl) (by rw [← Lib.size_eq]; exact Nat.le_refl _)
      simp [Lib.closeSpans, Lib.openPiece, this]
  intro f
  induction f with
  | zero =>
    intro pos st acc h hp hst
    obtain rfl : pos = s.size := by omega
    exact hend 0 st acc hst
  | succ f ih =>
    intro pos st acc h hp hst
    by_cases hlt : pos < s.size
    · have hl : pos < s.data.toList.length := by rw [← Lib.size_eq]; exact hlt
      have hw := Lib.width_pos s pos
      have hwn : pos + (Utf8.decode s pos).2 ≤ s.size := by
        have := Lib.decodeN_le_n' (s.size - pos) (s.get! pos).toNat (s.get! (pos + 1)).toNat (s.get! (pos + 2)).toNat (s.get! (pos + 3)).toNat (by omega)
        rw [← Lib.decode_at] at this
        omega
      have hde : Utf8.decode s pos = Lib.decodeN (s.data.toList.length - pos) ((s.data.toList.drop pos).getD 0 0).toNat ((s.data.toList.drop pos).getD 1 0).toNat ((s.data.toList.drop pos).getD 2 0).toNat ((s.data.toList.drop pos).getD 3 0).toNat := by
        rw [Lib.decode_N, Lib.getD_dropU, Lib.getD_dropU, Lib.getD_dropU, Lib.getD_dropU, Nat.add_zero pos]
      have h0 : (s.data.toList.drop pos)[0]? = some (s.data.toList[pos]'hl) := by rw [List.getElem?_drop]; simp [List.getElem?_eq_getElem hl]
      have hsplit : s.data.toList.drop pos = (s.data.toList.drop pos).take (Utf8.decode s pos).2 ++ s.data.toList.drop (pos + (Utf8.decode s pos).2) := by
        rw [← List.drop_drop, List.take_append_drop]
      simp only [Lib.spansFromP, if_pos hlt]
      cases hsp : sepR (Utf8.decode s pos).1 with
      | true =>
        obtain ⟨h1, hs⟩ := rune_in _ _ _ h0 (by rw [← hde]; exact hsp)
        rw [← hde] at h1
        rw [h1] at hwn ⊢
        have hcons : s.data.toList.drop pos = s.data.toList[pos]'hl :: s.data.toList.drop (pos + 1) := List.drop_eq_getElem_cons hl
        rw [hcons, scan, hs]
        simp only [if_true]
        cases st with
        | none =>
          have := ih (pos + 1) none acc (by omega) hwn (fun a h => by cases h)
          simpa [Lib.openPiece] using this
        | some a =>
          have hpn := Lib.pieceU_ne s.data.toList a pos (hst a rfl) (by rw [← Lib.size_eq]; omega)
          have := ih (pos + 1) none (acc ++ [(a, pos)]) (by omega) hwn (fun a h => by cases h)
          simpa [Lib.openPiece, hpn] using this
      | false =>
        have ho := rune_out _ _ _ h0 (by rw [← hde]; exact hsp)
        rw [← hde] at ho
        rw [hsplit, scan_run _ _ _ ho]
        simp only [Bool.false_eq_true, if_false]
        cases st with
        | none =>
          have := ih (pos + (Utf8.decode s pos).2) (some pos) acc (by omega) hwn (fun a h => by cases h; omega)
          have e : ([] : List UInt8) ++ (s.data.toList.drop pos).take (Utf8.decode s pos).2 = Lib.pieceU s.data.toList pos (pos + (Utf8.decode s pos).2) := by
            unfold Lib.pieceU
            rw [List.nil_append, Nat.add_sub_cancel_left]
          simp only [Lib.openPiece] at this ⊢
          rw [e]
          exact this
        | some a =>
          have := ih (pos + (Utf8.decode s pos).2) (some a) acc (by omega) hwn (fun b h => by cases h; have := hst a rfl; omega)
          simp only [Lib.openPiece] at this ⊢
          rw [Lib.pieceU_grow _ _ _ _ (Nat.le_of_lt (hst a rfl))]
          exact this
    · obtain rfl : pos = s.size := by omega
      exact hend (f + 1) st acc hst
/-- what splits a text at the runes between words gives its words -/
theorem goFields_words (s : ByteArray) : (Lib.goFieldsP sepR s).map (·.data.toList) = words s.data.toList := by
  have h := spans_scan s s.size 0 none [] (by omega) (Nat.zero_le _) (fun a h => by cases h)
  simp only [List.map_nil, List.nil_append, Lib.openPiece, List.drop_zero] at h
  unfold words Lib.goFieldsP Lib.spansOfP
  rw [h, List.map_map]
  congr 1
  funext p
  simp [Lib.pieceU]
/-- a text's lines -/
def nl : List UInt8 → List (List UInt8)
  | [] => [[]]
  | c :: l => if c = 10 then [] :: nl l else match nl l with | p :: ps => (c :: p) :: ps | [] => [[c]]
theorem nl_cons (l : List UInt8) : ∃ p ps, nl l = p :: ps := by
  cases l with
  | nil => exact ⟨_, _, rfl⟩
  | cons c l =>
    unfold nl
    split
    · exact ⟨_, _, rfl⟩
    · split
      · exact ⟨_, _, rfl⟩
      · exact ⟨_, _, rfl⟩
theorem nl_hit (r : List UInt8) : ∀ a : List UInt8, (∀ x ∈ a, x ≠ 10) → nl (a ++ 10 :: r) = a :: nl r
  | [], _ => by simp [nl]
  | b :: a, h => by
    rw [List.cons_append, nl, if_neg (h b (by simp)), nl_hit r a (fun x hx => h x (by simp [hx]))]
theorem nl_miss : ∀ a : List UInt8, (∀ x ∈ a, x ≠ 10) → nl a = [a]
  | [], _ => rfl
  | b :: a, h => by
    rw [nl, if_neg (h b (by simp)), nl_miss a (fun x hx => h x (by simp [hx]))]
theorem idx_hit (c : UInt8) (r : List UInt8) : ∀ l : List UInt8, (∀ x ∈ l, x ≠ c) → Lib.index (l ++ c :: r) [c] = l.length
  | [], _ => by simp [Lib.index]
  | b :: l, h => by
    have hb : ¬ c = b := fun e => h b (by simp) e.symm
    have ih := idx_hit c r l (fun x hx => h x (by simp [hx]))
    rw [List.cons_append, Lib.index, ih]
    simp [hb]
theorem idx_miss (c : UInt8) : ∀ l : List UInt8, (∀ x ∈ l, x ≠ c) → Lib.index l [c] = -1
  | [], _ => by simp [Lib.index]
  | b :: l, h => by
    have hb : ¬ c = b := fun e => h b (by simp) e.symm
    have ih := idx_miss c l (fun x hx => h x (by simp [hx]))
    rw [Lib.index, ih]
    simp [hb]
theorem splitK_hit (c : UInt8) (k : Nat) (l r : List UInt8) (h : ∀ x ∈ l, x ≠ c) : Lib.splitK [c] 0 (k + 1) (l ++ c :: r) = l :: Lib.splitK [c] 0 k r := by
  have hne : ¬ (((l.length : Nat) : Int) == -1) = true := by simp
  rw [Lib.splitK, idx_hit c r l h, if_neg hne]
  simp
theorem splitK_miss (c : UInt8) (k : Nat) (l : List UInt8) (h : ∀ x ∈ l, x ≠ c) : Lib.splitK [c] 0 k l = [l] := by
  cases k with
  | zero => rfl
  | succ k => simp [Lib.splitK, idx_miss c l h]
/-- a byte's first place in a list, or none -/
theorem at_first (c : UInt8) : ∀ l : List UInt8, (∀ x ∈ l, x ≠ c) ∨ ∃ a r, l = a ++ c :: r ∧ ∀ x ∈ a, x ≠ c
  | [] => .inl (by simp)
  | b :: l => by
    by_cases hb : b = c
    · exact .inr ⟨[], l, by simp [hb], by simp⟩
    · rcases at_first c l with h | ⟨a, r, rfl, h⟩
      · exact .inl (by intro x hx; rcases List.mem_cons.1 hx with rfl | hx; exact hb; exact h x hx)
      · exact .inr ⟨b :: a, r, rfl, by intro x hx; rcases List.mem_cons.1 hx with rfl | hx; exact hb; exact h x hx⟩
theorem split_nl : ∀ (k : Nat) (l : List UInt8), l.count 10 = k → Lib.splitK [10] 0 k l = nl l
  | 0, l, h => by
    have h2 : ∀ x ∈ l, x ≠ 10 := by
      rw [List.count_eq_zero] at h
      rintro x hx rfl
      exact h hx
    rw [nl_miss l h2]; rfl
  | k + 1, l, h => by
    rcases at_first 10 l with h2 | ⟨a, r, rfl, h2⟩
    · have : l.count 10 = 0 := by
        rw [List.count_eq_zero]
        intro hx
        exact h2 10 hx rfl
      omega
    · have h3 : a.count 10 = 0 := by
        rw [List.count_eq_zero]
        intro hx
        exact h2 10 hx rfl
      rw [splitK_hit 10 k a r h2, nl_hit r a h2, split_nl k r (by rw [List.count_append, List.count_cons_self, h3] at h; omega)]
/-- a line without its note -/
def bare : List UInt8 → List UInt8
  | [] => []
  | c :: l => if c = 35 then [] else c :: bare l
theorem bare_hit (r : List UInt8) : ∀ a : List UInt8, (∀ x ∈ a, x ≠ 35) → bare (a ++ 35 :: r) = a
  | [], _ => by simp [bare]
  | b :: a, h => by
    rw [List.cons_append, bare, if_neg (h b (by simp)), bare_hit r a (fun x hx => h x (by simp [hx]))]
theorem bare_miss : ∀ a : List UInt8, (∀ x ∈ a, x ≠ 35) → bare a = a
  | [], _ => rfl
  | b :: a, h => by
    rw [bare, if_neg (h b (by simp)), bare_miss a (fun x hx => h x (by simp [hx]))]
theorem cut_bare (l : List UInt8) : (Lib.cut l [35]).1 = bare l := by
  unfold Lib.cut
  rcases at_first 35 l with h | ⟨a, r, rfl, h⟩
  · rw [idx_miss 35 l h, if_neg (by omega), bare_miss l h]
  · rw [idx_hit 35 r a h, if_pos (by omega), bare_hit r a h]
    simp
theorem bare_len : ∀ l : List UInt8, (bare l).length ≤ l.length
  | [] => Nat.le_refl _
  | c :: l => by
    have := bare_len l
    unfold bare
    split
    · simp
    · simpa using this
/-- what a line gives -/
def row (no : Nat) (p : List UInt8) : List (Nat × List (List UInt8)) := if words (bare p) = [] then [] else [(no, words (bare p))]
def rows : Nat → List (List UInt8) → List (Nat × List (List UInt8))
  | _, [] => []
  | no, p :: ps => row no p ++ rows (no + 1) ps
/-- a text's lines that have words -/
def lines (l : List UInt8) : List (Nat × List (List UInt8)) := rows 1 (nl l)
theorem rows_snoc : ∀ (ps : List (List UInt8)) (no : Nat) (q : List UInt8), rows no (ps ++ [q]) = rows no ps ++ row (no + ps.length) q
  | [], no, q => by simp [rows]
  | p :: ps, no, q => by
    rw [List.cons_append, rows, rows, rows_snoc ps, List.append_assoc, List.length_cons, show no + 1 + ps.length = no + (ps.length + 1) by omega]
/-- byte by byte -/
def push (ws : List (List UInt8)) (wd : List UInt8) : List (List UInt8) := if wd = [] then ws else ws ++ [wd]
def fin (no : Nat) (ws : List (List UInt8)) : List (Nat × List (List UInt8)) := if ws = [] then [] else [(no, ws)]
def mach : Nat → List (List UInt8) → List UInt8 → Bool → List UInt8 → List (Nat × List (List UInt8))
  | no, ws, wd, _, [] => fin no (push ws wd)
  | no, ws, wd, note, c :: l =>
    if c = 10 then fin no (push ws wd) ++ mach (no + 1) [] [] false l
    else if (note || decide (c = 35)) || sep c then mach no (push ws wd) [] (note || decide (c = 35)) l
    else mach no ws (wd ++ [c]) note l
theorem scan_nil (ws : List (List UInt8)) (wd : List UInt8) : ws ++ scan wd [] = push ws wd := by
  unfold scan push
  split <;> simp
theorem mach_nl : ∀ (l p : List UInt8) (ps : List (List UInt8)) (no : Nat) (ws : List (List UInt8)) (wd : List UInt8), nl l = p :: ps →
    mach no ws wd false l = fin no (ws ++ scan wd (bare p)) ++ rows (no + 1) ps ∧ mach no ws [] true l = fin no ws ++ rows (no + 1) ps
  | [], p, ps, no, ws, wd, h => by
    simp [nl] at h
    obtain ⟨rfl, rfl⟩ := h
    simp [mach, bare, scan_nil, rows, push]
  | c :: l, p, ps, no, ws, wd, h => by
    obtain ⟨q, qs, hq⟩ := nl_cons l
    rw [nl, hq] at h
    by_cases h10 : c = 10
    · rw [if_pos h10] at h
      injection h with h1 h2
      subst h1 h2
      obtain ⟨i1, _⟩ := mach_nl l q qs (no + 1) [] [] hq
      simp only [mach, if_pos h10, i1, rows, bare, scan_nil, List.nil_append]
      have e : fin (no + 1) (scan [] (bare q)) = row (no + 1) q := rfl
      rw [e]
      refine ⟨rfl, ?_⟩
      simp [push]
    · rw [if_neg h10] at h
      injection h with h1 h2
      subst h1 h2
      simp only [mach, if_neg h10]
      constructor
      · by_cases h35 : c = 35
        · obtain ⟨_, i2⟩ := mach_nl l q qs no (push ws wd) [] hq
          simp only [h35, decide_true, Bool.or_true, Bool.true_or, if_true, i2, bare, scan_nil]
        · cases hs : sep c with
          | true =>
            obtain ⟨i1, _⟩ := mach_nl l q qs no (push ws wd) [] hq
            simp only [h35, decide_false, Bool.or_false, Bool.false_or, if_true, i1, bare, if_false, scan, hs]
            unfold push
            split <;> simp
          | false =>
            obtain ⟨i1, _⟩ := mach_nl l q qs no ws (wd ++ [c]) hq
            simp only [h35, decide_false, Bool.or_false, if_false, i1, bare, scan, hs, Bool.false_eq_true]
      · obtain ⟨_, i2⟩ := mach_nl l q qs no ws [] hq
        have e : push ws [] = ws := by simp [push]
        simp only [Bool.true_or, if_true, e, i2]
theorem mach_lines (l : List UInt8) : mach 1 [] [] false l = lines l := by
  obtain ⟨q, qs, hq⟩ := nl_cons l
  rw [(mach_nl l q qs 1 [] [] hq).1, lines, hq]
  rfl
end Lx
end Go.Proofs.YtbeoalmcibnpaaaGreatDoor
namespace Go.Proofs.YtbeoalmcibnpaaaGreatDoor
open Go.RowKit
namespace Lx
def str (l : List UInt8) : ByteArray := ⟨l.toArray⟩
def VS (ws : List (List UInt8)) : List Value := ws.map fun l => .string (str l)
theorem VS_len (ws : List (List UInt8)) : (VS ws).length = ws.length := by simp [VS]
theorem VS_app (xs ys : List (List UInt8)) : VS (xs ++ ys) = VS xs ++ VS ys := by simp [VS]
theorem VS_at {ws : List (List UInt8)} {i : Nat} (h : i < ws.length) : (VS ws)[i]? = some (.string (str (ws.getD i []))) := by
  simp [VS, List.getD, List.getElem?_eq_getElem h]
theorem str_list (s : ByteArray) : str s.data.toList = s := by simp [str]
theorem str_data (l : List UInt8) : (str l).data.toList = l := by simp [str]
theorem str_inj {a b : List UInt8} (h : str a = str b) : a = b := by rw [← str_data a, h, str_data]
theorem str_size (l : List UInt8) : (str l).size = l.length := by rw [Lib.size_eq, str_data]
end Lx
open Lx
/-- a slice of texts -/
def SR (w : World) (A : Option Addr) (n : Nat) (ws : List (List UInt8)) : Prop :=
  ws.length = n ∧ (0 < n → ∃ b o, A = some ⟨b, o, none⟩ ∧ b < w.heap.size ∧ ∀ i, i < n → w.cell? ⟨b, o + i, none⟩ = some (.string (str (ws.getD i []))))
section
variable {w w' : World} {A : Option Addr} {n : Nat} {ws : List (List UInt8)}
theorem SR.none_ (w : World) (A : Option Addr) : SR w A 0 [] := ⟨rfl, fun h => absurd h (by omega)⟩
theorem SR.len (h : SR w A n ws) : ws.length = n := h.1
theorem SR.next (h : SR w A n ws) (hb : Below w.heap.size w w') : SR w' A n ws :=
  ⟨h.1, fun hn => by
    obtain ⟨b, o, e, hlt, hc⟩ := h.2 hn
    exact ⟨b, o, e, Nat.lt_of_lt_of_le hlt hb.size, fun i hi => (hb.cell (p := ⟨b, o + i, none⟩) hlt).trans (hc i hi)⟩⟩
theorem SR.at_ {k : Nat} (h : SR w A n ws) (hk : k < n) : ∃ b o, A = some ⟨b, o, none⟩ ∧ b < w.heap.size ∧ w.cell? ⟨b, o + k, none⟩ = some (.string (str (ws.getD k []))) := by
  obtain ⟨b, o, e, hlt, hc⟩ := h.2 (by omega)
  exact ⟨b, o, e, hlt, hc k hk⟩
theorem own_strs {base : Nat} {e : TypeId} {v : Value} (h : w.ownsRow base e 1 v n (VS ws)) : ∃ A c, v = .slice A n c ∧ n ≤ c ∧ SR w A n ws := by
  have hl : ws.length = n := by have := h.1; rw [VS_len] at this; omega
  have h0 := h
  rcases h.2 with ⟨rfl, rfl⟩ | ⟨g, cap, cur, rfl, hbg, hh, hnc, _⟩
  · obtain rfl : ws = [] := List.eq_nil_of_length_eq_zero hl
    exact ⟨none, 0, rfl, Nat.le_refl _, SR.none_ _ _⟩
  · have hlt : g < w.heap.size := (Array.getElem?_eq_some_iff.1 hh).1
    refine ⟨_, cap, rfl, hnc, hl, fun _ => ⟨g, 0, rfl, hlt, fun i hi => ?_⟩⟩
    rw [Nat.zero_add, h0.cellAt i (by omega)]
    exact VS_at (by omega)
theorem own_slice {base : Nat} {e : TypeId} {k : Nat} {v : Value} {xs : List Value} (h : w.ownsRow base e k v n xs) : ∃ A c, v = .slice A n c ∧ n ≤ c ∧ (0 < n → ∃ g, A = some ⟨g, 0, none⟩ ∧ base ≤ g ∧ g < w.heap.size) := by
  rcases h.2 with ⟨rfl, rfl⟩ | ⟨g, cap, cur, rfl, hbg, hh, hnc, _⟩
  · exact ⟨none, 0, rfl, Nat.le_refl _, fun h => absurd h (by omega)⟩
  · exact ⟨_, cap, rfl, hnc, fun _ => ⟨g, rfl, hbg, (Array.getElem?_eq_some_iff.1 hh).1⟩⟩
end
theorem own_nextk {w w' : World} {base k n : Nat} {e : TypeId} {v : Value} {ys : List Value} (h : w.ownsRow base e k v n ys) (hb : Below w.heap.size w w') : w'.ownsRow base e k v n ys := by
  refine ⟨h.1, ?_⟩
  rcases h.2 with hn | ⟨g, cap, cur, rfl, hbg, hh, rest⟩
  · exact .inl hn
  · exact .inr ⟨g, cap, cur, rfl, hbg, (hb.block g (Array.getElem?_eq_some_iff.1 hh).1).trans hh, rest⟩
/-- the cells of lines: each one's number, and its words, which lie in rows of their own -/
def LC (w : World) (tS : TypeId) : List (Nat × List (List UInt8)) → List Value → Prop
  | [], cs => cs = []
  | (no, ws) :: L, cs => ∃ v cs', cs = .int .i64 (no : Int) :: v :: cs' ∧ w.ownsRow 0 tS 1 v ws.length (VS ws) ∧ LC w tS L cs'
section
variable {w w' : World} {tS tL : TypeId}
theorem LC.len : ∀ {L : List (Nat × List (List UInt8))} {cs : List Value}, LC w tS L cs → cs.length = L.length * 2
  | [], cs, h => by rw [show cs = [] from h]; rfl
  | (no, ws) :: L, cs, ⟨v, cs', e, _, h⟩ => by
    rw [e, List.length_cons, List.length_cons, h.len, List.length_cons]; omega
theorem LC.one : ∀ {L : List (Nat × List (List UInt8))} {cs : List Value}, LC w tS L cs → ∀ u ∈ cs, u.oneCell' = true
  | [], cs, h => by rw [show cs = [] from h]; intro u hu; cases hu
  | (no, ws) :: L, cs, ⟨v, cs', e, ho, h⟩ => by
    subst e
    intro u hu
    rcases List.mem_cons.1 hu with rfl | hu
    · rfl
    · rcases List.mem_cons.1 hu with rfl | hu
      · obtain ⟨A, c, rfl, _⟩ := own_slice ho
        rfl
      · exact h.one u hu
theorem LC.next : ∀ {L : List (Nat × List (List UInt8))} {cs : List Value}, LC w tS L cs → Below w.heap.size w w' → LC w' tS L cs
  | [], _, h, _ => h
  | (_, _) :: _, _, ⟨v, cs', e, ho, h⟩, hb => ⟨v, cs', e, own_next ho hb, h.next hb⟩
/-- rows of texts are not touched where a row of lines grows -/
theorem LC.kept {base n k : Nat} {u : Value} {us : List Value} (hn : tS ≠ tL) (hu : w.ownsRow base tL k u n us) (hg : w.grownBy w' u.ownBlock) : ∀ {L : List (Nat × List (List UInt8))} {cs : List Value}, LC w tS L cs → LC w' tS L cs
  | [], _, h => h
  | (_, _) :: _, _, ⟨v, cs', e, ho, h⟩ => by
    refine ⟨v, cs', e, ho.kept hg ?_, h.kept hn hu hg⟩
    rcases ho.2 with ⟨rfl, _⟩ | ⟨g, cap, cur, rfl, _, hh, _⟩
    · exact .inl rfl
    · right
      rcases hu.2 with ⟨rfl, _⟩ | ⟨g', cap', cur', rfl, _, hh', _⟩
      · simp [Value.ownBlock]
      · simp only [Value.ownBlock]
        intro e2
        cases e2
        rw [hh] at hh'
        injection hh' with h1
        injection h1 with _ h2
        exact hn h2
theorem LC.snoc : ∀ {L : List (Nat × List (List UInt8))} {cs : List Value} {no : Nat} {ws : List (List UInt8)} {v : Value}, LC w tS L cs → w.ownsRow 0 tS 1 v ws.length (VS ws) → LC w tS (L ++ [(no, ws)]) (cs ++ [.int .i64 (no : Int), v])
  | [], cs, no, ws, v, h, ho => by rw [show cs = [] from h]; exact ⟨v, [], rfl, ho, rfl⟩
  | (_, _) :: _, _, no, ws, v, ⟨u, cs', e, hu, h⟩, ho => ⟨u, cs' ++ [.int .i64 (no : Int), v], by rw [e]; rfl, hu, h.snoc ho⟩
theorem LC.at_ : ∀ {L : List (Nat × List (List UInt8))} {cs : List Value} {i : Nat}, LC w tS L cs → (hi : i < L.length) → cs[i * 2]? = some (.int .i64 ((L.getD i (0, [])).1 : Int)) ∧ ∃ A c, cs[i * 2 + 1]? = some (.slice A (L.getD i (0, [])).2.length c) ∧ SR w A (L.getD i (0, [])).2.length (L.getD i (0, [])).2
  | [], cs, i, _, hi => absurd hi (by simp)
  | (no, ws) :: L, cs, 0, ⟨v, cs', e, ho, h⟩, _ => by
    obtain ⟨A, c, rfl, _, hs⟩ := own_strs ho
    subst e
    exact ⟨rfl, A, c, rfl, hs⟩
  | (no, ws) :: L, cs, i + 1, ⟨v, cs', e, ho, h⟩, hi => by
    have := h.at_ (i := i) (by simpa using hi)
    subst e
    rw [show (i + 1) * 2 = i * 2 + 1 + 1 by omega, show i * 2 + 1 + 1 + 1 = (i * 2 + 1) + 1 + 1 by omega]
    simpa using this
end
/-- a slice of lines -/
def LR (w : World) (A : Option Addr) (n : Nat) (L : List (Nat × List (List UInt8))) : Prop :=
  L.length = n ∧ (0 < n → ∃ b, A = some ⟨b, 0, none⟩ ∧ b < w.heap.size ∧ ∀ i, i < n → w.cell? ⟨b, i * 2, none⟩ = some (.int .i64 ((L.getD i (0, [])).1 : Int)) ∧
    ∃ B c, w.cell? ⟨b, i * 2 + 1, none⟩ = some (.slice B (L.getD i (0, [])).2.length c) ∧ SR w B (L.getD i (0, [])).2.length (L.getD i (0, [])).2)
section
variable {w w' : World} {A : Option Addr} {n : Nat} {L : List (Nat × List (List UInt8))} {tS tL : TypeId}
theorem LR.len (h : LR w A n L) : L.length = n := h.1
theorem LR.none_ (w : World) (A : Option Addr) : LR w A 0 [] := ⟨rfl, fun h => absurd h (by omega)⟩
theorem LR.next (h : LR w A n L) (hb : Below w.heap.size w w') : LR w' A n L :=
  ⟨h.1, fun hn => by
    obtain ⟨b, e, hlt, hc⟩ := h.2 hn
    refine ⟨b, e, Nat.lt_of_lt_of_le hlt hb.size, fun i hi => ?_⟩
    obtain ⟨h1, B, c, h2, h3⟩ := hc i hi
    exact ⟨(hb.cell (p := ⟨b, i * 2, none⟩) hlt).trans h1, B, c, (hb.cell (p := ⟨b, i * 2 + 1, none⟩) hlt).trans h2, h3.next hb⟩⟩
theorem LR.at_ {k : Nat} (h : LR w A n L) (hk : k < n) : ∃ b, A = some ⟨b, 0, none⟩ ∧ b < w.heap.size ∧ w.cell? ⟨b, k * 2, none⟩ = some (.int .i64 ((L.getD k (0, [])).1 : Int)) ∧
    ∃ B c, w.cell? ⟨b, k * 2 + 1, none⟩ = some (.slice B (L.getD k (0, [])).2.length c) ∧ SR w B (L.getD k (0, [])).2.length (L.getD k (0, [])).2 := by
  obtain ⟨b, e, hlt, hc⟩ := h.2 (by omega)
  exact ⟨b, e, hlt, hc k hk⟩
theorem own_lines {base : Nat} {v : Value} {cs : List Value} (h : w.ownsRow base tL 2 v n cs) (hl : LC w tS L cs) : ∃ A c, v = .slice A n c ∧ n ≤ c ∧ LR w A n L := by
  have hn : L.length = n := by have := h.1; rw [hl.len] at this; omega
  have h0 := h
  rcases h.2 with ⟨rfl, rfl⟩ | ⟨g, cap, cur, rfl, hbg, hh, hnc, _⟩
  · obtain rfl : L = [] := List.eq_nil_of_length_eq_zero hn
    exact ⟨none, 0, rfl, Nat.le_refl _, LR.none_ _ _⟩
  · have hlt : g < w.heap.size := (Array.getElem?_eq_some_iff.1 hh).1
    refine ⟨_, cap, rfl, hnc, hn, fun _ => ⟨g, rfl, hlt, fun i hi => ?_⟩⟩
    obtain ⟨h1, B, c, h2, h3⟩ := hl.at_ (i := i) (by omega)
    exact ⟨(h0.cellAt (i * 2) (by omega)).trans h1, B, c, (h0.cellAt (i * 2 + 1) (by omega)).trans h2, h3⟩
end
end Go.Proofs.YtbeoalmcibnpaaaGreatDoor

