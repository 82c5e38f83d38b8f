/- Plain facts on lines and words: splitting a text, cutting its notes off and splitting by the runes between words gives what one pass over its bytes gives. No program is imported. A slice of texts that reads as a list, a slice of lines that reads as lines; what the call owns reads so. No program is imported. -/
import Derived.Test.YtdljpokhcfhhfaaGreatDoorKit
import Derived.Lib.FieldsP
import Derived.Lib.SplitLaws
import Derived.Test.YtdljpokhcfhhfaaGreatDoorAs
namespace Go.Proofs.YtdljpokhcfhhfaaGreatDoor
namespace Lx
def sep (c : UInt8) : Bool := c.toNat == 32 || c.toNat == 9 || c.toNat == 13
/-- the words behind what has been gathered of one, byte by byte -/
def scan : List UInt8 → List UInt8 → List (List UInt8)
  | cur, [] => if cur = [] then [] else [cur]
  | cur, c :: l => if sep c then (if cur = [] then scan [] l else cur :: scan [] l) else scan (cur ++ [c]) l
def words (l : List UInt8) : List (List UInt8) := scan [] l
/-- a text's lines -/
def nl : List UInt8 → List (List UInt8)
  | [] => [[]]
  | c :: l => if c = 10 then [] :: nl l else match nl l with | p :: ps => (c :: p) :: ps | [] => [[c]]
/-- a line without its note -/
def bare : List UInt8 → List UInt8
  | [] => []
  | c :: l => if c = 35 then [] else c :: bare l
/-- what a line gives -/
def row (no : Nat) (p : List UInt8) : List (Nat × List (List UInt8)) := if words (bare p) = [] then [] else [(no, words (bare p))]
def rows : Nat → List (List UInt8) → List (Nat × List (List UInt8))
  | _, [] => []
  | no, p :: ps => row no p ++ rows (no + 1) ps
/-- a text's lines that have words -/
def lines (l : List UInt8) : List (Nat × List (List UInt8)) := rows 1 (nl l)
def fin (no : Nat) (ws : List (List UInt8)) : List (Nat × List (List UInt8)) := if ws = [] then [] else [(no, ws)]
end Lx
end Go.Proofs.YtdljpokhcfhhfaaGreatDoor
namespace Go.Proofs.YtdljpokhcfhhfaaGreatDoor
open Go.RowKit
namespace Lx

def str (l : List UInt8) : ByteArray := ⟨l.toArray⟩
def VS (ws : List (List UInt8)) : List Value := ws.map fun l => .string (str l)
theorem VS_len (ws : List (List UInt8)) : (VS ws).length = ws.length := by simp [VS]
theorem VS_at {ws : List (List UInt8)} {i : Nat} (h : i < ws.length) : (VS ws)[i]? = some (.string (str (ws.getD i []))) := by
  simp [VS, List.getD, List.getElem?_eq_getElem h]
theorem str_data (l : List UInt8) : (str l).data.toList = l := by simp [str]
end Lx
open Lx

/-- a slice of texts -/
def SR (w : World) (A : Option Addr) (n : Nat) (ws : List (List UInt8)) : Prop :=
  ws.length = n ∧ (0 < n → ∃ b o, A = some ⟨b, o, none⟩ ∧ b < w.heap.size ∧ ∀ i, i < n → w.cell? ⟨b, o + i, none⟩ = some (.string (str (ws.getD i []))))
section
variable {w w' : World} {A : Option Addr} {n : Nat} {ws : List (List UInt8)}
theorem SR.none_ (w : World) (A : Option Addr) : SR w A 0 [] := ⟨rfl, fun h => absurd h (by omega)⟩
theorem SR.len (h : SR w A n ws) : ws.length = n := h.1
theorem SR.next (h : SR w A n ws) (hb : Below w.heap.size w w') : SR w' A n ws :=
  ⟨h.1, fun hn => by
    obtain ⟨b, o, e, hlt, hc⟩ := h.2 hn
    exact ⟨b, o, e, Nat.lt_of_lt_of_le hlt hb.size, fun i hi => (hb.cell (p := ⟨b, o + i, none⟩) hlt).trans (hc i hi)⟩⟩
theorem SR.at_ {k : Nat} (h : SR w A n ws) (hk : k < n) : ∃ b o, A = some ⟨b, o, none⟩ ∧ b < w.heap.size ∧ w.cell? ⟨b, o + k, none⟩ = some (.string (str (ws.getD k []))) := by
  obtain ⟨b, o, e, hlt, hc⟩ := h.2 (by omega)
  exact ⟨b, o, e, hlt, hc k hk⟩
theorem own_strs {base : Nat} {e : TypeId} {v : Value} (h : w.ownsRow base e 1 v n (VS ws)) : ∃ A c, v = .slice A n c ∧ n ≤ c ∧ SR w A n ws := by
  have hl : ws.length = n := by have := h.1; rw [VS_len] at this; omega
  have h0 := h
  rcases h.2 with ⟨rfl, rfl⟩ | ⟨g, cap, cur, rfl, hbg, hh, hnc, _⟩
  · obtain rfl : ws = [] := List.eq_nil_of_length_eq_zero hl
    exact ⟨none, 0, rfl, Nat.le_refl _, SR.none_ _ _⟩
  · have hlt : g < w.heap.size := (Array.getElem?_eq_some_iff.1 hh).1
    refine ⟨_, cap, rfl, hnc, hl, fun _ => ⟨g, 0, rfl, hlt, fun i hi => ?_⟩⟩
    rw [Nat.zero_add, h0.cellAt i (by omega)]
    exact VS_at (by omega)
theorem own_slice {base : Nat} {e : TypeId} {k : Nat} {v : Value} {xs : List Value} (h : w.ownsRow base e k v n xs) : ∃ A c, v = .slice A n c ∧ n ≤ c ∧ (0 < n → ∃ g, A = some ⟨g, 0, none⟩ ∧ base ≤ g ∧ g < w.heap.size) := by
  rcases h.2 with ⟨rfl, rfl⟩ | ⟨g, cap, cur, rfl, hbg, hh, hnc, _⟩
  · exact ⟨none, 0, rfl, Nat.le_refl _, fun h => absurd h (by omega)⟩
  · exact ⟨_, cap, rfl, hnc, fun _ => ⟨g, rfl, hbg, (Array.getElem?_eq_some_iff.1 hh).1⟩⟩
end
/-- the cells of lines: each one's number, and its words, which lie in rows of their own -/
def LC (w : World) (tS : TypeId) : List (Nat × List (List UInt8)) → List Value → Prop
  | [], cs => cs = []
  | (no, ws) :: L, cs => ∃ v cs', cs = .int .i64 (no : Int) :: v :: cs' ∧ w.ownsRow 0 tS 1 v ws.length (VS ws) ∧ LC w tS L cs'
section
variable {w w' : World} {tS tL : TypeId}
theorem LC.len : ∀ {L : List (Nat × List (List UInt8))} {cs : List Value}, LC w tS L cs → cs.length = L.length * 2
  | [], cs, h => by rw [show cs = [] from h]; rfl
  | (no, ws) :: L, cs, ⟨v, cs', e, _, h⟩ => by
    rw [e, List.length_cons, List.length_cons, h.len, List.length_cons]; omega
theorem LC.one : ∀ {L : List (Nat × List (List UInt8))} {cs : List Value}, LC w tS L cs → ∀ u ∈ cs, u.oneCell' = true
  | [], cs, h => by rw [show cs = [] from h]; intro u hu; cases hu
  | (no, ws) :: L, cs, ⟨v, cs', e, ho, h⟩ => by
    subst e
    intro u hu
    rcases List.mem_cons.1 hu with rfl | hu
    · rfl
    · rcases List.mem_cons.1 hu with rfl | hu
      · obtain ⟨A, c, rfl, _⟩ := own_slice ho
        rfl
      · exact h.one u hu
theorem LC.next : ∀ {L : List (Nat × List (List UInt8))} {cs : List Value}, LC w tS L cs → Below w.heap.size w w' → LC w' tS L cs
  | [], _, h, _ => h
  | (_, _) :: _, _, ⟨v, cs', e, ho, h⟩, hb => ⟨v, cs', e, own_next ho hb, h.next hb⟩
/-- rows of texts are not touched where a row of lines grows -/
theorem LC.kept {base n k : Nat} {u : Value} {us : List Value} (hn : tS ≠ tL) (hu : w.ownsRow base tL k u n us) (hg : w.grownBy w' u.ownBlock) : ∀ {L : List (Nat × List (List UInt8))} {cs : List Value}, LC w tS L cs → LC w' tS L cs
  | [], _, h => h
  | (_, _) :: _, _, ⟨v, cs', e, ho, h⟩ => by
    refine ⟨v, cs', e, ho.kept hg ?_, h.kept hn hu hg⟩
    rcases ho.2 with ⟨rfl, _⟩ | ⟨g, cap, cur, rfl, _, hh, _⟩
    · exact .inl rfl
    · right
      rcases hu.2 with ⟨rfl, _⟩ | ⟨g', cap', cur', rfl, _, hh', _⟩
      · simp [Value.ownBlock]
      · simp only [Value.ownBlock]
        intro e2
        cases e2
        rw [hh] at hh'
        injection hh' with h1
        injection h1 with _ h2
        exact hn h2
theorem LC.at_ : ∀ {L : List (Nat × List (List UInt8))} {cs : List Value} {i : Nat}, LC w tS L cs → (hi : i < L.length) → cs[i * 2]? = some (.int .i64 ((L.getD i (0, [])).1 : Int)) ∧ ∃ A c, cs[i * 2 + 1]? = some (.slice A (L.getD i (0, [])).2.length c) ∧ SR w A (L.getD i (0, [])).2.length (L.getD i (0, [])).2
  | [], cs, i, _, hi => absurd hi (by simp)
  | (no, ws) :: L, cs, 0, ⟨v, cs', e, ho, h⟩, _ => by
    obtain ⟨A, c, rfl, _, hs⟩ := own_strs ho
    subst e
    exact ⟨rfl, A, c, rfl, hs⟩
  | (no, ws) :: L, cs, i + 1, ⟨v, cs', e, ho, h⟩, hi => by
    have := h.at_ (i := i) (by simpa using hi)
    subst e
    rw [show (i + 1) * 2 = i * 2 + 1 + 1 by omega, show i * 2 + 1 + 1 + 1 = (i * 2 + 1) + 1 + 1 by omega]
    simpa using this
end
/-- a slice of lines -/
def LR (w : World) (A : Option Addr) (n : Nat) (L : List (Nat × List (List UInt8))) : Prop :=
  L.length = n ∧ (0 < n → ∃ b, A = some ⟨b, 0, none⟩ ∧ b < w.heap.size ∧ ∀ i, i < n → w.cell? ⟨b, i * 2, none⟩ = some (.int .i64 ((L.getD i (0, [])).1 : Int)) ∧
    ∃ B c, w.cell? ⟨b, i * 2 + 1, none⟩ = some (.slice B (L.getD i (0, [])).2.length c) ∧ SR w B (L.getD i (0, [])).2.length (L.getD i (0, [])).2)
section
variable {w w' : World} {A : Option Addr} {n : Nat} {L : List (Nat × List (List UInt8))} {tS tL : TypeId}
theorem LR.len (h : LR w A n L) : L.length = n := h.1
theorem LR.none_ (w : World) (A : Option Addr) : LR w A 0 [] := ⟨rfl, fun h => absurd h (by omega)⟩
theorem LR.next (h : LR w A n L) (hb : Below w.heap.size w w') : LR w' A n L :=
  ⟨h.1, fun hn => by
    obtain ⟨b, e, hlt, hc⟩ := h.2 hn
    refine ⟨b, e, Nat.lt_of_lt_of_le hlt hb.size, fun i hi => ?_⟩
    obtain ⟨h1, B, c, h2, h3⟩ := hc i hi
    exact ⟨(hb.cell (p := ⟨b, i * 2, none⟩) hlt).trans h1, B, c, (hb.cell (p := ⟨b, i * 2 + 1, none⟩) hlt).trans h2, h3.next hb⟩⟩
theorem LR.at_ {k : Nat} (h : LR w A n L) (hk : k < n) : ∃ b, A = some ⟨b, 0, none⟩ ∧ b < w.heap.size ∧ w.cell? ⟨b, k * 2, none⟩ = some (.int .i64 ((L.getD k (0, [])).1 : Int)) ∧
    ∃ B c, w.cell? ⟨b, k * 2 + 1, none⟩ = some (.slice B (L.getD k (0, [])).2.length c) ∧ SR w B (L.getD k (0, [])).2.length (L.getD k (0, [])).2 := by
  obtain ⟨b, e, hlt, hc⟩ := h.2 (by omega)
  exact ⟨b, e, hlt, hc k hk⟩
end
end Go.Proofs.YtdljpokhcfhhfaaGreatDoor


