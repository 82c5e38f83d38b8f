/- Rows of numbers as they lie in memory: held against one another, copied; over the seat's program. The document's places of ports and members over a network in memory: On, Of, Members, At; over the seat's program. The document's places of ports and members over a network in memory: On, Of, Members, At; over the seat's program. -/
import Derived.Test.YtdljpokhcfhhfaaGreatDoorKit
import Derived.Test.YtdljpokhcfhhfaaGreatDoorProg
import Derived.WalkKit
import Derived.BigQuiet
import Derived.Deep.QuietTactic
import Derived.Deep.DeepAppendRoom
import Derived.Lib.SliceRun
import Derived.Maps.AppendAt
import Derived.OwnWalk
import Derived.Test.YtdljpokhcfhhfaaGreatDoorCw
namespace Go.Proofs.YtdljpokhcfhhfaaGreatDoor
open Go.RowKit
theorem own_at {w w' : World} {base size n : Nat} {e : TypeId} {v : Value} {xs : List Value} (h : w.ownsRow base e size v n xs) (hk : ∀ g, v.ownBlock = some g → w'.heap[g]? = w.heap[g]?) : w'.ownsRow base e size v n xs := by
  refine ⟨h.1, ?_⟩
  rcases h.2 with hn | ⟨g, cap, cur, rfl, hb, hgg, rest⟩
  · exact .inl hn
  · exact .inr ⟨g, cap, cur, rfl, hb, (hk g rfl).trans hgg, rest⟩
def I64 (xs : List Int) : List Value := xs.map (Value.int .i64)
theorem I64_app (xs ys : List Int) : I64 (xs ++ ys) = I64 xs ++ I64 ys := by simp [I64]
theorem I64_one (xs : List Int) : ∀ u ∈ I64 xs, u.oneCell' = true := by
  intro u hu; obtain ⟨x, _, rfl⟩ := List.mem_map.1 hu; rfl
theorem info_int : (Tryz.prog.info? 3).map (fun i => (i.zero, i.size, i.bytes)) = some (some (.int .i64 0), 1, 8) := by kernel_rfl
theorem take_next {xs : List Int} {k : Nat} (h : k < xs.length) : xs.take (k + 1) = xs.take k ++ [xs.getD k 0] := by
  rw [List.take_succ_eq_append_getElem h]; simp [List.getD, h]
/-- a slice of numbers that reads as a list, nil let in -/
def JR (w : World) (A : Option Addr) (n : Nat) (xs : List Int) : Prop :=
  xs.length = n ∧ (0 < n → ∃ b o, A = some ⟨b, o, none⟩ ∧ b < w.heap.size ∧ ∀ i, i < n → w.cell? ⟨b, o + i, none⟩ = some (.int .i64 (xs.getD i 0)))
section
variable {w w' : World} {A : Option Addr} {n : Nat} {xs : List Int}
theorem JR.next (h : JR w A n xs) (hb : Below w.heap.size w w') : JR w' A n xs :=
  ⟨h.1, fun hn => by
    obtain ⟨b, o, e, hlt, hc⟩ := h.2 hn
    exact ⟨b, o, e, Nat.lt_of_lt_of_le hlt hb.size, fun i hi => (hb.cell (p := ⟨b, o + i, none⟩) hlt).trans (hc i hi)⟩⟩
theorem JR.at_ {k : Nat} (h : JR w A n xs) (hk : k < n) : ∃ b o, A = some ⟨b, o, none⟩ ∧ b < w.heap.size ∧ w.cell? ⟨b, o + k, none⟩ = some (.int .i64 (xs.getD k 0)) := by
  obtain ⟨b, o, e, hlt, hc⟩ := h.2 (by omega)
  exact ⟨b, o, e, hlt, hc k hk⟩
theorem own_jr {base : Nat} {v : Value} (h : w.ownsRow base 3 1 v xs.length (I64 xs)) : ∃ A c, v = .slice A xs.length c ∧ JR w A xs.length xs := by
  have h0 := h
  rcases h.2 with ⟨rfl, hl⟩ | ⟨g, cap, cur, rfl, hbg, hh, hnc, _⟩
  · exact ⟨none, 0, by rw [hl], rfl, fun hn => by omega⟩
  · refine ⟨_, cap, rfl, rfl, fun _ => ⟨g, 0, rfl, (Array.getElem?_eq_some_iff.1 hh).1, fun i hi => ?_⟩⟩
    rw [Nat.zero_add, h0.cellAt i (by omega)]
    simp [I64, List.getD, hi]
end
theorem jr_one (w : World) (x : Int) (t : TypeId) : JR (w.alloc (.cells #[.int .i64 x] t)) (some ⟨w.heap.size, 0, none⟩) 1 [x] :=
  ⟨rfl, fun _ => ⟨_, 0, rfl, by simp, fun i hi => by
    obtain rfl : i = 0 := by omega
    simp⟩⟩
theorem jsame_any (A B : Option Addr) (n m c d : Nat) (xs ys : List Int) (w : World) (h : JR w A n xs) (g : JR w B m ys) (hn : n ≤ 1048576) (hm : m ≤ 1048576) :
    Calls Tryz.prog 14 #[.slice A n c, .slice B m d] w fun e w' => e = .returned (.bool (decide (xs = ys))) ∧ Below w.heap.size w w' := by
  have hl := h.1
  have gl := g.1
  by_cases he : n = m
  · subst he
    have hne : ((n : Int) != (n : Int)) = false := by simp
    go_enter Tryz.func14, Tryz.ntmps14
    go_wp2_with fail
    go_loopw [5] (fun i wr => ∃ k : Nat, k ≤ n ∧ i = .int .i64 k ∧ Below w.heap.size w wr ∧ xs.take k = ys.take k) (fun i _ => n - (intOf i).toNat)
    case atStart => exact ⟨0, Nat.zero_le _, rfl, Below.refl _ _, rfl⟩
    case round =>
      obtain ⟨k, hk, rfl, hbw, hs⟩ := hrel
      rcases Nat.lt_or_ge k n with hlt | hge
      · obtain ⟨b, o, rfl, _, hc0⟩ := (h.next hbw).at_ hlt
        obtain ⟨b', o', rfl, _, hc1⟩ := (g.next hbw).at_ hlt
        have HT := Lib.hid (take_next (xs := xs) (k := k) (by omega))
        have GT := Lib.hid (take_next (xs := ys) (k := k) (by omega))
        have hi0 : (k : Int) < n := by omega
        have HB := Lib.hid hbw
        have HS := Lib.hid hs
        by_cases hv : xs.getD k 0 = ys.getD k 0
        · have hve : (xs.getD k 0 == ys.getD k 0) = true := by simpa using hv
          have HV := Lib.hid hv
          clear hbw hs hv
          generalize xs.getD k 0 = u at *
          generalize ys.getD k 0 = v at *
          go_wp2_with fail
          go_quiet (fail)
          go_wp2
          go_roundw
          case rel => exact ⟨k + 1, by omega, by go_num, below_drewN HB.out _, by rw [HT.out, GT.out, HS.out, HV.out]⟩
          case measure => simp [intOf]; omega
        · have hve : (xs.getD k 0 == ys.getD k 0) = false := by simpa using hv
          have HV := Lib.hid (show decide (xs = ys) = false by
            rw [decide_eq_false_iff_not]; rintro rfl; exact hv rfl)
          clear hbw hs hv
          generalize xs.getD k 0 = u at *
          generalize ys.getD k 0 = v at *
          go_wp2_with fail
          go_quiet (fail)
          go_wp2
          go_ret
          exact ⟨ret_bool HV.out.symm, below_drewN HB.out _⟩
      · obtain rfl : k = n := by omega
        rw [List.take_of_length_le (by omega), List.take_of_length_le (by omega)] at hs
        go_wp2
        go_ret
        exact ⟨ret_bool (by simp [hs]), hbw⟩
  · have hne : ((n : Int) != (m : Int)) = true := by simp; omega
    go_enter Tryz.func14, Tryz.ntmps14
    go_wp2
    go_ret
    exact ⟨ret_bool (by rw [eq_comm, decide_eq_false_iff_not]; rintro rfl; omega), Below.refl _ _⟩
theorem JR.block {w w' : World} {A : Option Addr} {n : Nat} {xs : List Int} (h : JR w A n xs) (hb : ∀ b o, A = some ⟨b, o, none⟩ → w'.heap[b]? = w.heap[b]?) : JR w' A n xs :=
  ⟨h.1, fun hn => by
    obtain ⟨b, o, e, hlt, hc⟩ := h.2 hn
    have hk := hb b o e
    refine ⟨b, o, e, ?_, fun i hi => (World.cell?_of_block (a := ⟨b, o + i, none⟩) hk).trans (hc i hi)⟩
    have h1 := Array.getElem?_eq_getElem hlt
    rw [← hk] at h1
    exact (Array.getElem?_eq_some_iff.1 h1).1⟩
end Go.Proofs.YtdljpokhcfhhfaaGreatDoor
namespace Go.Proofs.YtdljpokhcfhhfaaGreatDoor
open Go.RowKit Lx

/-- the places, of the first n, at which something holds, rising -/
def picks {α : Type} (p : α → Bool) (xs : List α) : Nat → List Int
  | 0 => []
  | n + 1 => picks p xs n ++ (match xs[n]? with | some x => if p x then [(n : Int)] else [] | none => [])
theorem picks_yes {α : Type} {p : α → Bool} {xs : List α} {n : Nat} {x : α} (h : xs[n]? = some x) (hp : p x = true) : picks p xs (n + 1) = picks p xs n ++ [(n : Int)] := by
  show _ ++ _ = _; rw [h]; simp [hp]
theorem picks_no {α : Type} {p : α → Bool} {xs : List α} {n : Nat} {x : α} (h : xs[n]? = some x) (hp : p x = false) : picks p xs (n + 1) = picks p xs n := by
  show _ ++ _ = _; rw [h]; simp [hp]
theorem picks_len {α : Type} (p : α → Bool) (xs : List α) (n : Nat) : (picks p xs n).length ≤ n := by
  induction n with
  | zero => simp [picks]
  | succ n ih =>
    unfold picks
    rw [List.length_append]
    split
    · split <;> simp <;> omega
    · simp; omega
end Go.Proofs.YtdljpokhcfhhfaaGreatDoor
namespace Go.Proofs.YtdljpokhcfhhfaaGreatDoor
open Go.RowKit Lx

end Go.Proofs.YtdljpokhcfhhfaaGreatDoor


