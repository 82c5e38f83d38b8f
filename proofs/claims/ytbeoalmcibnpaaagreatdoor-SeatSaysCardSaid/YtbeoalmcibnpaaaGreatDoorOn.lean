/- Rows of numbers as they lie in memory: held against one another, copied; over the seat's program. The document's places of ports and members over a network in memory: On, Of, Members, At; over the seat's program. The document's places of ports and members over a network in memory: On, Of, Members, At; over the seat's program. -/
import Derived.Test.YtbeoalmcibnpaaaGreatDoorKit
import Derived.Test.YtbeoalmcibnpaaaGreatDoorProg
import Derived.WalkKit
import Derived.BigQuiet
import Derived.Deep.QuietTactic
import Derived.Deep.DeepAppendRoom
import Derived.Lib.SliceRun
import Derived.Maps.AppendAt
import Derived.OwnWalk
import Derived.Test.YtbeoalmcibnpaaaGreatDoorCw
namespace Go.Proofs.YtbeoalmcibnpaaaGreatDoor
open Go.RowKit
theorem own_at {w w' : World} {base size n : Nat} {e : TypeId} {v : Value} {xs : List Value} (h : w.ownsRow base e size v n xs) (hk : ∀ g, v.ownBlock = some g → w'.heap[g]? = w.heap[g]?) : w'.ownsRow base e size v n xs := by
  refine ⟨h.1, ?_⟩
  rcases h.2 with hn | ⟨g, cap, cur, rfl, hb, hgg, rest⟩
  · exact .inl hn
  · exact .inr ⟨g, cap, cur, rfl, hb, (hk g rfl).trans hgg, rest⟩
def I64 (xs : List Int) : List Value := xs.map (Value.int .i64)
theorem I64_len (xs : List Int) : (I64 xs).length = xs.length := by simp [I64]
theorem I64_app (xs ys : List Int) : I64 (xs ++ ys) = I64 xs ++ I64 ys := by simp [I64]
theorem I64_one (xs : List Int) : ∀ u ∈ I64 xs, u.oneCell' = true := by
  intro u hu; obtain ⟨x, _, rfl⟩ := List.mem_map.1 hu; rfl
theorem info_int : (Tryz.prog.info? 3).map (fun i => (i.zero, i.size, i.bytes)) = some (some (.int .i64 0), 1, 8) := by kernel_rfl
theorem take_next {xs : List Int} {k : Nat} (h : k < xs.length) : xs.take (k + 1) = xs.take k ++ [xs.getD k 0] := by
  rw [List.take_succ_eq_append_getElem h]; simp [List.getD, h]
/-- a slice of numbers that reads as a list, nil let in -/
def JR (w : World) (A : Option Addr) (n : Nat) (xs : List Int) : Prop :=
  xs.length = n ∧ (0 < n → ∃ b o, A = some ⟨b, o, none⟩ ∧ b < w.heap.size ∧ ∀ i, i < n → w.cell? ⟨b, o + i, none⟩ = some (.int .i64 (xs.getD i 0)))
section
variable {w w' : World} {A : Option Addr} {n : Nat} {xs : List Int}
theorem JR.next (h : JR w A n xs) (hb : Below w.heap.size w w') : JR w' A n xs :=
  ⟨h.1, fun hn => by
    obtain ⟨b, o, e, hlt, hc⟩ := h.2 hn
    exact ⟨b, o, e, Nat.lt_of_lt_of_le hlt hb.size, fun i hi => (hb.cell (p := ⟨b, o + i, none⟩) hlt).trans (hc i hi)⟩⟩
theorem JR.at_ {k : Nat} (h : JR w A n xs) (hk : k < n) : ∃ b o, A = some ⟨b, o, none⟩ ∧ b < w.heap.size ∧ w.cell? ⟨b, o + k, none⟩ = some (.int .i64 (xs.getD k 0)) := by
  obtain ⟨b, o, e, hlt, hc⟩ := h.2 (by omega)
  exact ⟨b, o, e, hlt, hc k hk⟩
theorem own_jr {base : Nat} {v : Value} (h : w.ownsRow base 3 1 v xs.length (I64 xs)) : ∃ A c, v = .slice A xs.length c ∧ JR w A xs.length xs := by
  have h0 := h
  rcases h.2 with ⟨rfl, hl⟩ | ⟨g, cap, cur, rfl, hbg, hh, hnc, _⟩
  · exact ⟨none, 0, by rw [hl], rfl, fun hn => by omega⟩
  · refine ⟨_, cap, rfl, rfl, fun _ => ⟨g, 0, rfl, (Array.getElem?_eq_some_iff.1 hh).1, fun i hi => ?_⟩⟩
    rw [Nat.zero_add, h0.cellAt i (by omega)]
    simp [I64, List.getD, hi]
end
theorem jr_one (w : World) (x : Int) (t : TypeId) : JR (w.alloc (.cells #[.int .i64 x] t)) (some ⟨w.heap.size, 0, none⟩) 1 [x] :=
  ⟨rfl, fun _ => ⟨_, 0, rfl, by simp, fun i hi => by
    obtain rfl : i = 0 := by omega
    simp⟩⟩
theorem jsame_any (A B : Option Addr) (n m c d : Nat) (xs ys : List Int) (w : World) (h : JR w A n xs) (g : JR w B m ys) (hn : n ≤ 1048576) (hm : m ≤ 1048576) :
    Calls Tryz.prog 28 #[.slice A n c, .slice B m d] w fun e w' => e = .returned (.bool (decide (xs = ys))) ∧ Below w.heap.size w w' := by
  have hl := h.1
  have gl := g.1
  by_cases he : n = m
  · subst he
    have hne : ((n : Int) != (n : Int)) = false := by simp
    go_enter Tryz.func28, Tryz.ntmps28
    go_wp2_with fail
    go_loopw [5] (fun i wr => ∃ k : Nat, k ≤ n ∧ i = .int .i64 k ∧ Below w.heap.size w wr ∧ xs.take k = ys.take k) (fun i _ => n - (intOf i).toNat)
    case atStart => exact ⟨0, Nat.zero_le _, rfl, Below.refl _ _, rfl⟩
    case round =>
      obtain ⟨k, hk, rfl, hbw, hs⟩ := hrel
      rcases Nat.lt_or_ge k n with hlt | hge
      · obtain ⟨b, o, rfl, _, hc0⟩ := (h.next hbw).at_ hlt
        obtain ⟨b', o', rfl, _, hc1⟩ := (g.next hbw).at_ hlt
        have HT := Lib.hid (take_next (xs := xs) (k := k) (by omega))
        have GT := Lib.hid (take_next (xs := ys) (k := k) (by omega))
        have hi0 : (k : Int) < n := by omega
        have HB := Lib.hid hbw
        have HS := Lib.hid hs
        by_cases hv : xs.getD k 0 = ys.getD k 0
        · have hve : (xs.getD k 0 == ys.getD k 0) = true := by simpa using hv
          have HV := Lib.hid hv
          clear hbw hs hv
          generalize xs.getD k 0 = u at *
          generalize ys.getD k 0 = v at *
          go_wp2_with fail
          go_quiet (fail)
          go_wp2
          go_roundw
          case rel => exact ⟨k + 1, by omega, by go_num, below_drewN HB.out _, by rw [HT.out, GT.out, HS.out, HV.out]⟩
          case measure => simp [intOf]; omega
        · have hve : (xs.getD k 0 == ys.getD k 0) = false := by simpa using hv
          have HV := Lib.hid (show decide (xs = ys) = false by
            rw [decide_eq_false_iff_not]; rintro rfl; exact hv rfl)
          clear hbw hs hv
          generalize xs.getD k 0 = u at *
          generalize ys.getD k 0 = v at *
          go_wp2_with fail
          go_quiet (fail)
          go_wp2
          go_ret
          exact ⟨ret_bool HV.out.symm, below_drewN HB.out _⟩
      · obtain rfl : k = n := by omega
        rw [List.take_of_length_le (by omega), List.take_of_length_le (by omega)] at hs
        go_wp2
        go_ret
        exact ⟨ret_bool (by simp [hs]), hbw⟩
  · have hne : ((n : Int) != (m : Int)) = true := by simp; omega
    go_enter Tryz.func28, Tryz.ntmps28
    go_wp2
    go_ret
    exact ⟨ret_bool (by rw [eq_comm, decide_eq_false_iff_not]; rintro rfl; omega), Below.refl _ _⟩
theorem JR.block {w w' : World} {A : Option Addr} {n : Nat} {xs : List Int} (h : JR w A n xs) (hb : ∀ b o, A = some ⟨b, o, none⟩ → w'.heap[b]? = w.heap[b]?) : JR w' A n xs :=
  ⟨h.1, fun hn => by
    obtain ⟨b, o, e, hlt, hc⟩ := h.2 hn
    have hk := hb b o e
    refine ⟨b, o, e, ?_, fun i hi => (World.cell?_of_block (a := ⟨b, o + i, none⟩) hk).trans (hc i hi)⟩
    have h1 := Array.getElem?_eq_getElem hlt
    rw [← hk] at h1
    exact (Array.getElem?_eq_some_iff.1 h1).1⟩
end Go.Proofs.YtbeoalmcibnpaaaGreatDoor
namespace Go.Proofs.YtbeoalmcibnpaaaGreatDoor
open Go.RowKit Lx
/-- the places, of the first n, at which something holds, rising -/
def picks {α : Type} (p : α → Bool) (xs : List α) : Nat → List Int
  | 0 => []
  | n + 1 => picks p xs n ++ (match xs[n]? with | some x => if p x then [(n : Int)] else [] | none => [])
theorem picks_yes {α : Type} {p : α → Bool} {xs : List α} {n : Nat} {x : α} (h : xs[n]? = some x) (hp : p x = true) : picks p xs (n + 1) = picks p xs n ++ [(n : Int)] := by
  show _ ++ _ = _; rw [h]; simp [hp]
theorem picks_no {α : Type} {p : α → Bool} {xs : List α} {n : Nat} {x : α} (h : xs[n]? = some x) (hp : p x = false) : picks p xs (n + 1) = picks p xs n := by
  show _ ++ _ = _; rw [h]; simp [hp]
theorem picks_len {α : Type} (p : α → Bool) (xs : List α) (n : Nat) : (picks p xs n).length ≤ n := by
  induction n with
  | zero => simp [picks]
  | succ n ih =>
    unfold picks
    rw [List.length_append]
    split
    · split <;> simp <;> omega
    · simp; omega
/-- the first place at which something holds, or -1 -/
def firstAt {α : Type} (p : α → Bool) (xs : List α) : Int := match picks p xs xs.length with | [] => -1 | i :: _ => i
set_option maxHeartbeats 1000000 in
theorem ron_any (M : Cm) (x : Cfg) (l : Int) (w : World) (h : CW w M x) :
    Calls Tryz.prog 27 #[.agg #[.slice M.r.A M.r.n M.r.c, .slice M.l.A M.l.n M.l.c, .slice M.p.A M.p.n M.p.c, .slice M.o.A M.o.n M.o.c, .slice M.g.A M.g.n M.g.c, .slice M.s.A M.s.n M.s.c, .slice M.m.A M.m.n M.m.c], .int .i64 l] w fun e w' => ∃ v, e = .returned v ∧ w'.ownsRow w.heap.size 3 1 v (picks (fun x => x.2.1 == l) x.ps M.p.n).length (I64 (picks (fun x => x.2.1 == l) x.ps M.p.n)) ∧ Below w.heap.size w w' := by
  obtain ⟨i0, hi, hz0, hz1, hz2⟩ := info_parts info_int
  have HR : Hid (∀ W, Below w.heap.size w W → IPort W M.p.A M.p.n x.ps) := Lib.hid fun W hW => (h.next hW).p
  have hn := h.pok.2
  have HB0 := Lib.hid ((Below.refl w.heap.size w).alloc (Nat.le_refl _) (.cells #[.slice M.r.A M.r.n M.r.c, .slice M.l.A M.l.n M.l.c, .slice M.p.A M.p.n M.p.c, .slice M.o.A M.o.n M.o.c, .slice M.g.A M.g.n M.g.c, .slice M.s.A M.s.n M.s.c, .slice M.m.A M.m.n M.m.c] 30))
  have HK0 : Hid (Blk (w.alloc (.cells #[.slice M.r.A M.r.n M.r.c, .slice M.l.A M.l.n M.l.c, .slice M.p.A M.p.n M.p.c, .slice M.o.A M.o.n M.o.c, .slice M.g.A M.g.n M.g.c, .slice M.s.A M.s.n M.s.c, .slice M.m.A M.m.n M.m.c] 30)) w.heap.size 30 #[.slice M.r.A M.r.n M.r.c, .slice M.l.A M.l.n M.l.c, .slice M.p.A M.p.n M.p.c, .slice M.o.A M.o.n M.o.c, .slice M.g.A M.g.n M.g.c, .slice M.s.A M.s.n M.s.c, .slice M.m.A M.m.n M.m.c]) := Lib.hid (Blk.new _ _ _)
  clear h
  go_enter Tryz.func27, Tryz.ntmps27
  go_wp2
  generalize w.alloc (.cells #[.slice M.r.A M.r.n M.r.c, .slice M.l.A M.l.n M.l.c, .slice M.p.A M.p.n M.p.c, .slice M.o.A M.o.n M.o.c, .slice M.g.A M.g.n M.g.c, .slice M.s.A M.s.n M.s.c, .slice M.m.A M.m.n M.m.c] 30) = W0 at *
  go_loopw [5, 6] (fun v i wr => ∃ k : Nat, k ≤ M.p.n ∧ i = .int .i64 k ∧ wr.ownsRow W0.heap.size 3 1 v (picks (fun x => x.2.1 == l) x.ps k).length (I64 (picks (fun x => x.2.1 == l) x.ps k)) ∧ Below W0.heap.size W0 wr) (fun _ i _ => M.p.n - (intOf i).toNat)
  case atStart => exact ⟨0, Nat.zero_le _, rfl, World.ownsRow_nil _ _ _ _, Below.refl _ _⟩
  case round =>
    obtain ⟨k, hk, rfl, hown, hb⟩ := hrel
    have hbw := HB0.out.trans (hb.mono HB0.out.size)
    have y0 : wr.cell? ⟨w.heap.size, 2, none⟩ = some (.slice M.p.A M.p.n M.p.c) := Blk.cell (HK0.out.next hb) 2
    have HBW := Lib.hid hbw
    have HB := Lib.hid hb
    rcases Nat.lt_or_ge k M.p.n with hlt | hge
    · obtain ⟨b, o, xx, hA, hbl, hx, hc⟩ := IR.at_ (HR.out wr hbw) hlt
      obtain ⟨r1, l1, a1⟩ := xx
      have c0 : wr.cell? ⟨b, o + k * 3 + 1, none⟩ = some (.int .i64 l1) := hc 1 _ rfl
      have hi0 : (k : Int) < (M.p.n : Int) := by omega
      have HX := Lib.hid hx
      have HO := Lib.hid hown
      rw [hA] at y0
      by_cases hkey : l1 = l
      · have hkb : (l1 == l) = true := by simpa using hkey
        have HP : Hid (picks (fun x => x.2.1 == l) x.ps (k + 1) = picks (fun x => x.2.1 == l) x.ps k ++ [(k : Int)]) := Lib.hid (picks_yes hx (by simpa using hkey))
        have hpl := picks_len (fun x => x.2.1 == l) x.ps k
        clear hc hx hown hb hbw hkey
        generalize picks (fun x => x.2.1 == l) x.ps k = L at *
        go_wp2_with (at_builtin; refine wpList_append_own _ rfl _ _ 48 rfl W0.heap.size 3 i0 (.int .i64 0) 1 8 Tryz.underlying48 hi hz0 hz1 hz2 rfl (by decide) _ L.length (I64 L) rfl (HO.out.alloc _) ⟨wr.heap.size, 0, none⟩ 1 1 [.int .i64 (k : Int)] rfl rfl (cell_one_new _ _ _) (by intro x hx; simp at hx; subst hx; rfl) (by unfold maxLen; omega) (by omega) (by have := HB.out.size; simp; omega) ?_; intro v' w1 hown1 hgrow1 _)
        have hb1 : Below W0.heap.size W0 w1 := (HB.out.alloc HB.out.size _).grown hgrow1 (by have := HB.out.size; simp; omega) (fun j e => (HO.out.lt j e).1)
        have HO1 := Lib.hid hown1
        have HB1 := Lib.hid hb1
        clear hown1 hgrow1 hb1
        go_roundw
        case rel => rw [hA]; exact ⟨_, _, _, _, _, _, _, _, _, _, _, _, _, _, _, _, _, _, _, _, _, ⟨k + 1, by omega, by go_num, by rw [HP.out, I64_app, List.length_append]; exact HO1.out, HB1.out⟩, rfl⟩
        case measure => simp [intOf]; omega
      · have hkb : (l1 == l) = false := by simpa using hkey
        have HP : Hid (picks (fun x => x.2.1 == l) x.ps (k + 1) = picks (fun x => x.2.1 == l) x.ps k) := Lib.hid (picks_no hx (by simpa using hkey))
        clear hc hx hown hb hbw hkey
        go_wp2
        go_roundw
        case rel => exact ⟨k + 1, by omega, by go_num, by rw [HP.out]; exact HO.out, HB.out⟩
        case measure => simp [intOf]; omega
    · obtain rfl : k = M.p.n := by omega
      have hd : decide ((M.p.n : Int) < (M.p.n : Int)) = false := by simp
      have HO := Lib.hid (own_up hown HB0.out.size)
      clear hown hb hbw
      go_wp2
      go_ret
      exact ⟨_, rfl, HO.out, HBW.out⟩
set_option maxHeartbeats 1000000 in
theorem rof_any (M : Cm) (x : Cfg) (l : Int) (w : World) (h : CW w M x) :
    Calls Tryz.prog 31 #[.agg #[.slice M.r.A M.r.n M.r.c, .slice M.l.A M.l.n M.l.c, .slice M.p.A M.p.n M.p.c, .slice M.o.A M.o.n M.o.c, .slice M.g.A M.g.n M.g.c, .slice M.s.A M.s.n M.s.c, .slice M.m.A M.m.n M.m.c], .int .i64 l] w fun e w' => ∃ v, e = .returned v ∧ w'.ownsRow w.heap.size 3 1 v (picks (fun x => x.1 == l) x.ps M.p.n).length (I64 (picks (fun x => x.1 == l) x.ps M.p.n)) ∧ Below w.heap.size w w' := by
  obtain ⟨i0, hi, hz0, hz1, hz2⟩ := info_parts info_int
  have HR : Hid (∀ W, Below w.heap.size w W → IPort W M.p.A M.p.n x.ps) := Lib.hid fun W hW => (h.next hW).p
  have hn := h.pok.2
  have HB0 := Lib.hid ((Below.refl w.heap.size w).alloc (Nat.le_refl _) (.cells #[.slice M.r.A M.r.n M.r.c, .slice M.l.A M.l.n M.l.c, .slice M.p.A M.p.n M.p.c, .slice M.o.A M.o.n M.o.c, .slice M.g.A M.g.n M.g.c, .slice M.s.A M.s.n M.s.c, .slice M.m.A M.m.n M.m.c] 30))
  have HK0 : Hid (Blk (w.alloc (.cells #[.slice M.r.A M.r.n M.r.c, .slice M.l.A M.l.n M.l.c, .slice M.p.A M.p.n M.p.c, .slice M.o.A M.o.n M.o.c, .slice M.g.A M.g.n M.g.c, .slice M.s.A M.s.n M.s.c, .slice M.m.A M.m.n M.m.c] 30)) w.heap.size 30 #[.slice M.r.A M.r.n M.r.c, .slice M.l.A M.l.n M.l.c, .slice M.p.A M.p.n M.p.c, .slice M.o.A M.o.n M.o.c, .slice M.g.A M.g.n M.g.c, .slice M.s.A M.s.n M.s.c, .slice M.m.A M.m.n M.m.c]) := Lib.hid (Blk.new _ _ _)
  clear h
  go_enter Tryz.func31, Tryz.ntmps31
  go_wp2
  generalize w.alloc (.cells #[.slice M.r.A M.r.n M.r.c, .slice M.l.A M.l.n M.l.c, .slice M.p.A M.p.n M.p.c, .slice M.o.A M.o.n M.o.c, .slice M.g.A M.g.n M.g.c, .slice M.s.A M.s.n M.s.c, .slice M.m.A M.m.n M.m.c] 30) = W0 at *
  go_loopw [5, 6] (fun v i wr => ∃ k : Nat, k ≤ M.p.n ∧ i = .int .i64 k ∧ wr.ownsRow W0.heap.size 3 1 v (picks (fun x => x.1 == l) x.ps k).length (I64 (picks (fun x => x.1 == l) x.ps k)) ∧ Below W0.heap.size W0 wr) (fun _ i _ => M.p.n - (intOf i).toNat)
  case atStart => exact ⟨0, Nat.zero_le _, rfl, World.ownsRow_nil _ _ _ _, Below.refl _ _⟩
  case round =>
    obtain ⟨k, hk, rfl, hown, hb⟩ := hrel
    have hbw := HB0.out.trans (hb.mono HB0.out.size)
    have y0 : wr.cell? ⟨w.heap.size, 2, none⟩ = some (.slice M.p.A M.p.n M.p.c) := Blk.cell (HK0.out.next hb) 2
    have HBW := Lib.hid hbw
    have HB := Lib.hid hb
    rcases Nat.lt_or_ge k M.p.n with hlt | hge
    · obtain ⟨b, o, xx, hA, hbl, hx, hc⟩ := IR.at_ (HR.out wr hbw) hlt
      obtain ⟨r1, l1, a1⟩ := xx
      have c0 : wr.cell? ⟨b, o + k * 3, none⟩ = some (.int .i64 r1) := hc 0 _ rfl
      have hi0 : (k : Int) < (M.p.n : Int) := by omega
      have HX := Lib.hid hx
      have HO := Lib.hid hown
      rw [hA] at y0
      by_cases hkey : r1 = l
      · have hkb : (r1 == l) = true := by simpa using hkey
        have HP : Hid (picks (fun x => x.1 == l) x.ps (k + 1) = picks (fun x => x.1 == l) x.ps k ++ [(k : Int)]) := Lib.hid (picks_yes hx (by simpa using hkey))
        have hpl := picks_len (fun x => x.1 == l) x.ps k
        clear hc hx hown hb hbw hkey
        generalize picks (fun x => x.1 == l) x.ps k = L at *
        go_wp2_with (at_builtin; refine wpList_append_own _ rfl _ _ 48 rfl W0.heap.size 3 i0 (.int .i64 0) 1 8 Tryz.underlying48 hi hz0 hz1 hz2 rfl (by decide) _ L.length (I64 L) rfl (HO.out.alloc _) ⟨wr.heap.size, 0, none⟩ 1 1 [.int .i64 (k : Int)] rfl rfl (cell_one_new _ _ _) (by intro x hx; simp at hx; subst hx; rfl) (by unfold maxLen; omega) (by omega) (by have := HB.out.size; simp; omega) ?_; intro v' w1 hown1 hgrow1 _)
        have hb1 : Below W0.heap.size W0 w1 := (HB.out.alloc HB.out.size _).grown hgrow1 (by have := HB.out.size; simp; omega) (fun j e => (HO.out.lt j e).1)
        have HO1 := Lib.hid hown1
        have HB1 := Lib.hid hb1
        clear hown1 hgrow1 hb1
        go_roundw
        case rel => rw [hA]; exact ⟨_, _, _, _, _, _, _, _, _, _, _, _, _, _, _, _, _, _, _, _, _, ⟨k + 1, by omega, by go_num, by rw [HP.out, I64_app, List.length_append]; exact HO1.out, HB1.out⟩, rfl⟩
        case measure => simp [intOf]; omega
      · have hkb : (r1 == l) = false := by simpa using hkey
        have HP : Hid (picks (fun x => x.1 == l) x.ps (k + 1) = picks (fun x => x.1 == l) x.ps k) := Lib.hid (picks_no hx (by simpa using hkey))
        clear hc hx hown hb hbw hkey
        go_wp2
        go_roundw
        case rel => exact ⟨k + 1, by omega, by go_num, by rw [HP.out]; exact HO.out, HB.out⟩
        case measure => simp [intOf]; omega
    · obtain rfl : k = M.p.n := by omega
      have hd : decide ((M.p.n : Int) < (M.p.n : Int)) = false := by simp
      have HO := Lib.hid (own_up hown HB0.out.size)
      clear hown hb hbw
      go_wp2
      go_ret
      exact ⟨_, rfl, HO.out, HBW.out⟩
set_option maxHeartbeats 1000000 in
theorem rmembers_any (M : Cm) (x : Cfg) (l : Int) (w : World) (h : CW w M x) :
    Calls Tryz.prog 33 #[.agg #[.slice M.r.A M.r.n M.r.c, .slice M.l.A M.l.n M.l.c, .slice M.p.A M.p.n M.p.c, .slice M.o.A M.o.n M.o.c, .slice M.g.A M.g.n M.g.c, .slice M.s.A M.s.n M.s.c, .slice M.m.A M.m.n M.m.c], .int .i64 l] w fun e w' => ∃ v, e = .returned v ∧ w'.ownsRow w.heap.size 3 1 v (picks (fun x => x.l == l) x.ms M.m.n).length (I64 (picks (fun x => x.l == l) x.ms M.m.n)) ∧ Below w.heap.size w w' := by
  obtain ⟨i0, hi, hz0, hz1, hz2⟩ := info_parts info_int
  have HR : Hid (∀ W, Below w.heap.size w W → IMember W M.m.A M.m.n x.ms) := Lib.hid fun W hW => (h.next hW).m
  have hn := h.mok.2
  have HB0 := Lib.hid ((Below.refl w.heap.size w).alloc (Nat.le_refl _) (.cells #[.slice M.r.A M.r.n M.r.c, .slice M.l.A M.l.n M.l.c, .slice M.p.A M.p.n M.p.c, .slice M.o.A M.o.n M.o.c, .slice M.g.A M.g.n M.g.c, .slice M.s.A M.s.n M.s.c, .slice M.m.A M.m.n M.m.c] 30))
  have HK0 : Hid (Blk (w.alloc (.cells #[.slice M.r.A M.r.n M.r.c, .slice M.l.A M.l.n M.l.c, .slice M.p.A M.p.n M.p.c, .slice M.o.A M.o.n M.o.c, .slice M.g.A M.g.n M.g.c, .slice M.s.A M.s.n M.s.c, .slice M.m.A M.m.n M.m.c] 30)) w.heap.size 30 #[.slice M.r.A M.r.n M.r.c, .slice M.l.A M.l.n M.l.c, .slice M.p.A M.p.n M.p.c, .slice M.o.A M.o.n M.o.c, .slice M.g.A M.g.n M.g.c, .slice M.s.A M.s.n M.s.c, .slice M.m.A M.m.n M.m.c]) := Lib.hid (Blk.new _ _ _)
  clear h
  go_enter Tryz.func33, Tryz.ntmps33
  go_wp2
  generalize w.alloc (.cells #[.slice M.r.A M.r.n M.r.c, .slice M.l.A M.l.n M.l.c, .slice M.p.A M.p.n M.p.c, .slice M.o.A M.o.n M.o.c, .slice M.g.A M.g.n M.g.c, .slice M.s.A M.s.n M.s.c, .slice M.m.A M.m.n M.m.c] 30) = W0 at *
  go_loopw [5, 6] (fun v i wr => ∃ k : Nat, k ≤ M.m.n ∧ i = .int .i64 k ∧ wr.ownsRow W0.heap.size 3 1 v (picks (fun x => x.l == l) x.ms k).length (I64 (picks (fun x => x.l == l) x.ms k)) ∧ Below W0.heap.size W0 wr) (fun _ i _ => M.m.n - (intOf i).toNat)
  case atStart => exact ⟨0, Nat.zero_le _, rfl, World.ownsRow_nil _ _ _ _, Below.refl _ _⟩
  case round =>
    obtain ⟨k, hk, rfl, hown, hb⟩ := hrel
    have hbw := HB0.out.trans (hb.mono HB0.out.size)
    have y0 : wr.cell? ⟨w.heap.size, 6, none⟩ = some (.slice M.m.A M.m.n M.m.c) := Blk.cell (HK0.out.next hb) 6
    have HBW := Lib.hid hbw
    have HB := Lib.hid hb
    rcases Nat.lt_or_ge k M.m.n with hlt | hge
    · obtain ⟨b, o, xx, hA, hbl, hx, hc⟩ := IR.at_ (HR.out wr hbw) hlt
      obtain ⟨l1, g1, o1, A1, n1, c1, xs1⟩ := xx
      have c0 : wr.cell? ⟨b, o + k * 4, none⟩ = some (.int .i64 l1) := hc 0 _ rfl
      have hi0 : (k : Int) < (M.m.n : Int) := by omega
      have HX := Lib.hid hx
      have HO := Lib.hid hown
      rw [hA] at y0
      by_cases hkey : l1 = l
      · have hkb : (l1 == l) = true := by simpa using hkey
        have HP : Hid (picks (fun x => x.l == l) x.ms (k + 1) = picks (fun x => x.l == l) x.ms k ++ [(k : Int)]) := Lib.hid (picks_yes hx (by simpa using hkey))
        have hpl := picks_len (fun x => x.l == l) x.ms k
        clear hc hx hown hb hbw hkey
        generalize picks (fun x => x.l == l) x.ms k = L at *
        go_wp2_with (at_builtin; refine wpList_append_own _ rfl _ _ 48 rfl W0.heap.size 3 i0 (.int .i64 0) 1 8 Tryz.underlying48 hi hz0 hz1 hz2 rfl (by decide) _ L.length (I64 L) rfl (HO.out.alloc _) ⟨wr.heap.size, 0, none⟩ 1 1 [.int .i64 (k : Int)] rfl rfl (cell_one_new _ _ _) (by intro x hx; simp at hx; subst hx; rfl) (by unfold maxLen; omega) (by omega) (by have := HB.out.size; simp; omega) ?_; intro v' w1 hown1 hgrow1 _)
        have hb1 : Below W0.heap.size W0 w1 := (HB.out.alloc HB.out.size _).grown hgrow1 (by have := HB.out.size; simp; omega) (fun j e => (HO.out.lt j e).1)
        have HO1 := Lib.hid hown1
        have HB1 := Lib.hid hb1
        clear hown1 hgrow1 hb1
        go_roundw
        case rel => rw [hA]; exact ⟨_, _, _, _, _, _, _, _, _, _, _, _, _, _, _, _, _, _, _, _, _, ⟨k + 1, by omega, by go_num, by rw [HP.out, I64_app, List.length_append]; exact HO1.out, HB1.out⟩, rfl⟩
        case measure => simp [intOf]; omega
      · have hkb : (l1 == l) = false := by simpa using hkey
        have HP : Hid (picks (fun x => x.l == l) x.ms (k + 1) = picks (fun x => x.l == l) x.ms k) := Lib.hid (picks_no hx (by simpa using hkey))
        clear hc hx hown hb hbw hkey
        go_wp2
        go_roundw
        case rel => exact ⟨k + 1, by omega, by go_num, by rw [HP.out]; exact HO.out, HB.out⟩
        case measure => simp [intOf]; omega
    · obtain rfl : k = M.m.n := by omega
      have hd : decide ((M.m.n : Int) < (M.m.n : Int)) = false := by simp
      have HO := Lib.hid (own_up hown HB0.out.size)
      clear hown hb hbw
      go_wp2
      go_ret
      exact ⟨_, rfl, HO.out, HBW.out⟩
end Go.Proofs.YtbeoalmcibnpaaaGreatDoor
namespace Go.Proofs.YtbeoalmcibnpaaaGreatDoor
open Go.RowKit Lx
set_option maxHeartbeats 1000000 in
theorem rat_any (M : Cm) (x : Cfg) (l : Int) (w : World) (h : CW w M x) :
    Calls Tryz.prog 26 #[.agg #[.slice M.r.A M.r.n M.r.c, .slice M.l.A M.l.n M.l.c, .slice M.p.A M.p.n M.p.c, .slice M.o.A M.o.n M.o.c, .slice M.g.A M.g.n M.g.c, .slice M.s.A M.s.n M.s.c, .slice M.m.A M.m.n M.m.c], .int .u32 l] w fun e w' => e = .returned (.int .i64 (idxI (fun x => x.2.2 == l) x.ps)) ∧ Below w.heap.size w w' := by
  have HR : Hid (∀ W, Below w.heap.size w W → IPort W M.p.A M.p.n x.ps) := Lib.hid fun W hW => (h.next hW).p
  have hn := h.pok.2
  have HB0 := Lib.hid ((Below.refl w.heap.size w).alloc (Nat.le_refl _) (.cells #[.slice M.r.A M.r.n M.r.c, .slice M.l.A M.l.n M.l.c, .slice M.p.A M.p.n M.p.c, .slice M.o.A M.o.n M.o.c, .slice M.g.A M.g.n M.g.c, .slice M.s.A M.s.n M.s.c, .slice M.m.A M.m.n M.m.c] 30))
  have HK0 : Hid (Blk (w.alloc (.cells #[.slice M.r.A M.r.n M.r.c, .slice M.l.A M.l.n M.l.c, .slice M.p.A M.p.n M.p.c, .slice M.o.A M.o.n M.o.c, .slice M.g.A M.g.n M.g.c, .slice M.s.A M.s.n M.s.c, .slice M.m.A M.m.n M.m.c] 30)) w.heap.size 30 #[.slice M.r.A M.r.n M.r.c, .slice M.l.A M.l.n M.l.c, .slice M.p.A M.p.n M.p.c, .slice M.o.A M.o.n M.o.c, .slice M.g.A M.g.n M.g.c, .slice M.s.A M.s.n M.s.c, .slice M.m.A M.m.n M.m.c]) := Lib.hid (Blk.new _ _ _)
  clear h
  go_enter Tryz.func26, Tryz.ntmps26
  go_wp2
  generalize w.alloc (.cells #[.slice M.r.A M.r.n M.r.c, .slice M.l.A M.l.n M.l.c, .slice M.p.A M.p.n M.p.c, .slice M.o.A M.o.n M.o.c, .slice M.g.A M.g.n M.g.c, .slice M.s.A M.s.n M.s.c, .slice M.m.A M.m.n M.m.c] 30) = W0 at *
  go_loopw [5] (fun i wr => ∃ k : Nat, k ≤ M.p.n ∧ i = .int .i64 k ∧ Hid (∀ (j : Nat) y, j < k → x.ps[j]? = some y → (y.2.2 == l) = false) ∧ Below W0.heap.size W0 wr) (fun i _ => M.p.n - (intOf i).toNat)
  case atStart => exact ⟨0, Nat.zero_le _, rfl, Lib.hid fun j x hj => absurd hj (Nat.not_lt_zero _), Below.refl _ _⟩
  case round =>
    obtain ⟨k, hk, rfl, hno, hb⟩ := hrel
    have hbw := HB0.out.trans (hb.mono HB0.out.size)
    have y0 : wr.cell? ⟨w.heap.size, 2, none⟩ = some (.slice M.p.A M.p.n M.p.c) := Blk.cell (HK0.out.next hb) 2
    have HBW := Lib.hid hbw
    have HB := Lib.hid hb
    rcases Nat.lt_or_ge k M.p.n with hlt | hge
    · obtain ⟨b, o, xx, hA, hbl, hx, hc⟩ := IR.at_ (HR.out wr hbw) hlt
      obtain ⟨r1, l1, a1⟩ := xx
      have c0 : wr.cell? ⟨b, o + k * 3 + 2, none⟩ = some (.int .u32 a1) := hc 2 _ rfl
      have hi0 : (k : Int) < (M.p.n : Int) := by omega
      have HX := Lib.hid hx
      rw [hA] at y0
      by_cases hkey : a1 = l
      · have hkb : (a1 == l) = true := by simpa using hkey
        have HP : Hid (idxI (fun x => x.2.2 == l) x.ps = (k : Int)) := Lib.hid (by rw [idxI_hit x.ps k _ hx (by simpa using hkey) hno.out])
        clear hc hx hb hbw hkey hno
        go_wp2
        go_ret
        exact ⟨by rw [HP.out]; rfl, HBW.out⟩
      · have hkb : (a1 == l) = false := by simpa using hkey
        have HN : Hid (∀ (j : Nat) y, j < k + 1 → x.ps[j]? = some y → (y.2.2 == l) = false) := Lib.hid fun j y hj hy => by
          by_cases e : j = k
          · subst e; rw [hx] at hy; injection hy with hy; rw [← hy]; exact hkb
          · exact hno.out j y (by omega) hy
        clear hc hx hb hbw hkey hno
        go_wp2
        go_roundw
        case rel => exact ⟨k + 1, by omega, by go_num, HN, HB.out⟩
        case measure => simp [intOf]; omega
    · obtain rfl : k = M.p.n := by omega
      have hd : decide ((M.p.n : Int) < (M.p.n : Int)) = false := by simp
      have HE : Hid (idxI (fun x => x.2.2 == l) x.ps = -1) := Lib.hid (idxI_none x.ps fun j y hy => hno.out j y (by have := (List.getElem?_eq_some_iff.1 hy).1; rw [(HR.out wr hbw).len] at this; exact this) hy)
      clear hno hb hbw
      go_wp2
      go_ret
      exact ⟨by rw [HE.out]; rfl, HBW.out⟩
end Go.Proofs.YtbeoalmcibnpaaaGreatDoor

