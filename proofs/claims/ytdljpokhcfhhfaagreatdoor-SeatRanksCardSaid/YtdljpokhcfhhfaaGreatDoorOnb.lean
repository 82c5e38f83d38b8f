/- Rows of numbers as they lie in memory: held against one another, copied; over the seat's program. The document's places of ports and members over a network in memory: On, Of, Members, At; over the seat's program. The document's places of ports and members over a network in memory: On, Of, Members, At; over the seat's program. -/
import Derived.Test.YtdljpokhcfhhfaaGreatDoorOn
import Derived.Test.YtdljpokhcfhhfaaGreatDoorAsb
import Derived.Test.YtdljpokhcfhhfaaGreatDoorKit
import Derived.Test.YtdljpokhcfhhfaaGreatDoorProg
import Derived.WalkKit
import Derived.BigQuiet
import Derived.Deep.QuietTactic
import Derived.Deep.DeepAppendRoom
import Derived.Lib.SliceRun
import Derived.Maps.AppendAt
import Derived.OwnWalk
import Derived.Test.YtdljpokhcfhhfaaGreatDoorCw
namespace Go.Proofs.YtdljpokhcfhhfaaGreatDoor
open Go.RowKit
theorem I64_len (xs : List Int) : (I64 xs).length = xs.length := by simp [I64]
section
variable {w w' : World} {A : Option Addr} {n : Nat} {xs : List Int}

end

set_option maxHeartbeats 1000000 in
theorem ints_any (A : Option Addr) (n c : Nat) (xs : List Int) (w : World) (h : JR w A n xs) (hn : n ≤ 1000000) :
    Calls Tryz.prog 205 #[.slice A n c] w fun e w' => ∃ g c', e = .returned (.slice (some ⟨g, 0, none⟩) n c') ∧ w.heap.size ≤ g ∧ w'.ownsRow w.heap.size 3 1 (.slice (some ⟨g, 0, none⟩) n c') n (I64 xs) ∧ Below w.heap.size w w' := by
  obtain ⟨i0, hi, hz0, hz1, hz2⟩ := info_parts info_int
  have hl := h.1
  go_enter Tryz.func205, Tryz.ntmps205
  go_wp2_with (at_make; refine wpList_make_own _ rfl _ _ 52 rfl w.heap.size 3 i0 (.int .i64 0) 1 Tryz.underlying52 hi hz0 hz1 .i64 .i64 _ n rfl rfl rfl (by rw [hz2]; omega) (by unfold maxLen; omega) (Nat.le_refl _) ?_; intro w0 hown0 hgrow0)
  have hb0 : Below w.heap.size w w0 := (Below.refl _ _).grown hgrow0 (Nat.le_refl _) (by intro k hk; cases hk)
  generalize hG : w.heap.size = G at *
  go_loopw [3, 4] (fun v i wr => ∃ k : Nat, k ≤ n ∧ i = .int .i64 k ∧ v = .slice (some ⟨G, 0, none⟩) k n ∧ wr.ownsRow G 3 1 (.slice (some ⟨G, 0, none⟩) k n) k (I64 (xs.take k)) ∧ Below G w wr) (fun _ i _ => n - (intOf i).toNat)
  case atStart => exact ⟨0, Nat.zero_le _, rfl, rfl, by simpa [I64] using hown0, hb0⟩
  case round =>
    obtain ⟨k, hk, rfl, rfl, hown, hbw⟩ := hrel
    rcases Nat.lt_or_ge k n with hlt | hge
    · obtain ⟨b, o, rfl, hlt0, hc0⟩ := (h.next (hG ▸ hbw)).at_ hlt
      have HT := Lib.hid (take_next (xs := xs) (k := k) (by omega))
      generalize xs.getD k 0 = u at *
      generalize List.take k xs = L at *
      have hi0 : (k : Int) < n := by omega
      go_wp2_with (at_builtin; refine wpList_append_own_spare _ rfl _ _ 52 rfl G 3 i0 1 Tryz.underlying52 hi hz1 G k n _ rfl (hown.alloc _) ⟨wr.heap.size, 0, none⟩ 1 1 [.int .i64 u] rfl rfl (cell_one_new _ _ _) (by intro x hx; simp at hx; subst hx; rfl) (by omega) ?_; intro w1 hown1 hgrow1)
      have hb1 : Below G w w1 := (hbw.alloc (hG ▸ hbw.size) _).grown hgrow1 (by simp; have := hbw.size; omega) (by intro k hk; cases hk; exact Nat.le_refl _)
      go_roundw
      case rel => exact ⟨k + 1, by omega, by go_num, rfl, by rw [HT.out, I64_app]; exact hown1, hb1⟩
      case measure => simp [intOf]; omega
    · obtain rfl : k = n := by omega
      rw [List.take_of_length_le (by omega)] at hown
      subst hG
      go_wp2
      go_ret
      exact ⟨w.heap.size, k, rfl, Nat.le_refl _, hown, hbw⟩
end Go.Proofs.YtdljpokhcfhhfaaGreatDoor
namespace Go.Proofs.YtdljpokhcfhhfaaGreatDoor
open Go.RowKit Lx
/-- the first place at which something holds, or -1 -/
def firstAt {α : Type} (p : α → Bool) (xs : List α) : Int := match picks p xs xs.length with | [] => -1 | i :: _ => i
set_option maxHeartbeats 1000000 in
theorem rof_any (M : Cm) (x : Cfg) (l : Int) (w : World) (h : CW w M x) :
    Calls Tryz.prog 50 #[.agg #[.slice M.r.A M.r.n M.r.c, .slice M.l.A M.l.n M.l.c, .slice M.p.A M.p.n M.p.c, .slice M.o.A M.o.n M.o.c, .slice M.g.A M.g.n M.g.c, .slice M.s.A M.s.n M.s.c, .slice M.m.A M.m.n M.m.c], .int .i64 l] w fun e w' => ∃ v, e = .returned v ∧ w'.ownsRow w.heap.size 3 1 v (picks (fun x => x.1 == l) x.ps M.p.n).length (I64 (picks (fun x => x.1 == l) x.ps M.p.n)) ∧ Below w.heap.size w w' := by
  obtain ⟨i0, hi, hz0, hz1, hz2⟩ := info_parts info_int
  have HR : Hid (∀ W, Below w.heap.size w W → IPort W M.p.A M.p.n x.ps) := Lib.hid fun W hW => (h.next hW).p
  have hn := h.pok.2
  have HB0 := Lib.hid ((Below.refl w.heap.size w).alloc (Nat.le_refl _) (.cells #[.slice M.r.A M.r.n M.r.c, .slice M.l.A M.l.n M.l.c, .slice M.p.A M.p.n M.p.c, .slice M.o.A M.o.n M.o.c, .slice M.g.A M.g.n M.g.c, .slice M.s.A M.s.n M.s.c, .slice M.m.A M.m.n M.m.c] 30))
  have HK0 : Hid (Blk (w.alloc (.cells #[.slice M.r.A M.r.n M.r.c, .slice M.l.A M.l.n M.l.c, .slice M.p.A M.p.n M.p.c, .slice M.o.A M.o.n M.o.c, .slice M.g.A M.g.n M.g.c, .slice M.s.A M.s.n M.s.c, .slice M.m.A M.m.n M.m.c] 30)) w.heap.size 30 #[.slice M.r.A M.r.n M.r.c, .slice M.l.A M.l.n M.l.c, .slice M.p.A M.p.n M.p.c, .slice M.o.A M.o.n M.o.c, .slice M.g.A M.g.n M.g.c, .slice M.s.A M.s.n M.s.c, .slice M.m.A M.m.n M.m.c]) := Lib.hid (Blk.new _ _ _)
  clear h
  go_enter Tryz.func50, Tryz.ntmps50
  go_wp2
  generalize w.alloc (.cells #[.slice M.r.A M.r.n M.r.c, .slice M.l.A M.l.n M.l.c, .slice M.p.A M.p.n M.p.c, .slice M.o.A M.o.n M.o.c, .slice M.g.A M.g.n M.g.c, .slice M.s.A M.s.n M.s.c, .slice M.m.A M.m.n M.m.c] 30) = W0 at *
  go_loopw [5, 6] (fun v i wr => ∃ k : Nat, k ≤ M.p.n ∧ i = .int .i64 k ∧ wr.ownsRow W0.heap.size 3 1 v (picks (fun x => x.1 == l) x.ps k).length (I64 (picks (fun x => x.1 == l) x.ps k)) ∧ Below W0.heap.size W0 wr) (fun _ i _ => M.p.n - (intOf i).toNat)
  case atStart => exact ⟨0, Nat.zero_le _, rfl, World.ownsRow_nil _ _ _ _, Below.refl _ _⟩
  case round =>
    obtain ⟨k, hk, rfl, hown, hb⟩ := hrel
    have hbw := HB0.out.trans (hb.mono HB0.out.size)
    have y0 : wr.cell? ⟨w.heap.size, 2, none⟩ = some (.slice M.p.A M.p.n M.p.c) := Blk.cell (HK0.out.next hb) 2
    have HBW := Lib.hid hbw
    have HB := Lib.hid hb
    rcases Nat.lt_or_ge k M.p.n with hlt | hge
    · obtain ⟨b, o, xx, hA, hbl, hx, hc⟩ := IR.at_ (HR.out wr hbw) hlt
      obtain ⟨r1, l1, a1⟩ := xx
      have c0 : wr.cell? ⟨b, o + k * 3, none⟩ = some (.int .i64 r1) := hc 0 _ rfl
      have hi0 : (k : Int) < (M.p.n : Int) := by omega
      have HX := Lib.hid hx
      have HO := Lib.hid hown
      rw [hA] at y0
      by_cases hkey : r1 = l
      · have hkb : (r1 == l) = true := by simpa using hkey
        have HP : Hid (picks (fun x => x.1 == l) x.ps (k + 1) = picks (fun x => x.1 == l) x.ps k ++ [(k : Int)]) := Lib.hid (picks_yes hx (by simpa using hkey))
        have hpl := picks_len (fun x => x.1 == l) x.ps k
        clear hc hx hown hb hbw hkey
        generalize picks (fun x => x.1 == l) x.ps k = L at *
        go_wp2_with (at_builtin; refine wpList_append_own _ rfl _ _ 52 rfl W0.heap.size 3 i0 (.int .i64 0) 1 8 Tryz.underlying52 hi hz0 hz1 hz2 rfl (by decide) _ L.length (I64 L) rfl (HO.out.alloc _) ⟨wr.heap.size, 0, none⟩ 1 1 [.int .i64 (k : Int)] rfl rfl (cell_one_new _ _ _) (by intro x hx; simp at hx; subst hx; rfl) (by unfold maxLen; omega) (by omega) (by have := HB.out.size; simp; omega) ?_; intro v' w1 hown1 hgrow1 _)
        have hb1 : Below W0.heap.size W0 w1 := (HB.out.alloc HB.out.size _).grown hgrow1 (by have := HB.out.size; simp; omega) (fun j e => (HO.out.lt j e).1)
        have HO1 := Lib.hid hown1
        have HB1 := Lib.hid hb1
        clear hown1 hgrow1 hb1
        go_roundw
        case rel => rw [hA]; exact ⟨_, _, _, _, _, _, _, _, _, _, _, _, _, _, _, _, _, _, _, _, _, ⟨k + 1, by omega, by go_num, by rw [HP.out, I64_app, List.length_append]; exact HO1.out, HB1.out⟩, rfl⟩
        case measure => simp [intOf]; omega
      · have hkb : (r1 == l) = false := by simpa using hkey
        have HP : Hid (picks (fun x => x.1 == l) x.ps (k + 1) = picks (fun x => x.1 == l) x.ps k) := Lib.hid (picks_no hx (by simpa using hkey))
        clear hc hx hown hb hbw hkey
        go_wp2
        go_roundw
        case rel => exact ⟨k + 1, by omega, by go_num, by rw [HP.out]; exact HO.out, HB.out⟩
        case measure => simp [intOf]; omega
    · obtain rfl : k = M.p.n := by omega
      have hd : decide ((M.p.n : Int) < (M.p.n : Int)) = false := by simp
      have HO := Lib.hid (own_up hown HB0.out.size)
      clear hown hb hbw
      go_wp2
      go_ret
      exact ⟨_, rfl, HO.out, HBW.out⟩
end Go.Proofs.YtdljpokhcfhhfaaGreatDoor
namespace Go.Proofs.YtdljpokhcfhhfaaGreatDoor
open Go.RowKit Lx
set_option maxHeartbeats 1000000 in
theorem rat_any (M : Cm) (x : Cfg) (l : Int) (w : World) (h : CW w M x) :
    Calls Tryz.prog 59 #[.agg #[.slice M.r.A M.r.n M.r.c, .slice M.l.A M.l.n M.l.c, .slice M.p.A M.p.n M.p.c, .slice M.o.A M.o.n M.o.c, .slice M.g.A M.g.n M.g.c, .slice M.s.A M.s.n M.s.c, .slice M.m.A M.m.n M.m.c], .int .u32 l] w fun e w' => e = .returned (.int .i64 (idxI (fun x => x.2.2 == l) x.ps)) ∧ Below w.heap.size w w' := by
  have HR : Hid (∀ W, Below w.heap.size w W → IPort W M.p.A M.p.n x.ps) := Lib.hid fun W hW => (h.next hW).p
  have hn := h.pok.2
  have HB0 := Lib.hid ((Below.refl w.heap.size w).alloc (Nat.le_refl _) (.cells #[.slice M.r.A M.r.n M.r.c, .slice M.l.A M.l.n M.l.c, .slice M.p.A M.p.n M.p.c, .slice M.o.A M.o.n M.o.c, .slice M.g.A M.g.n M.g.c, .slice M.s.A M.s.n M.s.c, .slice M.m.A M.m.n M.m.c] 30))
  have HK0 : Hid (Blk (w.alloc (.cells #[.slice M.r.A M.r.n M.r.c, .slice M.l.A M.l.n M.l.c, .slice M.p.A M.p.n M.p.c, .slice M.o.A M.o.n M.o.c, .slice M.g.A M.g.n M.g.c, .slice M.s.A M.s.n M.s.c, .slice M.m.A M.m.n M.m.c] 30)) w.heap.size 30 #[.slice M.r.A M.r.n M.r.c, .slice M.l.A M.l.n M.l.c, .slice M.p.A M.p.n M.p.c, .slice M.o.A M.o.n M.o.c, .slice M.g.A M.g.n M.g.c, .slice M.s.A M.s.n M.s.c, .slice M.m.A M.m.n M.m.c]) := Lib.hid (Blk.new _ _ _)
  clear h
  go_enter Tryz.func59, Tryz.ntmps59
  go_wp2
  generalize w.alloc (.cells #[.slice M.r.A M.r.n M.r.c, .slice M.l.A M.l.n M.l.c, .slice M.p.A M.p.n M.p.c, .slice M.o.A M.o.n M.o.c, .slice M.g.A M.g.n M.g.c, .slice M.s.A M.s.n M.s.c, .slice M.m.A M.m.n M.m.c] 30) = W0 at *
  go_loopw [5] (fun i wr => ∃ k : Nat, k ≤ M.p.n ∧ i = .int .i64 k ∧ Hid (∀ (j : Nat) y, j < k → x.ps[j]? = some y → (y.2.2 == l) = false) ∧ Below W0.heap.size W0 wr) (fun i _ => M.p.n - (intOf i).toNat)
  case atStart => exact ⟨0, Nat.zero_le _, rfl, Lib.hid fun j x hj => absurd hj (Nat.not_lt_zero _), Below.refl _ _⟩
  case round =>
    obtain ⟨k, hk, rfl, hno, hb⟩ := hrel
    have hbw := HB0.out.trans (hb.mono HB0.out.size)
    have y0 : wr.cell? ⟨w.heap.size, 2, none⟩ = some (.slice M.p.A M.p.n M.p.c) := Blk.cell (HK0.out.next hb) 2
    have HBW := Lib.hid hbw
    have HB := Lib.hid hb
    rcases Nat.lt_or_ge k M.p.n with hlt | hge
    · obtain ⟨b, o, xx, hA, hbl, hx, hc⟩ := IR.at_ (HR.out wr hbw) hlt
      obtain ⟨r1, l1, a1⟩ := xx
      have c0 : wr.cell? ⟨b, o + k * 3 + 2, none⟩ = some (.int .u32 a1) := hc 2 _ rfl
      have hi0 : (k : Int) < (M.p.n : Int) := by omega
      have HX := Lib.hid hx
      rw [hA] at y0
      by_cases hkey : a1 = l
      · have hkb : (a1 == l) = true := by simpa using hkey
        have HP : Hid (idxI (fun x => x.2.2 == l) x.ps = (k : Int)) := Lib.hid (by rw [idxI_hit x.ps k _ hx (by simpa using hkey) hno.out])
        clear hc hx hb hbw hkey hno
        go_wp2
        go_ret
        exact ⟨by rw [HP.out]; rfl, HBW.out⟩
      · have hkb : (a1 == l) = false := by simpa using hkey
        have HN : Hid (∀ (j : Nat) y, j < k + 1 → x.ps[j]? = some y → (y.2.2 == l) = false) := Lib.hid fun j y hj hy => by
          by_cases e : j = k
          · subst e; rw [hx] at hy; injection hy with hy; rw [← hy]; exact hkb
          · exact hno.out j y (by omega) hy
        clear hc hx hb hbw hkey hno
        go_wp2
        go_roundw
        case rel => exact ⟨k + 1, by omega, by go_num, HN, HB.out⟩
        case measure => simp [intOf]; omega
    · obtain rfl : k = M.p.n := by omega
      have hd : decide ((M.p.n : Int) < (M.p.n : Int)) = false := by simp
      have HE : Hid (idxI (fun x => x.2.2 == l) x.ps = -1) := Lib.hid (idxI_none x.ps fun j y hy => hno.out j y (by have := (List.getElem?_eq_some_iff.1 hy).1; rw [(HR.out wr hbw).len] at this; exact this) hy)
      clear hno hb hbw
      go_wp2
      go_ret
      exact ⟨by rw [HE.out]; rfl, HBW.out⟩
end Go.Proofs.YtdljpokhcfhhfaaGreatDoor

