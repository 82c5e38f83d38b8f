/- The document's places of ports and members over a network in memory: On, Of, Members, At; over the seat's program. The document's places of ports and members over a network in memory: On, Of, Members, At; over the seat's program. -/
import Derived.Test.YtahnnaagpeinkaaGreatDoorCw
import Derived.Test.YtahnnaagpeinkaaGreatDoorJr
import Derived.OwnWalk
namespace Go.Proofs.YtahnnaagpeinkaaGreatDoor
open Go.RowKit Lx
/-- the places, of the first n, at which something holds, rising -/
def picks {α : Type} (p : α → Bool) (xs : List α) : Nat → List Int
  | 0 => []
  | n + 1 => picks p xs n ++ (match xs[n]? with | some x => if p x then [(n : Int)] else [] | none => [])
theorem picks_yes {α : Type} {p : α → Bool} {xs : List α} {n : Nat} {x : α} (h : xs[n]? = some x) (hp : p x = true) : picks p xs (n + 1) = picks p xs n ++ [(n : Int)] := by
  show _ ++ _ = _; rw [h]; simp [hp]
theorem picks_no {α : Type} {p : α → Bool} {xs : List α} {n : Nat} {x : α} (h : xs[n]? = some x) (hp : p x = false) : picks p xs (n + 1) = picks p xs n := by
  show _ ++ _ = _; rw [h]; simp [hp]
theorem picks_len {α : Type} (p : α → Bool) (xs : List α) (n : Nat) : (picks p xs n).length ≤ n := by
  induction n with
  | zero => simp [picks]
  | succ n ih =>
    unfold picks
    rw [List.length_append]
    split
    · split <;> simp <;> omega
    · simp; omega
/-- the first place at which something holds, or -1 -/
def firstAt {α : Type} (p : α → Bool) (xs : List α) : Int := match picks p xs xs.length with | [] => -1 | i :: _ => i
set_option maxHeartbeats 1000000 in
theorem rof_any (M : Cm) (x : Cfg) (l : Int) (w : World) (h : CW w M x) :
    Calls Tryz.prog 29 #[.agg #[.slice M.r.A M.r.n M.r.c, .slice M.l.A M.l.n M.l.c, .slice M.p.A M.p.n M.p.c, .slice M.o.A M.o.n M.o.c, .slice M.g.A M.g.n M.g.c, .slice M.s.A M.s.n M.s.c, .slice M.m.A M.m.n M.m.c], .int .i64 l] w fun e w' => ∃ v, e = .returned v ∧ w'.ownsRow w.heap.size 3 1 v (picks (fun x => x.1 == l) x.ps M.p.n).length (I64 (picks (fun x => x.1 == l) x.ps M.p.n)) ∧ Below w.heap.size w w' := by
  obtain ⟨i0, hi, hz0, hz1, hz2⟩ := info_parts info_int
  have HR : Hid (∀ W, Below w.heap.size w W → IPort W M.p.A M.p.n x.ps) := Lib.hid fun W hW => (h.next hW).p
  have hn := h.pok.2
  have HB0 := Lib.hid ((Below.refl w.heap.size w).alloc (Nat.le_refl _) (.cells #[.slice M.r.A M.r.n M.r.c, .slice M.l.A M.l.n M.l.c, .slice M.p.A M.p.n M.p.c, .slice M.o.A M.o.n M.o.c, .slice M.g.A M.g.n M.g.c, .slice M.s.A M.s.n M.s.c, .slice M.m.A M.m.n M.m.c] 30))
  have HK0 : Hid (Blk (w.alloc (.cells #[.slice M.r.A M.r.n M.r.c, .slice M.l.A M.l.n M.l.c, .slice M.p.A M.p.n M.p.c, .slice M.o.A M.o.n M.o.c, .slice M.g.A M.g.n M.g.c, .slice M.s.A M.s.n M.s.c, .slice M.m.A M.m.n M.m.c] 30)) w.heap.size 30 #[.slice M.r.A M.r.n M.r.c, .slice M.l.A M.l.n M.l.c, .slice M.p.A M.p.n M.p.c, .slice M.o.A M.o.n M.o.c, .slice M.g.A M.g.n M.g.c, .slice M.s.A M.s.n M.s.c, .slice M.m.A M.m.n M.m.c]) := Lib.hid (Blk.new _ _ _)
  clear h
  go_enter Tryz.func29, Tryz.ntmps29
  go_wp2
  generalize w.alloc (.cells #[.slice M.r.A M.r.n M.r.c, .slice M.l.A M.l.n M.l.c, .slice M.p.A M.p.n M.p.c, .slice M.o.A M.o.n M.o.c, .slice M.g.A M.g.n M.g.c, .slice M.s.A M.s.n M.s.c, .slice M.m.A M.m.n M.m.c] 30) = W0 at *
  go_loopw [5, 6] (fun v i wr => ∃ k : Nat, k ≤ M.p.n ∧ i = .int .i64 k ∧ wr.ownsRow W0.heap.size 3 1 v (picks (fun x => x.1 == l) x.ps k).length (I64 (picks (fun x => x.1 == l) x.ps k)) ∧ Below W0.heap.size W0 wr) (fun _ i _ => M.p.n - (intOf i).toNat)
  case atStart => exact ⟨0, Nat.zero_le _, rfl, World.ownsRow_nil _ _ _ _, Below.refl _ _⟩
  case round =>
    obtain ⟨k, hk, rfl, hown, hb⟩ := hrel
    have hbw := HB0.out.trans (hb.mono HB0.out.size)
    have y0 : wr.cell? ⟨w.heap.size, 2, none⟩ = some (.slice M.p.A M.p.n M.p.c) := Blk.cell (HK0.out.next hb) 2
    have HBW := Lib.hid hbw
    have HB := Lib.hid hb
    rcases Nat.lt_or_ge k M.p.n with hlt | hge
    · obtain ⟨b, o, xx, hA, hbl, hx, hc⟩ := IR.at_ (HR.out wr hbw) hlt
      obtain ⟨r1, l1, a1⟩ := xx
      have c0 : wr.cell? ⟨b, o + k * 3, none⟩ = some (.int .i64 r1) := hc 0 _ rfl
      have hi0 : (k : Int) < (M.p.n : Int) := by omega
      have HX := Lib.hid hx
      have HO := Lib.hid hown
      rw [hA] at y0
      by_cases hkey : r1 = l
      · have hkb : (r1 == l) = true := by simpa using hkey
        have HP : Hid (picks (fun x => x.1 == l) x.ps (k + 1) = picks (fun x => x.1 == l) x.ps k ++ [(k : Int)]) := Lib.hid (picks_yes hx (by simpa using hkey))
        have hpl := picks_len (fun x => x.1 == l) x.ps k
        clear hc hx hown hb hbw hkey
        generalize picks (fun x => x.1 == l) x.ps k = L at *
        go_wp2_with (at_builtin; refine wpList_append_own _ rfl _ _ 52 rfl W0.heap.size 3 i0 (.int .i64 0) 1 8 Tryz.underlying52 hi hz0 hz1 hz2 rfl (by decide) _ L.length (I64 L) rfl (HO.out.alloc _) ⟨wr.heap.size, 0, none⟩ 1 1 [.int .i64 (k : Int)] rfl rfl (cell_one_new _ _ _) (by intro x hx; simp at hx; subst hx; rfl) (by unfold maxLen; omega) (by omega) (by have := HB.out.size; simp; omega) ?_; intro v' w1 hown1 hgrow1 _)
        have hb1 : Below W0.heap.size W0 w1 := (HB.out.alloc HB.out.size _).grown hgrow1 (by have := HB.out.size; simp; omega) (fun j e => (HO.out.lt j e).1)
        have HO1 := Lib.hid hown1
        have HB1 := Lib.hid hb1
        clear hown1 hgrow1 hb1
        go_roundw
        case rel => rw [hA]; exact ⟨_, _, _, _, _, _, _, _, _, _, _, _, _, _, _, _, _, _, _, _, _, ⟨k + 1, by omega, by go_num, by rw [HP.out, I64_app, List.length_append]; exact HO1.out, HB1.out⟩, rfl⟩
        case measure => simp [intOf]; omega
      · have hkb : (r1 == l) = false := by simpa using hkey
        have HP : Hid (picks (fun x => x.1 == l) x.ps (k + 1) = picks (fun x => x.1 == l) x.ps k) := Lib.hid (picks_no hx (by simpa using hkey))
        clear hc hx hown hb hbw hkey
        go_wp2
        go_roundw
        case rel => exact ⟨k + 1, by omega, by go_num, by rw [HP.out]; exact HO.out, HB.out⟩
        case measure => simp [intOf]; omega
    · obtain rfl : k = M.p.n := by omega
      have hd : decide ((M.p.n : Int) < (M.p.n : Int)) = false := by simp
      have HO := Lib.hid (own_up hown HB0.out.size)
      clear hown hb hbw
      go_wp2
      go_ret
      exact ⟨_, rfl, HO.out, HBW.out⟩
end Go.Proofs.YtahnnaagpeinkaaGreatDoor
namespace Go.Proofs.YtahnnaagpeinkaaGreatDoor
open Go.RowKit Lx
end Go.Proofs.YtahnnaagpeinkaaGreatDoor

