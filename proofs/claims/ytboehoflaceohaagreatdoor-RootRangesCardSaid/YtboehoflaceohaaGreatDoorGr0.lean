/- topo.groups over a network without sources and members: no groups; over the seat's program. -/
import Derived.Test.YtboehoflaceohaaGreatDoorCw
import Derived.Test.YtboehoflaceohaaGreatDoorKa
import Derived.Test.YtboehoflaceohaaGreatDoorShelf
import Derived.Test.YtboehoflaceohaaGreatDoorCl0
import Derived.OwnWalk
import Derived.Handy
import Derived.Carry
namespace Go.Proofs.YtboehoflaceohaaGreatDoor
open Go.RowKit Lx
theorem ins0_any (A : Option Addr) (c : Nat) (w : World) :
    Calls Tryz.prog 123 #[.slice A 0 c, .int .i64 0, .int .i64 0] w fun e w' => e = .returned (.tuple #[]) ∧ Below w.heap.size w w' := by
  go_enter Tryz.func123, Tryz.ntmps123
  go_wp2
  go_loopw [6] (fun i wr => i = .int .i64 1 ∧ Below w.heap.size w wr) (fun _ _ => 0)
  case atStart => exact ⟨rfl, Below.refl _ _⟩
  case round =>
    obtain ⟨rfl, hb⟩ := hrel
    go_wp2
    go_returns
    exact ⟨rfl, hb⟩
theorem pdq0_any (A : Option Addr) (c : Nat) (l : Int) (w : World) :
    Calls Tryz.prog 118 #[.slice A 0 c, .int .i64 0, .int .i64 0, .int .i64 l] w fun e w' => e = .returned (.tuple #[]) ∧ Below w.heap.size w w' := by
  go_enter Tryz.func118, Tryz.ntmps118
  go_wp2
  go_loopw [1, 2, 3, 8, 9] (fun a b l' x y wr => a = .int .i64 0 ∧ b = .int .i64 0 ∧ l' = .int .i64 l ∧ x = .bool true ∧ y = .bool true ∧ Below w.heap.size w wr) (fun _ _ _ _ _ _ => 0)
  case atStart => exact ⟨rfl, rfl, rfl, rfl, rfl, Below.refl _ _⟩
  case round =>
    obtain ⟨rfl, rfl, rfl, rfl, rfl, hb⟩ := hrel
    go_wp2_with (go_at_call 123; refine (ins0_any A c _).mono ?_; rintro e w1 ⟨rfl, hb1⟩)
    go_returns
    exact ⟨rfl, below_next hb hb1⟩
theorem sort0_any (A : Option Addr) (c : Nat) (w : World) :
    Calls Tryz.prog 92 #[.slice A 0 c] w fun e w' => e = .returned (.tuple #[]) ∧ Below w.heap.size w w' := by
  have HL := Lib.hid (fun W => Tryz.bits_Len 0 W (by omega) (by omega))
  go_enter Tryz.func92, Tryz.ntmps92
  go_wp2_with (first
    | (go_at_call 119; refine (HL.out _).mono ?_; rintro e w1 ⟨rfl, rfl⟩)
    | (go_at_call 118; refine (pdq0_any A c _ _).mono ?_; rintro e w1 ⟨rfl, hb⟩))
  go_returns
  exact ⟨rfl, hb⟩
theorem eKeysU : ∀ args w, (callFunc 93 args).run Tryz.prog w = .ok (.enter 93 args) w := enters_of Tryz.func93 (by kernel_rfl) rfl
theorem allMet_nil {ss : List Int} (h : AllMetU (.map []) ss) : ss = [] := by
  obtain ⟨left, hm, _⟩ := h
  cases ss with
  | nil => rfl
  | cons x ss =>
    obtain ⟨kl, hk⟩ := hm.keys x (List.mem_cons_self ..)
    have := ((hm.just x kl hk).1 (List.mem_cons_self ..)).1
    simp [Maps.has] at this
set_option maxHeartbeats 1000000 in
theorem sorted0_any (Bm b nn : Nat) (w : World) (hBm : Bm < w.heap.size) (hm : w.cell? ⟨Bm, 0, none⟩ = some (.map (some b))) (hown : w.ownsMap Tryz.prog 35 (plainElem (H := Unit) Tryz.prog 3) b nn (.map [])) :
    Calls Tryz.prog 43 #[.func (.func 93) #[] #[.pointer (some ⟨Bm, 0, none⟩)]] w fun e w' =>
      ∃ (A : Option Addr) (c : Nat), e = .returned (.slice A 0 c) ∧ w'.ownsRow w.heap.size 35 1 (.slice A 0 c) 0 [] ∧ Below w.heap.size w w' := by
  have hcol := callsIn_wide.1 (collect_inU Fence.wide 3 trivial trivial rfl (by omega) _ _ trivial eKeysU _ _ _ (by simp [Maps.size]) w w (Below.refl _ _) (keys_stopsU Fence.wide 1 trivial rfl (by omega) Bm b nn (.map []) w hBm hm hown))
  clear hown hm
  go_enter Tryz.func43, Tryz.ntmps43
  go_wp2_with fail
  refine hcol.mono ?_
  rintro e w1 ⟨v, ss, rfl, hS, hrow, hb⟩
  obtain rfl := allMet_nil hS
  have hv : ∃ (A : Option Addr) (c : Nat), v = .slice A 0 c := by
    rcases hrow.2 with ⟨rfl, _⟩ | ⟨g, cap, cur, rfl, _⟩
    · exact ⟨_, _, rfl⟩
    · exact ⟨_, _, rfl⟩
  obtain ⟨A, c, rfl⟩ := hv
  have HB := Lib.hid hb
  have HR := Lib.hid hrow
  clear hrow hS hb hcol
  go_wp2_with (go_at_call 92; refine (sort0_any A c _).mono ?_; rintro e w2 ⟨rfl, hb2⟩)
  go_ret
  exact ⟨A, c, rfl, ownk_next HR.out hb2, below_next HB.out hb2⟩
set_option maxHeartbeats 1000000 in
theorem groups0_any (M : Cm) (w : World) (hs : M.s.n = 0) (hm : M.m.n = 0) :
    Calls Tryz.prog 20 #[.agg #[.slice M.r.A M.r.n M.r.c, .slice M.l.A M.l.n M.l.c, .slice M.p.A M.p.n M.p.c, .slice M.o.A M.o.n M.o.c, .slice M.g.A M.g.n M.g.c, .slice M.s.A M.s.n M.s.c, .slice M.m.A M.m.n M.m.c]] w fun e w' => ∃ (A : Option Addr) (c : Nat), e = .returned (.slice A 0 c) ∧ w'.ownsRow w.heap.size 35 1 (.slice A 0 c) 0 [] ∧ Below w.heap.size w w' := by
  rw [hs, hm]
  have hmm := @run_makeMap Tryz.prog
  go_enter Tryz.func20, Tryz.ntmps20
  go_wp2
  generalize hW1 : (w.alloc (.cells #[.slice M.r.A M.r.n M.r.c, .slice M.l.A M.l.n M.l.c, .slice M.p.A M.p.n M.p.c, .slice M.o.A M.o.n M.o.c, .slice M.g.A M.g.n M.g.c, .slice M.s.A 0 M.s.c, .slice M.m.A 0 M.m.c] 32)).alloc (.map #[] 0) = W1
  have y6 : W1.cell? ⟨w.heap.size, 6, none⟩ = some (.slice M.m.A 0 M.m.c) := by rw [← hW1]; exact Blk.cell ((Blk.new _ _ _).alloc _) 6
  have hown : W1.ownsMap Tryz.prog 35 (plainElem (H := Unit) Tryz.prog 3) (w.heap.size + 1) 0 (.map []) := by
    have := World.ownsMap_made (w.alloc (.cells #[.slice M.r.A M.r.n M.r.c, .slice M.l.A M.l.n M.l.c, .slice M.p.A M.p.n M.p.c, .slice M.o.A M.o.n M.o.c, .slice M.g.A M.g.n M.g.c, .slice M.s.A 0 M.s.c, .slice M.m.A 0 M.m.c] 32)) Tryz.prog 35 (plainElem (H := Unit) Tryz.prog 3)
    rw [hW1] at this
    simpa using this
  have hb : Below w.heap.size w W1 := by
    rw [← hW1]
    exact ((Below.refl _ _).alloc (Nat.le_refl _) _).alloc (by simp) _
  have HO := Lib.hid hown
  have HB := Lib.hid hb
  clear hW1 hown hb
  go_loopw [12] (fun i wr => i = .int .i64 0 ∧ wr = W1) (fun _ _ => 0)
  case atStart => exact ⟨rfl, rfl⟩
  case round =>
    obtain ⟨rfl, rfl⟩ := hrel
    go_wp2
    go_loopw [26] (fun i wr' => i = .int .i64 0 ∧ wr' = wr) (fun _ _ => 0)
    case atStart => exact ⟨rfl, rfl⟩
    case round =>
      obtain ⟨rfl, rfl⟩ := hrel
      go_wp2_with (first
        | (go_at_call 44; refine (callsIn_wide.1 (keys_inU Fence.wide 1 trivial rfl (some (w.heap.size + 1)) _)).mono ?_; rintro e w1 ⟨rfl, hw1⟩)
        | (go_at_call 43; subst hw1; refine (sorted0_any wr.heap.size (w.heap.size + 1) 0 _ (by simp) (by go_simp) (HO.out.alloc _)).mono ?_; rintro e w2 ⟨A, c, rfl, hr2, hb2⟩))
      go_ret
      exact ⟨A, c, rfl, ownk_up hr2 (by have := HB.out.size; simp; omega), (HB.out.alloc HB.out.size _).trans (hb2.mono (by have := HB.out.size; simp; omega))⟩
end Go.Proofs.YtboehoflaceohaaGreatDoor

