/- The chapter's example. Condition: the library's bound variable holds some number. -/
import Derived.Test.YthnchjmbjeooiaaDoorSame
namespace Go.Proofs.YthnchjmbjeooiaaDoor
open Go.RowKit Go.Lib Lx
theorem first_lines : lines [97, 32, 98, 32, 35, 32, 99] = [(1, [[97], [98]])] := by decide
theorem lit2_sr (w : World) (a b : List UInt8) (t : TypeId) : SR (w.alloc (.cells #[.string (str a), .string (str b)] t)) (some ⟨w.heap.size, 0, none⟩) 2 [a, b] :=
  ⟨rfl, fun _ => ⟨_, 0, rfl, by simp, fun i hi => by
    rw [Nat.zero_add, (Blk.new w _ _).cell i]
    match i, hi with
    | 0, _ => rfl
    | 1, _ => rfl⟩⟩
set_option maxRecDepth 100000 in
theorem first_any (m : Int) (w : World) (hm : EnvM m w) :
    Calls Tryd.prog 8 #[] w fun e w' => e = .returned (.bool true) ∧ Below w.heap.size w w' := by
  have HL := Lib.hid (lines_any ⟨#[97, 32, 98, 32, 35, 32, 99]⟩ m w (by decide) hm)
  rw [show (⟨#[97, 32, 98, 32, 35, 32, 99]⟩ : ByteArray).data.toList = [97, 32, 98, 32, 35, 32, 99] from rfl, first_lines] at HL
  clear hm
  go_enter Tryd.func8, Tryd.ntmps8
  go_wp2_with (first
    | (go_at_call 9; refine HL.out.mono ?_; rintro e w1 ⟨A, c, rfl, hlr, hb⟩
       obtain ⟨b, rfl, hbl, hc0, B, d, hc1, hsr⟩ := hlr.at_ (k := 0) (by decide)
       have hc0' : w1.cell? ⟨b, 0, none⟩ = some (.int .i64 1) := hc0
       have hc1' : w1.cell? ⟨b, 1, none⟩ = some (.slice B 2 d) := hc1
       have hsr' : SR w1 B 2 [[97], [98]] := hsr
       have HB1 := Lib.hid hb
       have HS1 := Lib.hid hsr'
       clear hlr hb hsr hsr' hc0 hc1)
    | (go_at_call 12; refine (texts_any B _ 2 2 d 2 [[97], [98]] [[97], [98]] _ (HS1.out.next ((Below.refl _ _).alloc (Nat.le_refl _) _)) (lit2_sr _ [97] [98] _) (by omega) (by omega)).mono ?_; rintro e w2 ⟨rfl, hb2⟩
       have hc2 : w2.cell? ⟨b, 0, none⟩ = some (.int .i64 1) := (hb2.cell (Nat.lt_of_lt_of_le hbl (by simp))).trans ((World.cell?_alloc_lt _ _ _ hbl).trans hc0')
       have HB2 := Lib.hid (below_next (HB1.out.alloc HB1.out.size (.cells #[.string (str [97]), .string (str [98])] 9)) hb2)
       clear hb2))
  go_ret
  exact ⟨rfl, HB2.out⟩
end Go.Proofs.YthnchjmbjeooiaaDoor
