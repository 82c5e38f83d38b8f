/- The chapter's example of stage 11; lines, plainly; over the seat's program. -/
import Derived.Test.YtojahaphkjdenaaGreatDoorRn
import Derived.Test.YtojahaphkjdenaaGreatDoorRl
namespace Go.Proofs.YtojahaphkjdenaaGreatDoor
open Go.RowKit Lx Sm Go.Maps
theorem alike_eq {x y : Cfg} (h : Alike x y) (hm : x.ms = []) : y = x := by
  obtain ⟨h1, h2, h3, h4, h5, h6, h7⟩ := h
  rw [hm] at h7
  have h8 : y.ms = [] := by simpa using h7
  cases x; cases y
  simp_all
theorem line_first : toA (lineCfg 2 0) 0 (adr 0 1) = ((-1, -1, 0, true), true) := by decide +kernel
/-- the way towards a link -/
def runW (l : Int) : Nat → Int → List Int
  | 0, _ => []
  | k + 1, a => a :: (if l < a then runW l k (a - 1) else if a + 1 < l then runW l k (a + 1) else [])
theorem line_chain : ∀ n : Fin 8, ∀ q : Fin 8, ∀ l : Fin 9, q.val < n.val → l.val ≤ n.val → chainA (lineCfg n.val 0) (q.val : Int) (adr l.val 77) = (runW (l.val : Int) (n.val + 1) (q.val : Int), true) := by decide +kernel
theorem line_aims (n : Nat) : aimsP (lineCfg n 0) = [adr 0 1] := rfl
theorem line_round : ∀ n : Fin 8, roundA (lineCfg n.val 0) = false := by decide +kernel
theorem sort_one (a : Int) : sortA [a] = [a] := rfl
theorem apart_one (a : Int) : Apart [a] := fun k hk => absurd hk (by simp)
set_option maxHeartbeats 2000000 in
theorem line_round_any {b : Nat} {T : TP} {gs : List Int} (n : Nat) (hn : n < 8) (w : World) (h : TW w b T (lineCfg n 0) gs) :
    Calls Tryz.prog 50 #[.pointer (some ⟨T.N, 0, none⟩)] w fun e w' => e = .returned (.bool false) ∧ Below w.heap.size w w' := by
  have := round_any w h (line_rn n 0) (line_ln n 0) (line_ribok (n := n) (by omega)) (fun y hy => ⟨(line_ports n 0 y hy).1, (line_ports n 0 y hy).2.1⟩) (by show (rsK n).length ≤ 1000; rw [rsK_len]; omega)
    (by rw [line_aims]; decide) (by rw [line_aims, sort_one]; exact apart_one _) (by rw [line_aims, sort_one]; intro a ha; simp at ha; subst ha; exact adr_u32 (by decide) (by decide))
  rw [line_round ⟨n, hn⟩] at this
  exact this
set_option maxHeartbeats 2000000 in
theorem first11_any (ads : List Addr) (w : World) (hE : EnvC ads w) :
    Calls Tryz.prog 42 #[] w fun e w' => e = .returned (.bool true) ∧ Below w.heap.size w w' := by
  have HE := Lib.hid hE
  have HL := Lib.hid fun W => line_any 2 0 (by decide) (by decide) W
  have HA := Lib.hid fun W => naddr_any 0 1 (by decide) (by decide) W
  clear hE
  go_enter Tryz.func42, Tryz.ntmps42
  go_upto_region 4 with (first
    | (go_at_call 68; refine (HL.out _).mono ?_; rintro e w1 ⟨M, rfl, hcw, hb1⟩; have HN := Lib.hid (new_ok ads M (lineCfg 2 0) [] w1 (HE.out.below hb1) hcw (line_valid ⟨2, by omega⟩) (line_rn 2 0) (line_ln 2 0) (fun W _ => groups0_any M W hcw.s.len.symm hcw.m.len.symm) (line_ports 2 0) (fun y hy => (by cases hy))); have HB1 := Lib.hid hb1; clear hcw hb1)
    | (go_at_call 16; refine HN.out.mono ?_; rintro e w2 ⟨T, x', rfl, hT, hal, hb2⟩; obtain rfl := alike_eq hal rfl; have HT := Lib.hid hT; have HB2 := Lib.hid (below_next HB1.out hb2); clear hT hal hb2))
  have HTO := Lib.hid fun W (hW : Below w2.heap.size w2 W) => to_any 0 (adr 0 1) (adr_u32 (by decide) (by decide)) W (HT.out.next hW) (line_rn 2 0) (line_ln 2 0) (line_ribok (by decide))
  have HRO := Lib.hid fun W (hW : Below w2.heap.size w2 W) => line_round_any 2 (by decide) W (HT.out.next hW)
  rw [line_first] at HTO
  go_upto_region 5 with (first
    | (go_at_call 71; refine (HA.out _).mono ?_; rintro e w3 ⟨rfl, rfl⟩)
    | (go_at_call 43; refine (HTO.out _ (Below.refl _ _)).mono ?_; rintro e w4 ⟨rfl, hb4⟩; have HB4 := Lib.hid hb4; clear hb4))
  go_wp2_with (go_at_call 50; refine (HRO.out _ (HB4.out.alloc HB4.out.size _)).mono ?_; rintro e w5 ⟨rfl, hb5⟩; have HB5 := Lib.hid (below_next HB2.out ((HB4.out.alloc HB4.out.size _).trans (hb5.mono (by have := HB4.out.size; simp; omega)))); clear hb5)
  go_ret
  exact ⟨rfl, HB5.out⟩
end Go.Proofs.YtojahaphkjdenaaGreatDoor

