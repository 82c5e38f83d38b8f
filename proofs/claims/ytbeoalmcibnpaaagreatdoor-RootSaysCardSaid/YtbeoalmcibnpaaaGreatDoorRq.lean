/- package root over a light network; over the seat's program. -/
import Derived.Test.YtbeoalmcibnpaaaGreatDoorTn
import Derived.Test.YtbeoalmcibnpaaaGreatDoorRoo
namespace Go.Proofs.YtbeoalmcibnpaaaGreatDoor
open Go.RowKit Lx Sm Go.Maps
theorem gs_valid {x : Cfg} (h : vcode x = 0) : ∀ y ∈ x.gs, Ad.valid y.1 y.2.1 = true := by
  intro y hy
  obtain ⟨ah, he⟩ := atc_all (v_parts h).2.2.2.2.1 hy
  unfold gcode at he
  split at he
  · cases he
  · rename_i h1; simpa using h1
theorem gs_ok {w : World} {M : Cm} {x : Cfg} (h : CW w M x) (k : LtOK x) : (∀ y ∈ x.gs, wfP (y.1, y.2.1)) ∧ (∀ y ∈ x.gs, U32 y.2.2) ∧ x.gs.length ≤ 1000 := by
  refine ⟨fun y hy => ?_, fun y hy => (h.ok.2.2.2.1 y hy).2, by have := k.gl; omega⟩
  have hv := gs_valid k.v y hy
  unfold Ad.valid at hv
  simp only [decide_eq_true_eq] at hv
  exact ⟨(h.ok.2.2.2.1 y hy).1, by omega, by omega⟩
theorem rootP_al {x x' : Cfg} (k : Alike x x') (g : Int) : rootP x' g = rootP x g := by unfold rootP; rw [k.g]
theorem rtrP_al {x x' : Cfg} (k : Alike x x') (g : Int) : rtrP x' g = rtrP x g := by unfold rtrP; rw [rootP_al k, k.p]
section
variable {b : Nat} {T : TP} {x x' : Cfg} {gs : List Int}
theorem rof_al (g : Int) (hg : U32 g) (w wc : World) (M : Cm) (h : TW w b T x' gs) (k : Alike x x') (hc : CW wc M x) (o : LtOK x) :
    Calls Tryz.prog 41 #[.pointer (some ⟨T.N, 0, none⟩), .int .u32 g] w fun e w' => e = .returned (.tuple #[.int .u32 ((rootP x g).getD 0), .bool (rootP x g).isSome]) ∧ Below w.heap.size w w' := by
  obtain ⟨h1, h2, h3⟩ := gs_ok hc o
  have := rootof_any g hg w h (by rw [k.r]; exact o.rn) (by rw [k.l]; exact o.ln) (by rw [k.g]; exact h1) (by rw [k.g]; exact h3)
  rw [rootP_al k] at this
  exact this
theorem rrt_al (g : Int) (hg : U32 g) (w wc : World) (M : Cm) (h : TW w b T x' gs) (k : Alike x x') (hc : CW wc M x) (o : LtOK x) :
    Calls Tryz.prog 39 #[.pointer (some ⟨T.N, 0, none⟩), .int .u32 g] w fun e w' => e = .returned (.tuple #[.int .i64 ((rtrP x g).getD 0), .bool (rtrP x g).isSome]) ∧ Below w.heap.size w w' := by
  obtain ⟨h1, h2, h3⟩ := gs_ok hc o
  have := rootr_any g hg w h (by rw [k.r]; exact o.rn) (by rw [k.l]; exact o.ln) (by rw [k.g]; exact h1) (by rw [k.g]; exact h2) (by rw [k.g]; exact h3)
  rw [rtrP_al k] at this
  exact this
theorem ris_al (r g : Int) (hg : U32 g) (w wc : World) (M : Cm) (h : TW w b T x' gs) (k : Alike x x') (hc : CW wc M x) (o : LtOK x) :
    Calls Tryz.prog 40 #[.pointer (some ⟨T.N, 0, none⟩), .int .i64 r, .int .u32 g] w fun e w' => e = .returned (.bool (rtrP x g == some r)) ∧ Below w.heap.size w w' := by
  obtain ⟨h1, h2, h3⟩ := gs_ok hc o
  have := rootis_any r g hg w h (by rw [k.r]; exact o.rn) (by rw [k.l]; exact o.ln) (by rw [k.g]; exact h1) (by rw [k.g]; exact h2) (by rw [k.g]; exact h3)
  rw [rtrP_al k] at this
  exact this
theorem rtr_some {r g : Int} (h : rtrP x g = some r) : ∃ a j y, rootP x g = some a ∧ lastAt a x.ps x.ps.length = some j ∧ x.ps[j]? = some y ∧ y.1 = r := by
  unfold rtrP at h
  cases ha : rootP x g with
  | none => rw [ha] at h; cases h
  | some a =>
    rw [ha] at h
    simp only [Option.bind_some] at h
    cases hj : lastAt a x.ps x.ps.length with
    | none => rw [hj] at h; cases h
    | some j =>
      rw [hj] at h
      simp only [Option.map_some, Option.some.injEq] at h
      obtain ⟨_, y, hy, _⟩ := lastAt_some hj
      refine ⟨a, j, y, rfl, hj, hy, ?_⟩
      rw [List.getD_eq_getElem?_getD, hy] at h
      exact h
theorem rootP_u {w : World} {M : Cm} (h : CW w M x) (g : Int) : U32 ((rootP x g).getD 0) := by
  cases ha : rootP x g with
  | none => exact ⟨by simp, by simp⟩
  | some a =>
    obtain ⟨y, hy, e⟩ := rootP_mem ha
    rw [Option.getD_some, e]
    exact (h.ok.2.2.2.1 y hy).2
end
end Go.Proofs.YtbeoalmcibnpaaaGreatDoor

