/- From four listed errors to what a walk reads; a header as an argument, opened. -/
import Derived.Test.YtgjpclmkjoghiaaDoorErrs
import Derived.Test.YtgjpclmkjoghiaaDoorIp
import Derived.Lib.SmallJoins
import Derived.ProofKit
import Derived.OpenShut
namespace Go.Proofs.YtgjpclmkjoghiaaDoor
open Go.RowKit Go.WideShapes Go.ChangeShapes
def errL4 : List (String × List UInt8) := [("rivulet/api.ErrEnd", [105, 116, 32, 101, 110, 100, 115, 32, 116, 111, 111, 32, 101, 97, 114, 108, 121]),
  ("rivulet/api.ErrShape", [110, 111, 116, 32, 97, 115, 32, 105, 116, 32, 104, 97, 115, 32, 116, 111, 32, 98, 101]),
  ("rivulet/api.ErrRange", [97, 32, 110, 117, 109, 98, 101, 114, 32, 111, 117, 116, 32, 111, 102, 32, 105, 116, 115, 32, 114, 97, 110, 103, 101]),
  ("rivulet/api.ErrSum", [116, 104, 101, 32, 115, 117, 109, 32, 105, 115, 32, 97, 110, 111, 116, 104, 101, 114, 32, 111, 110, 101])]
theorem errL4_named : ∀ x ∈ errL4, ∃ g, Tryd.prog.globalNamed x.1 = some g ∧ (Tryd.prog.globals[g]?).map (·.type) = some 29 := by
  intro x hx
  simp only [errL4, List.mem_cons, List.not_mem_nil, or_false] at hx
  rcases hx with rfl | rfl | rfl | rfl
  · exact ⟨1, by kernel_rfl, by kernel_rfl⟩
  · exact ⟨2, by kernel_rfl, by kernel_rfl⟩
  · exact ⟨0, by kernel_rfl, by kernel_rfl⟩
  · exact ⟨3, by kernel_rfl, by kernel_rfl⟩
theorem envE_of_laid {W : World} {rest : List (String × DataW Unit)} (h : laidMet Tryd.prog (errL4.map (fun x => (x.1, errD x.2)) ++ rest) W) : ∃ er, EnvE er W := by
  obtain ⟨ps, hlv, hnd, hrows⟩ := h
  obtain ⟨ads, hlen, hno, hall, hat⟩ := sents (tp := 85) (te := 102) (ts := 9) (ti := 29) Tryd.underlying29 rowErr Tryd.underlying85 Tryd.underlying102 rfl rfl Tryd.underlying9 (by kernel_rfl) (by kernel_rfl) rest errL4 ps hlv hnd hrows errL4_named
  have hcell : ∀ (i g : Nat) (n : String), (errL4.map (·.1))[i]? = some n → Tryd.prog.globalNamed n = some g → ∃ a, W.cell? ⟨g, 0, none⟩ = some (ev a) := by
    intro i g n hn hg
    obtain ⟨b, hb, hv⟩ := hat i n hn
    have h0 := World.var?_cell hg hv 0
    exact ⟨b, by unfold ev; simpa using h0⟩
  obtain ⟨a0, h0⟩ := hcell 0 1 "rivulet/api.ErrEnd" rfl (by kernel_rfl)
  obtain ⟨a1, h1⟩ := hcell 1 2 "rivulet/api.ErrShape" rfl (by kernel_rfl)
  obtain ⟨a2, h2⟩ := hcell 2 0 "rivulet/api.ErrRange" rfl (by kernel_rfl)
  obtain ⟨a3, h3⟩ := hcell 3 3 "rivulet/api.ErrSum" rfl (by kernel_rfl)
  refine ⟨fun c => if c = 0 then .nilIface else if c = 101 then ev a0 else if c = 102 then ev a1 else if c = 103 then ev a2 else ev a3, rfl, ?_, h0, h1, h2, h3⟩
  rintro c (rfl | rfl | rfl | rfl)
  · exact ⟨a0, rfl⟩
  · exact ⟨a1, rfl⟩
  · exact ⟨a3, rfl⟩
  · exact ⟨a2, rfl⟩
theorem array6 {α : Type} {cs : Array α} (h : cs.size = 6) : ∃ c0 c1 c2 c3 c4 c5, cs = #[c0, c1, c2, c3, c4, c5] := by
  obtain ⟨l⟩ := cs
  match l, h with
  | [c0, c1, c2, c3, c4, c5], _ => exact ⟨c0, c1, c2, c3, c4, c5, rfl⟩
section
variable {H : Type} {enc : TypeId × Value → H} {P : Program} {w : World} {base : Nat} {spare : Nat → Bool} {held : Bool}
theorem open_hdr {r : Reach} {b0 : Nat} {t : TypeId} {f0 f1 f2 f3 f4 f5 : Field} {v : Value} {d : DataW H} {p : List MemPlace} (hs : P.underlying t = some (.struct #[f0, f1, f2, f3, f4, f5])) (hone : Go.Deep.oneCellFields P #[f0, f1, f2, f3, f4, f5] = true) (hC : P.cellsOf t = 6)
    (h0 : P.underlying f0.type = some (.int .i64)) (h1 : P.underlying f1.type = some (.int .i64)) (h2 : P.underlying f2.type = some (.int .i64)) (h3 : P.underlying f3.type = some (.int .i64)) (h4 : P.underlying f4.type = some (.int .u32)) (h5 : P.underlying f5.type = some (.int .u32))
    (hv : Value.okWide P w r b0 t v) (h : DataW.Trod enc P w base spare held t v d p) :
    ∃ l i t p f o, v = Proofs.YtgjpclmkjoghiaaDoor.hv l i t p f o ∧ Sm.isA f ∧ Sm.isA o := by
  obtain ⟨cs, rfl, hsz⟩ := okWide_struct hs hv
  obtain ⟨c0, c1, c2, c3, c4, c5, rfl⟩ := array6 (hsz.trans hC)
  obtain ⟨fuel, hf⟩ := h
  obtain ⟨xs, n, _, _, hl, hlen, hf⟩ := DataW.trod_struct hs hf
  obtain ⟨o0, k0⟩ := Go.Deep.hone_of hone 0 f0 rfl
  obtain ⟨o1, k1⟩ := Go.Deep.hone_of hone 1 f1 rfl
  obtain ⟨o2, k2⟩ := Go.Deep.hone_of hone 2 f2 rfl
  obtain ⟨o3, k3⟩ := Go.Deep.hone_of hone 3 f3 rfl
  obtain ⟨o4, k4⟩ := Go.Deep.hone_of hone 4 f4 rfl
  obtain ⟨o5, k5⟩ := Go.Deep.hone_of hone 5 f5 rfl
  match xs, hlen with
  | [y0, y1, y2, y3, y4, y5], _ =>
    have g0 : DataW.trod enc P w base spare held n f0.type [c0] = some y0 := by simpa [Value.cells, o0, k0] using hf 0 f0 rfl
    have g1 : DataW.trod enc P w base spare held n f1.type [c1] = some y1 := by simpa [Value.cells, o1, k1] using hf 1 f1 rfl
    have g2 : DataW.trod enc P w base spare held n f2.type [c2] = some y2 := by simpa [Value.cells, o2, k2] using hf 2 f2 rfl
    have g3 : DataW.trod enc P w base spare held n f3.type [c3] = some y3 := by simpa [Value.cells, o3, k3] using hf 3 f3 rfl
    have g4 : DataW.trod enc P w base spare held n f4.type [c4] = some y4 := by simpa [Value.cells, o4, k4] using hf 4 f4 rfl
    have g5 : DataW.trod enc P w base spare held n f5.type [c5] = some y5 := by simpa [Value.cells, o5, k5] using hf 5 f5 rfl
    obtain ⟨a0, e0, _, _⟩ := DataW.trod_int h0 g0
    obtain ⟨a1, e1, _, _⟩ := DataW.trod_int h1 g1
    obtain ⟨a2, e2, _, _⟩ := DataW.trod_int h2 g2
    obtain ⟨a3, e3, _, _⟩ := DataW.trod_int h3 g3
    obtain ⟨a4, e4, _, w4⟩ := DataW.trod_int h4 g4
    obtain ⟨a5, e5, _, w5⟩ := DataW.trod_int h5 g5
    simp only [List.cons.injEq, and_true] at e0 e1 e2 e3 e4 e5
    subst e0 e1 e2 e3 e4 e5
    exact ⟨a0, a1, a2, a3, a4, a5, rfl, wf_u32 w4, wf_u32 w5⟩
end
end Go.Proofs.YtgjpclmkjoghiaaDoor
