/- From the listed errors to what a walk reads: the fourteen errors of the project lie in their variables, each a pointer of its own. -/
import Derived.Test.YthnchjmbjeooiaaDoorSee
import Derived.Test.YthnchjmbjeooiaaDoorRows
import Derived.Stop.LaidErr
namespace Go.Proofs.YthnchjmbjeooiaaDoor
open Go.RowKit
theorem star : "*errors.errorString" = "*" ++ "errors.errorString" := by decide
theorem rowErr (u : TypeId) (h : Tryd.prog.typeName? 3 u = some "*errors.errorString") : u = 113 :=
  typeName_ptr_named (nm := "errors.errorString") (by rw [← star]; kernel_rfl) (by kernel_rfl) (by decide) u (by rw [← star]; exact h)
def errL : List (String × List UInt8) := [("rivulet/api.ErrEnd", [105, 116, 32, 101, 110, 100, 115, 32, 116, 111, 111, 32, 101, 97, 114, 108, 121]),
  ("rivulet/api.ErrShape", [110, 111, 116, 32, 97, 115, 32, 105, 116, 32, 104, 97, 115, 32, 116, 111, 32, 98, 101]),
  ("rivulet/api.ErrRange", [97, 32, 110, 117, 109, 98, 101, 114, 32, 111, 117, 116, 32, 111, 102, 32, 105, 116, 115, 32, 114, 97, 110, 103, 101]),
  ("rivulet/api.ErrMany", [116, 111, 111, 32, 109, 97, 110, 121]),
  ("rivulet/api.ErrSum", [116, 104, 101, 32, 115, 117, 109, 32, 105, 115, 32, 97, 110, 111, 116, 104, 101, 114, 32, 111, 110, 101]),
  ("rivulet/api.ErrWord", [110, 111, 32, 115, 117, 99, 104, 32, 119, 111, 114, 100]),
  ("rivulet/api.ErrNumber", [110, 111, 116, 32, 97, 32, 110, 117, 109, 98, 101, 114]),
  ("rivulet/api.ErrAddr", [110, 111, 116, 32, 97, 110, 32, 97, 100, 100, 114, 101, 115, 115]),
  ("rivulet/api.ErrName", [110, 111, 116, 32, 97, 32, 110, 97, 109, 101]),
  ("rivulet/api.ErrTwice", [116, 104, 101, 114, 101, 32, 105, 115, 32, 111, 110, 101]),
  ("rivulet/api.ErrNone", [116, 104, 101, 114, 101, 32, 105, 115, 32, 110, 111, 110, 101]),
  ("rivulet/api.ErrAway", [110, 111, 116, 32, 111, 110, 32, 116, 104, 97, 116, 32, 108, 105, 110, 107]),
  ("rivulet/api.ErrKind", [110, 111, 116, 32, 111, 102, 32, 116, 104, 97, 116, 32, 107, 105, 110, 100]),
  ("rivulet/api.ErrDeep", [116, 111, 111, 32, 109, 97, 110, 121, 32, 98, 101, 104, 105, 110, 100, 32, 111, 110, 101, 32, 97, 110, 111, 116, 104, 101, 114])]
theorem errL_named : ∀ x ∈ errL, ∃ g, Tryd.prog.globalNamed x.1 = some g ∧ (Tryd.prog.globals[g]?).map (·.type) = some 25 := by
  intro x hx
  simp only [errL, List.mem_cons, List.not_mem_nil, or_false] at hx
  rcases hx with rfl | rfl | rfl | rfl | rfl | rfl | rfl | rfl | rfl | rfl | rfl | rfl | rfl | rfl
  · exact ⟨7, by kernel_rfl, by kernel_rfl⟩
  · exact ⟨8, by kernel_rfl, by kernel_rfl⟩
  · exact ⟨2, by kernel_rfl, by kernel_rfl⟩
  · exact ⟨0, by kernel_rfl, by kernel_rfl⟩
  · exact ⟨9, by kernel_rfl, by kernel_rfl⟩
  · exact ⟨10, by kernel_rfl, by kernel_rfl⟩
  · exact ⟨1, by kernel_rfl, by kernel_rfl⟩
  · exact ⟨11, by kernel_rfl, by kernel_rfl⟩
  · exact ⟨3, by kernel_rfl, by kernel_rfl⟩
  · exact ⟨12, by kernel_rfl, by kernel_rfl⟩
  · exact ⟨13, by kernel_rfl, by kernel_rfl⟩
  · exact ⟨14, by kernel_rfl, by kernel_rfl⟩
  · exact ⟨15, by kernel_rfl, by kernel_rfl⟩
  · exact ⟨16, by kernel_rfl, by kernel_rfl⟩
theorem envS_of_laid {W : World} {rest : List (String × DataW Unit)} (h : laidMet Tryd.prog (errL.map (fun x => (x.1, errD x.2)) ++ rest) W) : ∃ ads b, EnvS ads W ∧ ads[7]? = some b ∧ W.cell? ⟨11, 0, none⟩ = some (ev b) := by
  obtain ⟨ps, hlv, hnd, hrows⟩ := h
  obtain ⟨ads, hlen, hno, hall, hat⟩ := sents (tp := 113) (te := 115) (ts := 9) (ti := 25) Tryd.underlying25 rowErr Tryd.underlying113 Tryd.underlying115 rfl rfl Tryd.underlying9 (by kernel_rfl) (by kernel_rfl) rest errL ps hlv hnd hrows errL_named
  have hcell : ∀ (i g : Nat) (n : String), (errL.map (·.1))[i]? = some n → Tryd.prog.globalNamed n = some g → ∀ a, ads[i]? = some a → W.cell? ⟨g, 0, none⟩ = some (ev a) := by
    intro i g n hn hg a ha
    obtain ⟨b, hb, hv⟩ := hat i n hn
    obtain rfl := Option.some.inj (ha.symm.trans hb)
    have h0 := World.var?_cell hg hv 0
    unfold ev
    simpa using h0
  have hS : EnvS ads W := by
    refine ⟨hlen, hno, ?_, fun a ha => (hall a ha).2⟩
    intro i g a hg ha
    match i, hg with
    | 0, hg => exact hcell 0 g "rivulet/api.ErrEnd" rfl (by obtain rfl := Option.some.inj hg; kernel_rfl) a ha
    | 1, hg => exact hcell 1 g "rivulet/api.ErrShape" rfl (by obtain rfl := Option.some.inj hg; kernel_rfl) a ha
    | 2, hg => exact hcell 2 g "rivulet/api.ErrRange" rfl (by obtain rfl := Option.some.inj hg; kernel_rfl) a ha
    | 3, hg => exact hcell 3 g "rivulet/api.ErrMany" rfl (by obtain rfl := Option.some.inj hg; kernel_rfl) a ha
    | 4, hg => exact hcell 4 g "rivulet/api.ErrSum" rfl (by obtain rfl := Option.some.inj hg; kernel_rfl) a ha
    | 5, hg => exact hcell 5 g "rivulet/api.ErrWord" rfl (by obtain rfl := Option.some.inj hg; kernel_rfl) a ha
    | 6, hg => exact hcell 6 g "rivulet/api.ErrNumber" rfl (by obtain rfl := Option.some.inj hg; kernel_rfl) a ha
    | 7, hg => exact hcell 7 g "rivulet/api.ErrAddr" rfl (by obtain rfl := Option.some.inj hg; kernel_rfl) a ha
    | 8, hg => exact hcell 8 g "rivulet/api.ErrName" rfl (by obtain rfl := Option.some.inj hg; kernel_rfl) a ha
    | 9, hg => exact hcell 9 g "rivulet/api.ErrTwice" rfl (by obtain rfl := Option.some.inj hg; kernel_rfl) a ha
    | 10, hg => exact hcell 10 g "rivulet/api.ErrNone" rfl (by obtain rfl := Option.some.inj hg; kernel_rfl) a ha
    | 11, hg => exact hcell 11 g "rivulet/api.ErrAway" rfl (by obtain rfl := Option.some.inj hg; kernel_rfl) a ha
    | 12, hg => exact hcell 12 g "rivulet/api.ErrKind" rfl (by obtain rfl := Option.some.inj hg; kernel_rfl) a ha
    | 13, hg => exact hcell 13 g "rivulet/api.ErrDeep" rfl (by obtain rfl := Option.some.inj hg; kernel_rfl) a ha
  obtain ⟨b, hb, hv⟩ := hat 7 "rivulet/api.ErrAddr" rfl
  exact ⟨ads, b, hS, hb, hcell 7 11 "rivulet/api.ErrAddr" rfl (by kernel_rfl) b hb⟩
end Go.Proofs.YthnchjmbjeooiaaDoor
