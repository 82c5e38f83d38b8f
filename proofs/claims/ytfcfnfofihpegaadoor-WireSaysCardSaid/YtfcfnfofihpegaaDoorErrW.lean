/- From listed errors to what chapter 4's walks read: three of them, six of them, all fourteen. -/
import Derived.Test.YtfcfnfofihpegaaDoorErrs
import Derived.Test.YtfcfnfofihpegaaDoorW13
import Derived.ProofKit
namespace Go.Proofs.YtfcfnfofihpegaaDoor
open Go.RowKit Go.WideShapes Go.ChangeShapes
def errL3 : List (String × List UInt8) := [("rivulet/api.ErrRange", [97, 32, 110, 117, 109, 98, 101, 114, 32, 111, 117, 116, 32, 111, 102, 32, 105, 116, 115, 32, 114, 97, 110, 103, 101]),
  ("rivulet/api.ErrMany", [116, 111, 111, 32, 109, 97, 110, 121]),
  ("rivulet/api.ErrKind", [110, 111, 116, 32, 111, 102, 32, 116, 104, 97, 116, 32, 107, 105, 110, 100])]
theorem errL3_named : ∀ x ∈ errL3, ∃ g, Tryd.prog.globalNamed x.1 = some g ∧ (Tryd.prog.globals[g]?).map (·.type) = some 34 := by
  intro x hx
  simp only [errL3, List.mem_cons, List.not_mem_nil, or_false] at hx
  rcases hx with rfl | rfl | rfl
  · exact ⟨2, by kernel_rfl, by kernel_rfl⟩
  · exact ⟨1, by kernel_rfl, by kernel_rfl⟩
  · exact ⟨0, by kernel_rfl, by kernel_rfl⟩
theorem envV_of_laid {W : World} {rest : List (String × DataW Unit)} (h : laidMet Tryd.prog (errL3.map (fun x => (x.1, errD x.2)) ++ rest) W) : ∃ er, EnvV er W := by
  obtain ⟨ps, hlv, hnd, hrows⟩ := h
  obtain ⟨ads, hlen, hno, hall, hat⟩ := sents (tp := 100) (te := 116) (ts := 9) (ti := 34) Tryd.underlying34 rowErr Tryd.underlying100 Tryd.underlying116 rfl rfl Tryd.underlying9 (by kernel_rfl) (by kernel_rfl) rest errL3 ps hlv hnd hrows errL3_named
  have hcell : ∀ (i g : Nat) (n : String), (errL3.map (·.1))[i]? = some n → Tryd.prog.globalNamed n = some g → ∃ a, W.cell? ⟨g, 0, none⟩ = some (ev a) := by
    intro i g n hn hg
    obtain ⟨b, hb, hv⟩ := hat i n hn
    have h0 := World.var?_cell hg hv 0
    exact ⟨b, by unfold ev; simpa using h0⟩
  obtain ⟨a0, h0⟩ := hcell 0 2 "rivulet/api.ErrRange" rfl (by kernel_rfl)
  obtain ⟨a1, h1⟩ := hcell 1 1 "rivulet/api.ErrMany" rfl (by kernel_rfl)
  obtain ⟨a2, h2⟩ := hcell 2 0 "rivulet/api.ErrKind" rfl (by kernel_rfl)
  refine ⟨fun c => if c = 0 then .nilIface else if c = 113 then ev a2 else if c = 104 then ev a1 else ev a0, ?_⟩
  refine ⟨rfl, ?_, h2, h1, h0⟩
  rintro c (rfl | rfl | rfl)
  · exact ⟨a2, rfl⟩
  · exact ⟨a1, rfl⟩
  · exact ⟨a0, rfl⟩
def errL6 : List (String × List UInt8) := [("rivulet/api.ErrEnd", [105, 116, 32, 101, 110, 100, 115, 32, 116, 111, 111, 32, 101, 97, 114, 108, 121]),
  ("rivulet/api.ErrShape", [110, 111, 116, 32, 97, 115, 32, 105, 116, 32, 104, 97, 115, 32, 116, 111, 32, 98, 101]),
  ("rivulet/api.ErrRange", [97, 32, 110, 117, 109, 98, 101, 114, 32, 111, 117, 116, 32, 111, 102, 32, 105, 116, 115, 32, 114, 97, 110, 103, 101]),
  ("rivulet/api.ErrMany", [116, 111, 111, 32, 109, 97, 110, 121]),
  ("rivulet/api.ErrSum", [116, 104, 101, 32, 115, 117, 109, 32, 105, 115, 32, 97, 110, 111, 116, 104, 101, 114, 32, 111, 110, 101]),
  ("rivulet/api.ErrKind", [110, 111, 116, 32, 111, 102, 32, 116, 104, 97, 116, 32, 107, 105, 110, 100])]
theorem errL6_named : ∀ x ∈ errL6, ∃ g, Tryd.prog.globalNamed x.1 = some g ∧ (Tryd.prog.globals[g]?).map (·.type) = some 34 := by
  intro x hx
  simp only [errL6, List.mem_cons, List.not_mem_nil, or_false] at hx
  rcases hx with rfl | rfl | rfl | rfl | rfl | rfl
  · exact ⟨3, by kernel_rfl, by kernel_rfl⟩
  · exact ⟨4, by kernel_rfl, by kernel_rfl⟩
  · exact ⟨2, by kernel_rfl, by kernel_rfl⟩
  · exact ⟨1, by kernel_rfl, by kernel_rfl⟩
  · exact ⟨5, by kernel_rfl, by kernel_rfl⟩
  · exact ⟨0, by kernel_rfl, by kernel_rfl⟩
theorem envM_of_laid {W : World} {rest : List (String × DataW Unit)} (h : laidMet Tryd.prog (errL6.map (fun x => (x.1, errD x.2)) ++ rest) W) : ∃ er, EnvM er W := by
  obtain ⟨ps, hlv, hnd, hrows⟩ := h
  obtain ⟨ads, hlen, hno, hall, hat⟩ := sents (tp := 100) (te := 116) (ts := 9) (ti := 34) Tryd.underlying34 rowErr Tryd.underlying100 Tryd.underlying116 rfl rfl Tryd.underlying9 (by kernel_rfl) (by kernel_rfl) rest errL6 ps hlv hnd hrows errL6_named
  have hcell : ∀ (i g : Nat) (n : String), (errL6.map (·.1))[i]? = some n → Tryd.prog.globalNamed n = some g → ∃ a, W.cell? ⟨g, 0, none⟩ = some (ev a) := by
    intro i g n hn hg
    obtain ⟨b, hb, hv⟩ := hat i n hn
    have h0 := World.var?_cell hg hv 0
    exact ⟨b, by unfold ev; simpa using h0⟩
  obtain ⟨a0, h0⟩ := hcell 0 3 "rivulet/api.ErrEnd" rfl (by kernel_rfl)
  obtain ⟨a1, h1⟩ := hcell 1 4 "rivulet/api.ErrShape" rfl (by kernel_rfl)
  obtain ⟨a2, h2⟩ := hcell 2 2 "rivulet/api.ErrRange" rfl (by kernel_rfl)
  obtain ⟨a3, h3⟩ := hcell 3 1 "rivulet/api.ErrMany" rfl (by kernel_rfl)
  obtain ⟨a4, h4⟩ := hcell 4 5 "rivulet/api.ErrSum" rfl (by kernel_rfl)
  obtain ⟨a5, h5⟩ := hcell 5 0 "rivulet/api.ErrKind" rfl (by kernel_rfl)
  refine ⟨fun c => if c = 0 then .nilIface else if c = 113 then ev a5 else if c = 105 then ev a4 else if c = 104 then ev a3 else if c = 103 then ev a2 else if c = 102 then ev a1 else ev a0, ?_⟩
  refine ⟨⟨rfl, ?_, h5, h3, h2⟩, ?_, h0, h1, h4⟩
  · rintro c (rfl | rfl | rfl)
    · exact ⟨a5, rfl⟩
    · exact ⟨a3, rfl⟩
    · exact ⟨a2, rfl⟩
  · rintro c (rfl | rfl | rfl)
    · exact ⟨a0, rfl⟩
    · exact ⟨a1, rfl⟩
    · exact ⟨a4, rfl⟩
def erS (ads : List Addr) (c : Int) : Value := if c = 0 then .nilIface else ev (ads.getD (c - 101).toNat ⟨0, 0, none⟩)
theorem envM_of_S {ads : List Addr} {W : World} (h : EnvS ads W) : EnvM (erS ads) W := by
  obtain ⟨h1, _, h3, _⟩ := h
  match ads, h1 with
  | [a0, a1, a2, a3, a4, a5, a6, a7, a8, a9, a10, a11, a12, a13], _ =>
    refine ⟨⟨rfl, ?_, h3 12 _ _ rfl rfl, h3 3 _ _ rfl rfl, h3 2 _ _ rfl rfl⟩, ?_, h3 0 _ _ rfl rfl, h3 1 _ _ rfl rfl, h3 4 _ _ rfl rfl⟩
    · rintro c (rfl | rfl | rfl)
      · exact ⟨_, rfl⟩
      · exact ⟨_, rfl⟩
      · exact ⟨_, rfl⟩
    · rintro c (rfl | rfl | rfl)
      · exact ⟨_, rfl⟩
      · exact ⟨_, rfl⟩
      · exact ⟨_, rfl⟩
end Go.Proofs.YtfcfnfofihpegaaDoor
