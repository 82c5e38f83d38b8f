/- From the seven listed errors to what a network's checks read. -/
import Derived.Test.YtdljpokhcfhhfaaGreatDoorCf
import Derived.Test.YtdljpokhcfhhfaaGreatDoorRows
import Derived.Stop.LaidErr
import Derived.ProofKit
namespace Go.Proofs.YtdljpokhcfhhfaaGreatDoor
open Go.RowKit Go.WideShapes Go.ChangeShapes
theorem star7 : "*errors.errorString" = "*" ++ "errors.errorString" := by decide
theorem rowErr7 (u : TypeId) (h : Tryz.prog.typeName? 3 u = some "*errors.errorString") : u = 324 :=
  typeName_ptr_named (nm := "errors.errorString") (by rw [← star7]; kernel_rfl) (by kernel_rfl) (by decide) u (by rw [← star7]; exact h)
def errL7 : List (String × List UInt8) := [("rivulet/api.ErrRange", [97, 32, 110, 117, 109, 98, 101, 114, 32, 111, 117, 116, 32, 111, 102, 32, 105, 116, 115, 32, 114, 97, 110, 103, 101]),
  ("rivulet/api.ErrMany", [116, 111, 111, 32, 109, 97, 110, 121]),
  ("rivulet/api.ErrName", [110, 111, 116, 32, 97, 32, 110, 97, 109, 101]),
  ("rivulet/api.ErrTwice", [116, 104, 101, 114, 101, 32, 105, 115, 32, 111, 110, 101]),
  ("rivulet/api.ErrNone", [116, 104, 101, 114, 101, 32, 105, 115, 32, 110, 111, 110, 101]),
  ("rivulet/api.ErrAway", [110, 111, 116, 32, 111, 110, 32, 116, 104, 97, 116, 32, 108, 105, 110, 107]),
  ("rivulet/api.ErrKind", [110, 111, 116, 32, 111, 102, 32, 116, 104, 97, 116, 32, 107, 105, 110, 100])]
theorem errL7_named : ∀ x ∈ errL7, ∃ g, Tryz.prog.globalNamed x.1 = some g ∧ (Tryz.prog.globals[g]?).map (·.type) = some 36 := by
  intro x hx
  simp only [errL7, List.mem_cons, List.not_mem_nil, or_false] at hx
  rcases hx with rfl | rfl | rfl | rfl | rfl | rfl | rfl
  · exact ⟨1, by kernel_rfl, by kernel_rfl⟩
  · exact ⟨5, by kernel_rfl, by kernel_rfl⟩
  · exact ⟨6, by kernel_rfl, by kernel_rfl⟩
  · exact ⟨0, by kernel_rfl, by kernel_rfl⟩
  · exact ⟨3, by kernel_rfl, by kernel_rfl⟩
  · exact ⟨4, by kernel_rfl, by kernel_rfl⟩
  · exact ⟨2, by kernel_rfl, by kernel_rfl⟩
theorem envC_of_laid {W : World} {rest : List (String × DataW Unit)} (h : laidMet Tryz.prog (errL7.map (fun x => (x.1, errD x.2)) ++ rest) W) : ∃ ads, EnvC ads W := by
  obtain ⟨ps, hlv, hnd, hrows⟩ := h
  obtain ⟨ads, hlen, hno, hall, hat⟩ := sents (tp := 324) (te := 340) (ts := 9) (ti := 36) Tryz.underlying36 rowErr7 Tryz.underlying324 Tryz.underlying340 rfl rfl Tryz.underlying9 (by kernel_rfl) (by kernel_rfl) rest errL7 ps hlv hnd hrows errL7_named
  have hcell : ∀ (i g : Nat) (n : String), (errL7.map (·.1))[i]? = some n → Tryz.prog.globalNamed n = some g → ∃ a ∈ ads, W.cell? ⟨g, 0, none⟩ = some (ev a) := by
    intro i g n hn hg
    obtain ⟨b, hb, hv⟩ := hat i n hn
    have h0 := World.var?_cell hg hv 0
    exact ⟨b, List.mem_of_getElem? hb, by unfold ev; simpa using h0⟩
  obtain ⟨a0, k0, h0⟩ := hcell 0 1 "rivulet/api.ErrRange" rfl (by kernel_rfl)
  obtain ⟨a1, k1, h1⟩ := hcell 1 5 "rivulet/api.ErrMany" rfl (by kernel_rfl)
  obtain ⟨a2, k2, h2⟩ := hcell 2 6 "rivulet/api.ErrName" rfl (by kernel_rfl)
  obtain ⟨a3, k3, h3⟩ := hcell 3 0 "rivulet/api.ErrTwice" rfl (by kernel_rfl)
  obtain ⟨a4, k4, h4⟩ := hcell 4 3 "rivulet/api.ErrNone" rfl (by kernel_rfl)
  obtain ⟨a5, k5, h5⟩ := hcell 5 4 "rivulet/api.ErrAway" rfl (by kernel_rfl)
  obtain ⟨a6, k6, h6⟩ := hcell 6 2 "rivulet/api.ErrKind" rfl (by kernel_rfl)
  refine ⟨[a0, a0, a0, a1, a0, a0, a0, a0, a2, a3, a4, a5, a6, a0], rfl, ?_, ?_⟩
  · intro j g a hg ha
    have hm : (j, g) ∈ errC := by
      have : ∀ (l : List (Nat × Nat)), l.lookup j = some g → (j, g) ∈ l := by
        intro l
        induction l with
        | nil => intro h; simp at h
        | cons x l ih =>
          intro h
          obtain ⟨p, q⟩ := x
          by_cases e : j = p
          · subst e; simp at h; subst h; simp
          · rw [List.lookup_cons] at h
            have e2 : (j == p) = false := by simpa using e
            rw [e2] at h
            exact List.mem_cons_of_mem _ (ih h)
      exact this _ hg
    simp only [errC, List.mem_cons, List.not_mem_nil, or_false, Prod.mk.injEq] at hm
    rcases hm with ⟨rfl, rfl⟩ | ⟨rfl, rfl⟩ | ⟨rfl, rfl⟩ | ⟨rfl, rfl⟩ | ⟨rfl, rfl⟩ | ⟨rfl, rfl⟩ | ⟨rfl, rfl⟩ <;> (simp at ha; subst ha; assumption)
  · intro a ha
    have : a ∈ ads := by
      simp only [List.mem_cons, List.not_mem_nil, or_false] at ha
      rcases ha with rfl | rfl | rfl | rfl | rfl | rfl | rfl | rfl | rfl | rfl | rfl | rfl | rfl | rfl <;> assumption
    exact (hall a this).2
end Go.Proofs.YtdljpokhcfhhfaaGreatDoor

