/- A region that draws its order, that only reads, and whose callees may lay new blocks: walked once, in the order of the text. No program is imported. -/
import Derived.Test.YtnnppoamdllebaaKit
import Derived.BigQuiet
import Derived.Deep.QuietTactic
namespace Go.Proofs.Ytnnppoamdllebaa
open Go.RowKit
/-- a world that has come of w, all that lay in w as it was -/
structure Snc (w : World) where
  W : World
  b : Below w.heap.size w W
instance (w : World) : Inhabited (Snc w) := ⟨⟨w, Below.refl _ _⟩⟩
theorem wp_region_since {P : Program} {id : Nat} {Q : Exit → Act → World → Prop} {a : Act} {w : World} {l : List Oper} (hm : P.follows .mixedOrders = true) (hB : Region.lexB .any l.toArray = true)
    (h : wpQuiet P l.toArray (fun w' => ∃ p : Snc w, w' = p.W) (fun a' => ∀ w', (∃ p : Snc w, w' = p.W) → Q .normal a' w') l a) : (Code.region id l.toArray true).wp P Q a w :=
  wp_region_quiet (C := fun w' => ∃ p : Snc w, w' = p.W) hm hB ⟨⟨w.drew, (Below.refl _ _).drew⟩, rfl⟩ (by simpa using h)
/-- a callee's contract, met in such a world -/
theorem Calls.since {P : Program} {f : FuncId} {args : Array Value} {w : World} {p : Snc w} {v : Value} (h : Calls P f args p.W fun e w' => e = .returned v ∧ Below p.W.heap.size p.W w') :
    Calls P f args p.W fun e w'' => e = .returned v ∧ ∃ q : Snc w, w'' = q.W :=
  h.mono fun _ _ ⟨he, hb⟩ => ⟨he, ⟨⟨_, p.b.trans (hb.mono p.b.size)⟩, rfl⟩⟩
theorem Calls.since_same {P : Program} {f : FuncId} {args : Array Value} {w : World} {p : Snc w} {v : Value} (h : Calls P f args p.W fun e w' => e = .returned v ∧ p.W = w') :
    Calls P f args p.W fun e w'' => e = .returned v ∧ ∃ q : Snc w, w'' = q.W :=
  h.mono fun _ _ ⟨he, hb⟩ => ⟨he, ⟨p, hb.symm⟩⟩
/-- a fact on every later world, said of such worlds -/
theorem Snc.all {w : World} {X : World → Prop} (h : ∀ W, Below w.heap.size w W → X W) : ∀ p : Snc w, X p.W := fun p => h p.W p.b
end Go.Proofs.Ytnnppoamdllebaa

