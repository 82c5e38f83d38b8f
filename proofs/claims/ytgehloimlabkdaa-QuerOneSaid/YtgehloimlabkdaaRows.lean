/-
  No cell of these rows narrows 'for every input' (looked for: loops, veiled, ifaces, maps, wideKeys, modest, calm, conditions, laid).
  DERIVED. THE GIVEN ROWS OF THIS SEAT. 3 by the template 'for every input the law returns true; each argument reads behind the call as it read before'; 0 by the template 'total and deterministic' (their statements: YtgehloimlabkdaaTotals.lean).
  GIVEN WITH THE SEED: the statements are not yours to turn. If you find one false, say at which input.
  Laid BY PROGRAM, IN A SANDBOX (cutbox-rows.mjs): the forced cells as the released guide's own fill.sh prints them over the translation 514f1d1a54ba1acb… (all of the seat's roots in one cut). By AI agents, Wed Nov 11 2026. No macro, syntax, notation, axiom, sorry.
-/
import Derived.Test.YtgehloimlabkdaaChecked
import GoSem.Claim
import GoSem.ClaimJoined
import GoSem.ClaimMapViews
import Derived.JoinedTies
import Derived.KernelRfl
namespace Go.Proofs.Ytgehloimlabkdaa
/- THE CELL 'sum', in the pinned program and in every row, IS THE sha256 OF THE DUMP (.gsa) THAT YtgehloimlabkdaaProg.lean LOADS. Nothing in Lean hashes anything: it is a label: what it is worth is what the hold of that sum in a sandbox is worth. -/
noncomputable def Try.pinned : Pinned := { name := "ytgehloimlabkdaa", sum := "514f1d1a54ba1acbc4c4c4070cb350c5f299307d51800bb70083cfd49abdbd71", checked := Try.checked }
namespace Rows
def none {H : Type} : Left H := { results := [], args := [] }

/-- 'rivuletlaw13.QuerLeast': WHATEVER THE INPUT: true; the input reads as it did. -/
def querLeastSpec : ChangeSpec := { name := "querLeast", fn := fun _ => fun
  | [d1, d2] => { results := [.lit (.bool true)], args := [d1, d2] }
  | _ => none }
def querLeastRow : OpenClaim := { program := "ytgehloimlabkdaa", sum := "514f1d1a54ba1acbc4c4c4070cb350c5f299307d51800bb70083cfd49abdbd71", func := "rivulet/rivuletlaw13.QuerLeast", spec := "querLeast", apart := false }
def QuerLeastSaid : Prop := querLeastRow.holds Try.pinned (OpenSpec.ofChange querLeastSpec)

/-- ITS FALSE NEIGHBOUR: 'it returns false'. Refute it at one input. -/
def querLeastWrong : ChangeSpec := { name := "querLeast", fn := fun _ => fun
  | [d1, d2] => { results := [.lit (.bool false)], args := [d1, d2] }
  | _ => none }
def QuerLeastWrongFalsely : Prop := querLeastRow.holds Try.pinned (OpenSpec.ofChange querLeastWrong)

/-- 'rivuletlaw13.QuerTakes': WHATEVER THE INPUT: true; the input reads as it did. -/
def querTakesSpec : ChangeSpec := { name := "querTakes", fn := fun _ => fun
  | [d1, d2, d3] => { results := [.lit (.bool true)], args := [d1, d2, d3] }
  | _ => none }
def querTakesRow : OpenClaim := { program := "ytgehloimlabkdaa", sum := "514f1d1a54ba1acbc4c4c4070cb350c5f299307d51800bb70083cfd49abdbd71", func := "rivulet/rivuletlaw13.QuerTakes", spec := "querTakes", apart := false }
def QuerTakesSaid : Prop := querTakesRow.holds Try.pinned (OpenSpec.ofChange querTakesSpec)

/-- ITS FALSE NEIGHBOUR: 'it returns false'. Refute it at one input. -/
def querTakesWrong : ChangeSpec := { name := "querTakes", fn := fun _ => fun
  | [d1, d2, d3] => { results := [.lit (.bool false)], args := [d1, d2, d3] }
  | _ => none }
def QuerTakesWrongFalsely : Prop := querTakesRow.holds Try.pinned (OpenSpec.ofChange querTakesWrong)

/-- 'rivuletlaw13.QuerOne': WHATEVER THE INPUT: true; the input reads as it did. -/
def querOneSpec : ChangeSpec := { name := "querOne", fn := fun _ => fun
  | [d1, d2, d3] => { results := [.lit (.bool true)], args := [d1, d2, d3] }
  | _ => none }
def querOneRow : OpenClaim := { program := "ytgehloimlabkdaa", sum := "514f1d1a54ba1acbc4c4c4070cb350c5f299307d51800bb70083cfd49abdbd71", func := "rivulet/rivuletlaw13.QuerOne", spec := "querOne", apart := false }
def QuerOneSaid : Prop := querOneRow.holds Try.pinned (OpenSpec.ofChange querOneSpec)

/-- ITS FALSE NEIGHBOUR: 'it returns false'. Refute it at one input. -/
def querOneWrong : ChangeSpec := { name := "querOne", fn := fun _ => fun
  | [d1, d2, d3] => { results := [.lit (.bool false)], args := [d1, d2, d3] }
  | _ => none }
def QuerOneWrongFalsely : Prop := querOneRow.holds Try.pinned (OpenSpec.ofChange querOneWrong)

/- THE SECOND FORM. 'bulk': how many values and letters a reading holds, each counted each time it is reached (what is shared counts as often as it is met; a slice's spare places count too). A statement '..UptoSaid' is the law's where the arguments, and the package variables that the reading takes, are together of bulk at most 1048576: NARROWER than '..Said'. Prove '..Said' where nothing that the law and all that it calls make is longer than what came in: it says more and counts as full. Else prove '..UptoSaid'. A law counts once. -/
mutual
def uptoBulk {H : Type} : DataW H → Nat
  | .lit (.string bytes) => bytes.length + 1
  | .lit _ => 1
  | .nil => 1
  | .ptr d => uptoBulk d + 1
  | .slice elems spare => uptoBulkAll elems + uptoBulkAll spare + 1
  | .agg parts => uptoBulkAll parts + 1
  | .iface _ d => uptoBulk d + 1
  | .map entries => uptoBulkEntries entries + 1
  | .held _ => 1
def uptoBulkAll {H : Type} : List (DataW H) → Nat
  | [] => 0
  | d :: r => uptoBulk d + uptoBulkAll r
def uptoBulkEntries {H : Type} : List (Lit × DataW H) → Nat
  | [] => 0
  | x :: r => uptoBulkEntry x + uptoBulkEntries r
def uptoBulkEntry {H : Type} : Lit × DataW H → Nat
  | (.string bytes, d) => bytes.length + uptoBulk d + 1
  | (_, d) => uptoBulk d + 1
 end
def uptoSmall : (H : Type) → List (DataW H) → Bool := fun _ ds => decide (uptoBulkAll ds ≤ 1048576)
def OpenSpec.upto (s : _root_.Go.ChangeSpec) : _root_.Go.OpenSpec := { _root_.Go.OpenSpec.ofChange s with cond := some uptoSmall }

/-- 'rivuletlaw13.QuerLeast', WHERE WHAT IT READS IS OF BULK AT MOST 1048576: true; the input reads as it did. -/
def querLeastUptoRow : OpenClaim := { program := "ytgehloimlabkdaa", sum := "514f1d1a54ba1acbc4c4c4070cb350c5f299307d51800bb70083cfd49abdbd71", func := "rivulet/rivuletlaw13.QuerLeast", spec := "querLeast", apart := false, narrowed := true }
def QuerLeastUptoSaid : Prop := querLeastUptoRow.holds Try.pinned (OpenSpec.upto querLeastSpec)

/-- 'rivuletlaw13.QuerTakes', WHERE WHAT IT READS IS OF BULK AT MOST 1048576: true; the input reads as it did. -/
def querTakesUptoRow : OpenClaim := { program := "ytgehloimlabkdaa", sum := "514f1d1a54ba1acbc4c4c4070cb350c5f299307d51800bb70083cfd49abdbd71", func := "rivulet/rivuletlaw13.QuerTakes", spec := "querTakes", apart := false, narrowed := true }
def QuerTakesUptoSaid : Prop := querTakesUptoRow.holds Try.pinned (OpenSpec.upto querTakesSpec)

/-- 'rivuletlaw13.QuerOne', WHERE WHAT IT READS IS OF BULK AT MOST 1048576: true; the input reads as it did. -/
def querOneUptoRow : OpenClaim := { program := "ytgehloimlabkdaa", sum := "514f1d1a54ba1acbc4c4c4070cb350c5f299307d51800bb70083cfd49abdbd71", func := "rivulet/rivuletlaw13.QuerOne", spec := "querOne", apart := false, narrowed := true }
def QuerOneUptoSaid : Prop := querOneUptoRow.holds Try.pinned (OpenSpec.upto querOneSpec)

end Rows
end Go.Proofs.Ytgehloimlabkdaa
