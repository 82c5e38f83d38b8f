/-
  No cell of these rows narrows 'for every input' (looked for: loops, veiled, ifaces, maps, wideKeys, modest, calm, conditions, laid).
  DERIVED. THE GIVEN ROWS OF THIS SEAT. 4 by the template 'for every input the law returns true; each argument reads behind the call as it read before'; 0 by the template 'total and deterministic' (their statements: YtgodmfacelfhaaaTotals.lean).
  GIVEN WITH THE SEED: the statements are not yours to turn. If you find one false, say at which input.
  Laid BY PROGRAM, IN A SANDBOX (cutbox-rows.mjs): the forced cells as the released guide's own fill.sh prints them over the translation ed587d7c49f2391b… (all of the seat's roots in one cut). By AI agents, Wed Nov 11 2026. No macro, syntax, notation, axiom, sorry.
-/
import Derived.Test.YtgodmfacelfhaaaChecked
import GoSem.Claim
import GoSem.ClaimJoined
import GoSem.ClaimMapViews
import Derived.JoinedTies
import Derived.KernelRfl
namespace Go.Proofs.Ytgodmfacelfhaaa
/- THE CELL 'sum', in the pinned program and in every row, IS THE sha256 OF THE DUMP (.gsa) THAT YtgodmfacelfhaaaProg.lean LOADS. Nothing in Lean hashes anything: it is a label: what it is worth is what the hold of that sum in a sandbox is worth. -/
noncomputable def Try.pinned : Pinned := { name := "ytgodmfacelfhaaa", sum := "ed587d7c49f2391bfc88b24f20a5d97c5dece6330fbb4afc1b2f0fa55f7f1e63", checked := Try.checked }
namespace Rows
def none {H : Type} : Left H := { results := [], args := [] }

/-- 'rivuletlaw18.BestLost': WHATEVER THE INPUT: true; the input reads as it did. -/
def bestLostSpec : ChangeSpec := { name := "bestLost", fn := fun _ => fun
  | [d1, d2] => { results := [.lit (.bool true)], args := [d1, d2] }
  | _ => none }
def bestLostRow : OpenClaim := { program := "ytgodmfacelfhaaa", sum := "ed587d7c49f2391bfc88b24f20a5d97c5dece6330fbb4afc1b2f0fa55f7f1e63", func := "rivulet/rivuletlaw18.BestLost", spec := "bestLost", unfollowed := true, recurses := true, apart := false }
def BestLostSaid : Prop := bestLostRow.holds Try.pinned (OpenSpec.ofChange bestLostSpec)

/-- ITS FALSE NEIGHBOUR: 'it returns false'. Refute it at one input. -/
def bestLostWrong : ChangeSpec := { name := "bestLost", fn := fun _ => fun
  | [d1, d2] => { results := [.lit (.bool false)], args := [d1, d2] }
  | _ => none }
def BestLostWrongFalsely : Prop := bestLostRow.holds Try.pinned (OpenSpec.ofChange bestLostWrong)

/-- 'rivuletlaw18.BestSays': WHATEVER THE INPUT: true; the input reads as it did. -/
def bestSaysSpec : ChangeSpec := { name := "bestSays", fn := fun _ => fun
  | [d1, d2, d3, d4] => { results := [.lit (.bool true)], args := [d1, d2, d3, d4] }
  | _ => none }
def bestSaysRow : OpenClaim := { program := "ytgodmfacelfhaaa", sum := "ed587d7c49f2391bfc88b24f20a5d97c5dece6330fbb4afc1b2f0fa55f7f1e63", func := "rivulet/rivuletlaw18.BestSays", spec := "bestSays", unfollowed := true, recurses := true, apart := false }
def BestSaysSaid : Prop := bestSaysRow.holds Try.pinned (OpenSpec.ofChange bestSaysSpec)

/-- ITS FALSE NEIGHBOUR: 'it returns false'. Refute it at one input. -/
def bestSaysWrong : ChangeSpec := { name := "bestSays", fn := fun _ => fun
  | [d1, d2, d3, d4] => { results := [.lit (.bool false)], args := [d1, d2, d3, d4] }
  | _ => none }
def BestSaysWrongFalsely : Prop := bestSaysRow.holds Try.pinned (OpenSpec.ofChange bestSaysWrong)

/-- 'rivuletlaw18.BestOne': WHATEVER THE INPUT: true; the input reads as it did. -/
def bestOneSpec : ChangeSpec := { name := "bestOne", fn := fun _ => fun
  | [d1, d2, d3] => { results := [.lit (.bool true)], args := [d1, d2, d3] }
  | _ => none }
def bestOneRow : OpenClaim := { program := "ytgodmfacelfhaaa", sum := "ed587d7c49f2391bfc88b24f20a5d97c5dece6330fbb4afc1b2f0fa55f7f1e63", func := "rivulet/rivuletlaw18.BestOne", spec := "bestOne", unfollowed := true, recurses := true, apart := false }
def BestOneSaid : Prop := bestOneRow.holds Try.pinned (OpenSpec.ofChange bestOneSpec)

/-- ITS FALSE NEIGHBOUR: 'it returns false'. Refute it at one input. -/
def bestOneWrong : ChangeSpec := { name := "bestOne", fn := fun _ => fun
  | [d1, d2, d3] => { results := [.lit (.bool false)], args := [d1, d2, d3] }
  | _ => none }
def BestOneWrongFalsely : Prop := bestOneRow.holds Try.pinned (OpenSpec.ofChange bestOneWrong)

/-- 'rivuletlaw18.BestOrder': WHATEVER THE INPUT: true; the input reads as it did. -/
def bestOrderSpec : ChangeSpec := { name := "bestOrder", fn := fun _ => fun
  | [d1, d2, d3] => { results := [.lit (.bool true)], args := [d1, d2, d3] }
  | _ => none }
def bestOrderRow : OpenClaim := { program := "ytgodmfacelfhaaa", sum := "ed587d7c49f2391bfc88b24f20a5d97c5dece6330fbb4afc1b2f0fa55f7f1e63", func := "rivulet/rivuletlaw18.BestOrder", spec := "bestOrder", unfollowed := true, recurses := true, apart := false }
def BestOrderSaid : Prop := bestOrderRow.holds Try.pinned (OpenSpec.ofChange bestOrderSpec)

/-- ITS FALSE NEIGHBOUR: 'it returns false'. Refute it at one input. -/
def bestOrderWrong : ChangeSpec := { name := "bestOrder", fn := fun _ => fun
  | [d1, d2, d3] => { results := [.lit (.bool false)], args := [d1, d2, d3] }
  | _ => none }
def BestOrderWrongFalsely : Prop := bestOrderRow.holds Try.pinned (OpenSpec.ofChange bestOrderWrong)

/- THE SECOND FORM. 'bulk': how many values and letters a reading holds, each counted each time it is reached (what is shared counts as often as it is met; a slice's spare places count too). A statement '..UptoSaid' is the law's where the arguments, and the package variables that the reading takes, are together of bulk at most 1048576: NARROWER than '..Said'. Prove '..Said' where nothing that the law and all that it calls make is longer than what came in: it says more and counts as full. Else prove '..UptoSaid'. A law counts once. -/
mutual
def uptoBulk {H : Type} : DataW H → Nat
  | .lit (.string bytes) => bytes.length + 1
  | .lit _ => 1
  | .nil => 1
  | .ptr d => uptoBulk d + 1
  | .slice elems spare => uptoBulkAll elems + uptoBulkAll spare + 1
  | .agg parts => uptoBulkAll parts + 1
  | .iface _ d => uptoBulk d + 1
  | .map entries => uptoBulkEntries entries + 1
  | .held _ => 1
def uptoBulkAll {H : Type} : List (DataW H) → Nat
  | [] => 0
  | d :: r => uptoBulk d + uptoBulkAll r
def uptoBulkEntries {H : Type} : List (Lit × DataW H) → Nat
  | [] => 0
  | x :: r => uptoBulkEntry x + uptoBulkEntries r
def uptoBulkEntry {H : Type} : Lit × DataW H → Nat
  | (.string bytes, d) => bytes.length + uptoBulk d + 1
  | (_, d) => uptoBulk d + 1
 end
def uptoSmall : (H : Type) → List (DataW H) → Bool := fun _ ds => decide (uptoBulkAll ds ≤ 1048576)
def OpenSpec.upto (s : _root_.Go.ChangeSpec) : _root_.Go.OpenSpec := { _root_.Go.OpenSpec.ofChange s with cond := some uptoSmall }

/-- 'rivuletlaw18.BestLost', WHERE WHAT IT READS IS OF BULK AT MOST 1048576: true; the input reads as it did. -/
def bestLostUptoRow : OpenClaim := { program := "ytgodmfacelfhaaa", sum := "ed587d7c49f2391bfc88b24f20a5d97c5dece6330fbb4afc1b2f0fa55f7f1e63", func := "rivulet/rivuletlaw18.BestLost", spec := "bestLost", unfollowed := true, recurses := true, apart := false, narrowed := true }
def BestLostUptoSaid : Prop := bestLostUptoRow.holds Try.pinned (OpenSpec.upto bestLostSpec)

/-- 'rivuletlaw18.BestSays', WHERE WHAT IT READS IS OF BULK AT MOST 1048576: true; the input reads as it did. -/
def bestSaysUptoRow : OpenClaim := { program := "ytgodmfacelfhaaa", sum := "ed587d7c49f2391bfc88b24f20a5d97c5dece6330fbb4afc1b2f0fa55f7f1e63", func := "rivulet/rivuletlaw18.BestSays", spec := "bestSays", unfollowed := true, recurses := true, apart := false, narrowed := true }
def BestSaysUptoSaid : Prop := bestSaysUptoRow.holds Try.pinned (OpenSpec.upto bestSaysSpec)

/-- 'rivuletlaw18.BestOne', WHERE WHAT IT READS IS OF BULK AT MOST 1048576: true; the input reads as it did. -/
def bestOneUptoRow : OpenClaim := { program := "ytgodmfacelfhaaa", sum := "ed587d7c49f2391bfc88b24f20a5d97c5dece6330fbb4afc1b2f0fa55f7f1e63", func := "rivulet/rivuletlaw18.BestOne", spec := "bestOne", unfollowed := true, recurses := true, apart := false, narrowed := true }
def BestOneUptoSaid : Prop := bestOneUptoRow.holds Try.pinned (OpenSpec.upto bestOneSpec)

/-- 'rivuletlaw18.BestOrder', WHERE WHAT IT READS IS OF BULK AT MOST 1048576: true; the input reads as it did. -/
def bestOrderUptoRow : OpenClaim := { program := "ytgodmfacelfhaaa", sum := "ed587d7c49f2391bfc88b24f20a5d97c5dece6330fbb4afc1b2f0fa55f7f1e63", func := "rivulet/rivuletlaw18.BestOrder", spec := "bestOrder", unfollowed := true, recurses := true, apart := false, narrowed := true }
def BestOrderUptoSaid : Prop := bestOrderUptoRow.holds Try.pinned (OpenSpec.upto bestOrderSpec)

end Rows
end Go.Proofs.Ytgodmfacelfhaaa
