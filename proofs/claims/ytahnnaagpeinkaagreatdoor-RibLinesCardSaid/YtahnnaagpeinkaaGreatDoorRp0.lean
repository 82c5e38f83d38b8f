/- Prefixes and the places of the most bits as plain data. No program's function is walked. -/
import Derived.Test.YtahnnaagpeinkaaGreatDoorKit
namespace Go.Proofs.YtahnnaagpeinkaaGreatDoor
/-- an address begins as a prefix -/
def beg (a p b : Int) : Bool := decide (a / 2 ^ (32 - b).toNat = p / 2 ^ (32 - b).toNat)
/-- of some places those in whose prefix an address is, of the most bits -/
def longP (P : Int → Int × Int) (a : Int) : List Int → List Int → Int → List Int × Int
  | [], f, m => (f, m)
  | i :: L, f, m => if beg a (P i).1 (P i).2 = false ∨ (P i).2 < m then longP P a L f m else if m < (P i).2 then longP P a L [i] (P i).2 else longP P a L (f ++ [i]) m
end Go.Proofs.YtahnnaagpeinkaaGreatDoor

