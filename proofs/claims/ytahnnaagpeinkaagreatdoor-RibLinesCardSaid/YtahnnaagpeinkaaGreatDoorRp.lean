/- A router's ways as plain data: the places of the most bits, the cheapest route, the way. No program's function is walked. -/
import Derived.Test.YtahnnaagpeinkaaGreatDoorLp
import Derived.Test.YtahnnaagpeinkaaGreatDoorRp0
namespace Go.Proofs.YtahnnaagpeinkaaGreatDoor
open Go.RowKit Lx Sm
def linkP (x : Cfg) (l : Int) : Int × Int := ((x.ls[l.toNat]?).map fun y => y.2).getD (0, 0)
def preP (x : Cfg) (i : Int) : Int × Int := linkP x (((x.ps[i.toNat]?).map fun y => y.2.1).getD 0)
def preO (x : Cfg) (i : Int) : Int × Int := ((x.os[i.toNat]?).map fun y => (y.2.1, y.2.2.1)).getD (0, 0)
def portsOf (x : Cfg) (r : Int) : List Int := rowIn (tabs x x.ps.length x.ps.length x.ms.length 1) x.rs.length r
def routesOf (x : Cfg) (r : Int) : List Int := picks (fun y => y.1 == r) x.os x.os.length
def nearP (x : Cfg) (r a : Int) : List Int × Int := longP (preP x) a (portsOf x r) [] 0
def farP (x : Cfg) (r a : Int) : List Int × Int := longP (preO x) a (routesOf x r) [] 0
def routeAt (os : List (Int × Int × Int × Int × Int)) (i : Int) : Int × Int × Int × Int × Int := (os[i.toNat]?).getD (0, 0, 0, 0, 0)
def cheapR (os : List (Int × Int × Int × Int × Int)) (b : Int × Int × Int × Int × Int) : List Int → Int × Int × Int × Int × Int
  | [] => b
  | i :: L => cheapR os (if (routeAt os i).2.2.2.2 < b.2.2.2.2 then routeAt os i else b) L
def cheap (os : List (Int × Int × Int × Int × Int)) : List Int → Int × Int × Int × Int × Int
  | [] => (0, 0, 0, 0, 0)
  | i :: L => cheapR os (routeAt os i) L
/-- the way: its port, its next address, its cost; none -/
def lookP (x : Cfg) (r : Int) : Nat → Int → Int → Int → Option (Int × Int × Int)
  | 0, _, _, _ => none
  | k + 1, a, v, c =>
    match (nearP x r a).1, (farP x r a).1 with
    | p :: _, _ => if (farP x r a).2 ≤ (nearP x r a).2 then some (p, v, c) else match (farP x r a).1 with
      | [] => none
      | f => lookP x r k (cheap x.os f).2.2.2.1 (cheap x.os f).2.2.2.1 (min (c + (cheap x.os f).2.2.2.2) 65535)
    | [], [] => none
    | [], f => lookP x r k (cheap x.os f).2.2.2.1 (cheap x.os f).2.2.2.1 (min (c + (cheap x.os f).2.2.2.2) 65535)
/-- the answer: the way, and whether there is one -/
def lookA (x : Cfg) (r a : Int) : (Int × Int × Int) × Bool := ((lookP x r 7 a 0 0).getD (0, 0, 0), (lookP x r 7 a 0 0).isSome)
end Go.Proofs.YtahnnaagpeinkaaGreatDoor

