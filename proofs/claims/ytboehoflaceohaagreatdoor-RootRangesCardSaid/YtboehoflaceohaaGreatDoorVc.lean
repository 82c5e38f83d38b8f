/- What is wrong first with a network, as plain data: item by item, list by list. No program is imported. -/
import Derived.Test.YtboehoflaceohaaGreatDoorCf
import Derived.Test.YtboehoflaceohaaGreatDoorAd
import Derived.Test.YtboehoflaceohaaGreatDoorName
import Derived.Test.YtboehoflaceohaaGreatDoorEr
namespace Go.Proofs.YtboehoflaceohaaGreatDoor
open Go.RowKit Lx
/-- a number that may be a cost, or a rank -/
def costOk (n : Int) : Bool := decide (0 ≤ n ∧ n ≤ 65535)
/-- an address that can be one alone's -/
def oneA (a : Int) : Bool := decide (a ≠ 0) && !Ad.group a
/-- an address that is one of a link's -/
def onL (l : List UInt8 × Int × Int) (a : Int) : Bool := decide (a ≠ 0) && Ad.isIn l.2.1 l.2.2 a
/-- a place that a list has -/
def plOk (i : Int) (n : Nat) : Bool := decide (0 ≤ i ∧ i < (n : Int))
def rcode (x : List UInt8 × Int) (ah : List (List UInt8 × Int)) : Int :=
  if nameOk x.1 = false then 109 else if ah.any (fun y => y.1 == x.1) then 110 else if costOk x.2 then 0 else 103
def lcode (x : List UInt8 × Int × Int) (ah : List (List UInt8 × Int × Int)) : Int :=
  if nameOk x.1 = false then 109 else if ah.any (fun y => y.1 == x.1) then 110 else if Ad.valid x.2.1 x.2.2 = false then 103
  else if Ad.within x.2.1 x.2.2 3758096384 4 then 113 else if Ad.within 3758096384 4 x.2.1 x.2.2 then 113 else 0
def pcode (nr : Nat) (ls : List (List UInt8 × Int × Int)) (x : Int × Int × Int) (ah : List (Int × Int × Int)) : Int :=
  if plOk x.1 nr = false then 111 else if plOk x.2.1 ls.length = false then 111 else if onL (ls.getD x.2.1.toNat ([], 0, 0)) x.2.2 = false then 112
  else if ah.any (fun y => y.2.2 == x.2.2 || y.1 == x.1 && y.2.1 == x.2.1) then 110 else 0
def ocode (nr : Nat) (x : Int × Int × Int × Int × Int) : Int :=
  if plOk x.1 nr = false then 111 else if Ad.valid x.2.1 x.2.2.1 = false then 103 else if costOk x.2.2.2.2 = false then 103 else if oneA x.2.2.2.1 then 0 else 113
def gcode (x : Int × Int × Int) (ah : List (Int × Int × Int)) : Int :=
  if Ad.valid x.1 x.2.1 = false then 103 else if Ad.within x.1 x.2.1 3758096384 4 = false then 113 else if oneA x.2.2 = false then 113
  else if ah.any (fun y => y.1 == x.1 && y.2.1 == x.2.1) then 110 else 0
def scode (ls : List (List UInt8 × Int × Int)) (ps : List (Int × Int × Int)) (x : Int × Int × Int) (ah : List (Int × Int × Int)) : Int :=
  if plOk x.1 ls.length = false then 111 else if onL (ls.getD x.1.toNat ([], 0, 0)) x.2.1 = false then 112 else if Ad.group x.2.2 = false then 113
  else if ps.any (fun y => y.2.2 == x.2.1) then 110 else if ah.any (fun y => (y.2.1 == x.2.1 && y.2.2 == x.2.2) || (y.2.1 == x.2.1 && !(y.1 == x.1))) then 110 else 0
/-- is an address there twice? -/
def twice : List Int → List Int → Bool
  | _, [] => false
  | ah, a :: l => ah.contains a || twice (ah ++ [a]) l
def mcode (nl : Nat) (x : Mb) : Int :=
  if plOk x.l nl = false then 111 else if Ad.group x.g = false then 113 else if x.xs.any (fun a => !oneA a) then 113 else if 4 < x.xs.length then 104 else if twice [] x.xs then 110 else 0
/-- of the item at a place -/
def atC {α : Type} (f : α → List α → Int) (xs : List α) (i : Nat) : Int := match xs[i]? with | some x => f x (xs.take i) | none => 0
theorem atC_at {α : Type} {f : α → List α → Int} {xs : List α} {i : Nat} {x : α} (h : xs[i]? = some x) : atC f xs i = f x (xs.take i) := by unfold atC; rw [h]
theorem isC0 : IsC 0 := .inl rfl
theorem isCj (j : Nat) (h : j < 14) (c : Int) (e : c = 101 + (j : Int)) : IsC c := .inr ⟨j, h, e⟩
theorem isC103 : IsC 103 := isCj 2 (by decide) _ rfl
theorem isC104 : IsC 104 := isCj 3 (by decide) _ rfl
theorem isC109 : IsC 109 := isCj 8 (by decide) _ rfl
theorem isC110 : IsC 110 := isCj 9 (by decide) _ rfl
theorem isC111 : IsC 111 := isCj 10 (by decide) _ rfl
theorem isC112 : IsC 112 := isCj 11 (by decide) _ rfl
theorem isC113 : IsC 113 := isCj 12 (by decide) _ rfl
theorem isC_ite {p : Prop} [Decidable p] {a b : Int} (ha : IsC a) (hb : IsC b) : IsC (if p then a else b) := by split <;> assumption
theorem rcode_is (x ah) : IsC (rcode x ah) := isC_ite isC109 (isC_ite isC110 (isC_ite isC0 isC103))
theorem lcode_is (x ah) : IsC (lcode x ah) := isC_ite isC109 (isC_ite isC110 (isC_ite isC103 (isC_ite isC113 (isC_ite isC113 isC0))))
theorem pcode_is (nr ls x ah) : IsC (pcode nr ls x ah) := isC_ite isC111 (isC_ite isC111 (isC_ite isC112 (isC_ite isC110 isC0)))
theorem ocode_is (nr x) : IsC (ocode nr x) := isC_ite isC111 (isC_ite isC103 (isC_ite isC103 (isC_ite isC0 isC113)))
theorem gcode_is (x ah) : IsC (gcode x ah) := isC_ite isC103 (isC_ite isC113 (isC_ite isC113 (isC_ite isC110 isC0)))
theorem scode_is (ls ps x ah) : IsC (scode ls ps x ah) := isC_ite isC111 (isC_ite isC112 (isC_ite isC113 (isC_ite isC110 (isC_ite isC110 isC0))))
theorem mcode_is (nl x) : IsC (mcode nl x) := isC_ite isC111 (isC_ite isC113 (isC_ite isC113 (isC_ite isC104 (isC_ite isC110 isC0))))
theorem atC_is {α : Type} {f : α → List α → Int} (hf : ∀ x ah, IsC (f x ah)) (xs : List α) (i : Nat) : IsC (atC f xs i) := by
  unfold atC; split
  · exact hf _ _
  · exact isC0
theorem str_beq (a b : List UInt8) : ((str a).toList == (str b).toList) = (a == b) := by rw [ByteArray.toList_eq, ByteArray.toList_eq, str_data, str_data]
end Go.Proofs.YtboehoflaceohaaGreatDoor

