/- What is wrong first with a network, as plain data: item by item, list by list. No program is imported. A network in memory: seven slices, what they read as; a network as plain data, and what is wrong first with it. No program is imported. -/
import Derived.Test.YtdljpokhcfhhfaaGreatDoorCf
import Derived.Test.YtdljpokhcfhhfaaGreatDoorAd
import Derived.Test.YtdljpokhcfhhfaaGreatDoorName
import Derived.Test.YtdljpokhcfhhfaaGreatDoorKit
import Derived.Test.YtdljpokhcfhhfaaGreatDoorTall
namespace Go.Proofs.YtdljpokhcfhhfaaGreatDoor
open Go.RowKit Lx
/-- a number that may be a cost, or a rank -/
def costOk (n : Int) : Bool := decide (0 ≤ n ∧ n ≤ 65535)
/-- an address that can be one alone's -/
def oneA (a : Int) : Bool := decide (a ≠ 0) && !Ad.group a
/-- an address that is one of a link's -/
def onL (l : List UInt8 × Int × Int) (a : Int) : Bool := decide (a ≠ 0) && Ad.isIn l.2.1 l.2.2 a
/-- a place that a list has -/
def plOk (i : Int) (n : Nat) : Bool := decide (0 ≤ i ∧ i < (n : Int))
def rcode (x : List UInt8 × Int) (ah : List (List UInt8 × Int)) : Int :=
  if nameOk x.1 = false then 109 else if ah.any (fun y => y.1 == x.1) then 110 else if costOk x.2 then 0 else 103
def lcode (x : List UInt8 × Int × Int) (ah : List (List UInt8 × Int × Int)) : Int :=
  if nameOk x.1 = false then 109 else if ah.any (fun y => y.1 == x.1) then 110 else if Ad.valid x.2.1 x.2.2 = false then 103
  else if Ad.within x.2.1 x.2.2 3758096384 4 then 113 else if Ad.within 3758096384 4 x.2.1 x.2.2 then 113 else 0
def pcode (nr : Nat) (ls : List (List UInt8 × Int × Int)) (x : Int × Int × Int) (ah : List (Int × Int × Int)) : Int :=
  if plOk x.1 nr = false then 111 else if plOk x.2.1 ls.length = false then 111 else if onL (ls.getD x.2.1.toNat ([], 0, 0)) x.2.2 = false then 112
  else if ah.any (fun y => y.2.2 == x.2.2 || y.1 == x.1 && y.2.1 == x.2.1) then 110 else 0
def ocode (nr : Nat) (x : Int × Int × Int × Int × Int) : Int :=
  if plOk x.1 nr = false then 111 else if Ad.valid x.2.1 x.2.2.1 = false then 103 else if costOk x.2.2.2.2 = false then 103 else if oneA x.2.2.2.1 then 0 else 113
def gcode (x : Int × Int × Int) (ah : List (Int × Int × Int)) : Int :=
  if Ad.valid x.1 x.2.1 = false then 103 else if Ad.within x.1 x.2.1 3758096384 4 = false then 113 else if oneA x.2.2 = false then 113
  else if ah.any (fun y => y.1 == x.1 && y.2.1 == x.2.1) then 110 else 0
def scode (ls : List (List UInt8 × Int × Int)) (ps : List (Int × Int × Int)) (x : Int × Int × Int) (ah : List (Int × Int × Int)) : Int :=
  if plOk x.1 ls.length = false then 111 else if onL (ls.getD x.1.toNat ([], 0, 0)) x.2.1 = false then 112 else if Ad.group x.2.2 = false then 113
  else if ps.any (fun y => y.2.2 == x.2.1) then 110 else if ah.any (fun y => (y.2.1 == x.2.1 && y.2.2 == x.2.2) || (y.2.1 == x.2.1 && !(y.1 == x.1))) then 110 else 0
/-- is an address there twice? -/
def twice : List Int → List Int → Bool
  | _, [] => false
  | ah, a :: l => ah.contains a || twice (ah ++ [a]) l
def mcode (nl : Nat) (x : Mb) : Int :=
  if plOk x.l nl = false then 111 else if Ad.group x.g = false then 113 else if x.xs.any (fun a => !oneA a) then 113 else if 4 < x.xs.length then 104 else if twice [] x.xs then 110 else 0
/-- of the item at a place -/
def atC {α : Type} (f : α → List α → Int) (xs : List α) (i : Nat) : Int := match xs[i]? with | some x => f x (xs.take i) | none => 0
theorem atC_at {α : Type} {f : α → List α → Int} {xs : List α} {i : Nat} {x : α} (h : xs[i]? = some x) : atC f xs i = f x (xs.take i) := by unfold atC; rw [h]
theorem isC0 : IsC 0 := .inl rfl
theorem isCj (j : Nat) (h : j < 14) (c : Int) (e : c = 101 + (j : Int)) : IsC c := .inr ⟨j, h, e⟩
theorem isC103 : IsC 103 := isCj 2 (by decide) _ rfl
theorem isC104 : IsC 104 := isCj 3 (by decide) _ rfl
theorem isC109 : IsC 109 := isCj 8 (by decide) _ rfl
theorem isC110 : IsC 110 := isCj 9 (by decide) _ rfl
theorem isC111 : IsC 111 := isCj 10 (by decide) _ rfl
theorem isC112 : IsC 112 := isCj 11 (by decide) _ rfl
theorem isC113 : IsC 113 := isCj 12 (by decide) _ rfl
theorem isC_ite {p : Prop} [Decidable p] {a b : Int} (ha : IsC a) (hb : IsC b) : IsC (if p then a else b) := by split <;> assumption
theorem rcode_is (x ah) : IsC (rcode x ah) := isC_ite isC109 (isC_ite isC110 (isC_ite isC0 isC103))
theorem lcode_is (x ah) : IsC (lcode x ah) := isC_ite isC109 (isC_ite isC110 (isC_ite isC103 (isC_ite isC113 (isC_ite isC113 isC0))))
theorem pcode_is (nr ls x ah) : IsC (pcode nr ls x ah) := isC_ite isC111 (isC_ite isC111 (isC_ite isC112 (isC_ite isC110 isC0)))
theorem ocode_is (nr x) : IsC (ocode nr x) := isC_ite isC111 (isC_ite isC103 (isC_ite isC103 (isC_ite isC0 isC113)))
theorem gcode_is (x ah) : IsC (gcode x ah) := isC_ite isC103 (isC_ite isC113 (isC_ite isC113 (isC_ite isC110 isC0)))
theorem scode_is (ls ps x ah) : IsC (scode ls ps x ah) := isC_ite isC111 (isC_ite isC112 (isC_ite isC113 (isC_ite isC110 (isC_ite isC110 isC0))))
theorem mcode_is (nl x) : IsC (mcode nl x) := isC_ite isC111 (isC_ite isC113 (isC_ite isC113 (isC_ite isC104 (isC_ite isC110 isC0))))
theorem atC_is {α : Type} {f : α → List α → Int} (hf : ∀ x ah, IsC (f x ah)) (xs : List α) (i : Nat) : IsC (atC f xs i) := by
  unfold atC; split
  · exact hf _ _
  · exact isC0
theorem str_beq (a b : List UInt8) : ((str a).toList == (str b).toList) = (a == b) := by rw [ByteArray.toList_eq, ByteArray.toList_eq, str_data, str_data]
end Go.Proofs.YtdljpokhcfhhfaaGreatDoor
namespace Go.Proofs.YtdljpokhcfhhfaaGreatDoor
open Go.RowKit Lx
/-- a slice: its place, its length, its room -/
structure Sl where
  A : Option Addr
  n : Nat
  c : Nat
/-- a network's seven slices -/
structure Cm where
  r : Sl
  l : Sl
  p : Sl
  o : Sl
  g : Sl
  s : Sl
  m : Sl
/-- a network as plain data (a member bears its sources' place) -/
structure Cfg where
  rs : List (List UInt8 × Int)
  ls : List (List UInt8 × Int × Int)
  ps : List (Int × Int × Int)
  os : List (Int × Int × Int × Int × Int)
  gs : List (Int × Int × Int)
  ss : List (Int × Int × Int)
  ms : List (Mb)
/-- the addresses are addresses -/
def Cfg.ok (x : Cfg) : Prop := (∀ y ∈ x.ls, U32 y.2.1) ∧ (∀ y ∈ x.ps, U32 y.2.2) ∧ (∀ y ∈ x.os, U32 y.2.1 ∧ U32 y.2.2.2.1) ∧ (∀ y ∈ x.gs, U32 y.1 ∧ U32 y.2.2) ∧ (∀ y ∈ x.ss, U32 y.2.1 ∧ U32 y.2.2) ∧ (∀ y ∈ x.ms, U32 y.g)
def Sl.ok (s : Sl) : Prop := s.n ≤ s.c ∧ s.n ≤ 1000000
/-- the network lies so in the world -/
structure CW (w : World) (M : Cm) (x : Cfg) : Prop where
  r : IRouter w M.r.A M.r.n x.rs
  l : ILink w M.l.A M.l.n x.ls
  p : IPort w M.p.A M.p.n x.ps
  o : IRoute w M.o.A M.o.n x.os
  g : IRange w M.g.A M.g.n x.gs
  s : ISource w M.s.A M.s.n x.ss
  m : IMember w M.m.A M.m.n x.ms
  rok : M.r.ok
  lok : M.l.ok
  pok : M.p.ok
  ook : M.o.ok
  gok : M.g.ok
  sok : M.s.ok
  mok : M.m.ok
  src : ∀ y ∈ x.ms, AR w y.A y.n y.xs ∧ y.n ≤ y.c ∧ y.n ≤ 1000000
  ok : x.ok
theorem CW.next {w w' : World} {M : Cm} {x : Cfg} (h : CW w M x) (hb : Below w.heap.size w w') : CW w' M x :=
  ⟨IR.next h.r hb, IR.next h.l hb, IR.next h.p hb, IR.next h.o hb, IR.next h.g hb, IR.next h.s hb, IR.next h.m hb, h.rok, h.lok, h.pok, h.ook, h.gok, h.sok, h.mok, fun y hy => ⟨(h.src y hy).1.next hb, (h.src y hy).2⟩, h.ok⟩
/-- the first that is not 0 -/
def firstNZ : List Int → Int
  | [] => 0
  | a :: l => if a = 0 then firstNZ l else a
theorem firstNZ_next {a : Int} {l : List Int} (h : a = 0) : firstNZ (a :: l) = firstNZ l := by simp [firstNZ, h]
theorem firstNZ_here {a : Int} {l : List Int} (h : a ≠ 0) : firstNZ (a :: l) = a := by simp [firstNZ, h]
/-- what is wrong first with each list -/
def vlist (x : Cfg) : List Int := [feC (atC (rcode) x.rs) 16 0 x.rs.length, feC (atC (lcode) x.ls) 24 0 x.ls.length, feC (atC (pcode x.rs.length x.ls) x.ps) 64 0 x.ps.length, feC (atC (fun y _ => ocode x.rs.length y) x.os) 96 0 x.os.length, feC (atC (gcode) x.gs) 8 0 x.gs.length, feC (atC (scode x.ls x.ps) x.ss) 8 0 x.ss.length, feC (atC (fun y _ => mcode x.ls.length y) x.ms) 24 0 x.ms.length]
def vcode (x : Cfg) : Int := firstNZ (vlist x)
theorem feC_is {C : Nat → Int} (h : ∀ i, IsC (C i)) (most : Nat) : ∀ (m i : Nat), IsC (feC C most i m)
  | 0, _ => isC0
  | m + 1, i => by
    unfold feC
    exact isC_ite isC104 (isC_ite (feC_is h most m (i + 1)) (h i))
theorem vlist_is (x : Cfg) : ∀ q ∈ vlist x, IsC q := by
  intro q hq
  simp only [vlist, List.mem_cons, List.not_mem_nil, or_false] at hq
  rcases hq with rfl | rfl | rfl | rfl | rfl | rfl | rfl
  · exact feC_is (atC_is rcode_is _) _ _ _
  · exact feC_is (atC_is lcode_is _) _ _ _
  · exact feC_is (atC_is (pcode_is _ _) _) _ _ _
  · exact feC_is (atC_is (fun y _ => ocode_is _ y) _) _ _ _
  · exact feC_is (atC_is gcode_is _) _ _ _
  · exact feC_is (atC_is (scode_is _ _) _) _ _ _
  · exact feC_is (atC_is (fun y _ => mcode_is _ y) _) _ _ _
theorem firstNZ_is : ∀ (l : List Int), (∀ q ∈ l, IsC q) → IsC (firstNZ l)
  | [], _ => isC0
  | a :: l, h => by
    unfold firstNZ
    exact isC_ite (firstNZ_is l (fun q hq => h q (List.mem_cons_of_mem _ hq))) (h a (List.mem_cons_self ..))
theorem vcode_is (x : Cfg) : IsC (vcode x) := firstNZ_is _ (vlist_is x)
end Go.Proofs.YtdljpokhcfhhfaaGreatDoor

