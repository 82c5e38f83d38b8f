/- A network in memory: seven slices, what they read as; a network as plain data, and what is wrong first with it. No program is imported. -/
import Derived.Test.YtboehoflaceohaaGreatDoorVc
import Derived.Test.YtboehoflaceohaaGreatDoorTall
namespace Go.Proofs.YtboehoflaceohaaGreatDoor
open Go.RowKit Lx
/-- a slice: its place, its length, its room -/
structure Sl where
  A : Option Addr
  n : Nat
  c : Nat
/-- a network's seven slices -/
structure Cm where
  r : Sl
  l : Sl
  p : Sl
  o : Sl
  g : Sl
  s : Sl
  m : Sl
/-- a network as plain data (a member bears its sources' place) -/
structure Cfg where
  rs : List (List UInt8 × Int)
  ls : List (List UInt8 × Int × Int)
  ps : List (Int × Int × Int)
  os : List (Int × Int × Int × Int × Int)
  gs : List (Int × Int × Int)
  ss : List (Int × Int × Int)
  ms : List (Mb)
def U32 (a : Int) : Prop := 0 ≤ a ∧ a ≤ 4294967295
/-- the addresses are addresses -/
def Cfg.ok (x : Cfg) : Prop := (∀ y ∈ x.ls, U32 y.2.1) ∧ (∀ y ∈ x.ps, U32 y.2.2) ∧ (∀ y ∈ x.os, U32 y.2.1 ∧ U32 y.2.2.2.1) ∧ (∀ y ∈ x.gs, U32 y.1 ∧ U32 y.2.2) ∧ (∀ y ∈ x.ss, U32 y.2.1 ∧ U32 y.2.2) ∧ (∀ y ∈ x.ms, U32 y.g)
def Sl.ok (s : Sl) : Prop := s.n ≤ s.c ∧ s.n ≤ 1000000
/-- the network lies so in the world -/
structure CW (w : World) (M : Cm) (x : Cfg) : Prop where
  r : IRouter w M.r.A M.r.n x.rs
  l : ILink w M.l.A M.l.n x.ls
  p : IPort w M.p.A M.p.n x.ps
  o : IRoute w M.o.A M.o.n x.os
  g : IRange w M.g.A M.g.n x.gs
  s : ISource w M.s.A M.s.n x.ss
  m : IMember w M.m.A M.m.n x.ms
  rok : M.r.ok
  lok : M.l.ok
  pok : M.p.ok
  ook : M.o.ok
  gok : M.g.ok
  sok : M.s.ok
  mok : M.m.ok
  src : ∀ y ∈ x.ms, AR w y.A y.n y.xs ∧ y.n ≤ y.c ∧ y.n ≤ 1000000
  ok : x.ok
theorem CW.next {w w' : World} {M : Cm} {x : Cfg} (h : CW w M x) (hb : Below w.heap.size w w') : CW w' M x :=
  ⟨IR.next h.r hb, IR.next h.l hb, IR.next h.p hb, IR.next h.o hb, IR.next h.g hb, IR.next h.s hb, IR.next h.m hb, h.rok, h.lok, h.pok, h.ook, h.gok, h.sok, h.mok, fun y hy => ⟨(h.src y hy).1.next hb, (h.src y hy).2⟩, h.ok⟩
/-- the first that is not 0 -/
def firstNZ : List Int → Int
  | [] => 0
  | a :: l => if a = 0 then firstNZ l else a
theorem firstNZ_next {a : Int} {l : List Int} (h : a = 0) : firstNZ (a :: l) = firstNZ l := by simp [firstNZ, h]
theorem firstNZ_here {a : Int} {l : List Int} (h : a ≠ 0) : firstNZ (a :: l) = a := by simp [firstNZ, h]
/-- what is wrong first with each list -/
def vlist (x : Cfg) : List Int := [feC (atC (rcode) x.rs) 16 0 x.rs.length, feC (atC (lcode) x.ls) 24 0 x.ls.length, feC (atC (pcode x.rs.length x.ls) x.ps) 64 0 x.ps.length, feC (atC (fun y _ => ocode x.rs.length y) x.os) 96 0 x.os.length, feC (atC (gcode) x.gs) 8 0 x.gs.length, feC (atC (scode x.ls x.ps) x.ss) 8 0 x.ss.length, feC (atC (fun y _ => mcode x.ls.length y) x.ms) 24 0 x.ms.length]
def vcode (x : Cfg) : Int := firstNZ (vlist x)
theorem feC_is {C : Nat → Int} (h : ∀ i, IsC (C i)) (most : Nat) : ∀ (m i : Nat), IsC (feC C most i m)
  | 0, _ => isC0
  | m + 1, i => by
    unfold feC
    exact isC_ite isC104 (isC_ite (feC_is h most m (i + 1)) (h i))
theorem vlist_is (x : Cfg) : ∀ q ∈ vlist x, IsC q := by
  intro q hq
  simp only [vlist, List.mem_cons, List.not_mem_nil, or_false] at hq
  rcases hq with rfl | rfl | rfl | rfl | rfl | rfl | rfl
  · exact feC_is (atC_is rcode_is _) _ _ _
  · exact feC_is (atC_is lcode_is _) _ _ _
  · exact feC_is (atC_is (pcode_is _ _) _) _ _ _
  · exact feC_is (atC_is (fun y _ => ocode_is _ y) _) _ _ _
  · exact feC_is (atC_is gcode_is _) _ _ _
  · exact feC_is (atC_is (scode_is _ _) _) _ _ _
  · exact feC_is (atC_is (fun y _ => mcode_is _ y) _) _ _ _
theorem firstNZ_is : ∀ (l : List Int), (∀ q ∈ l, IsC q) → IsC (firstNZ l)
  | [], _ => isC0
  | a :: l, h => by
    unfold firstNZ
    exact isC_ite (firstNZ_is l (fun q hq => h q (List.mem_cons_of_mem _ hq))) (h a (List.mem_cons_self ..))
theorem vcode_is (x : Cfg) : IsC (vcode x) := firstNZ_is _ (vlist_is x)
end Go.Proofs.YtboehoflaceohaaGreatDoor

