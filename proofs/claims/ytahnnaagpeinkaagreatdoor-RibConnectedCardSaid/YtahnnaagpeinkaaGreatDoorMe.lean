/- topo's methods over a Topo in memory: the ports on a link, of a router, the members on a link, the port of an address, the others there; over the seat's program. topo's Others over a Topo in memory: the ports of other routers on a port's link; over the seat's program. -/
import Derived.Test.YtahnnaagpeinkaaGreatDoorNw0
import Derived.Test.YtahnnaagpeinkaaGreatDoorCp
namespace Go.Proofs.YtahnnaagpeinkaaGreatDoor
open Go.RowKit Lx Sm Go.Maps
/-- the row at a place; none, where there is no such place -/
def rowIn (xs : Nat → List Int) (n : Nat) (p : Int) : List Int := if 0 ≤ p ∧ p < (n : Int) then xs p.toNat else []
theorem JR.ir {w : World} {A : Option Addr} {n : Nat} {xs : List Int} (h : JR w A n xs) : IR CInt 1 w A n xs :=
  ⟨h.1, fun hn => by
    obtain ⟨b, o, e, hlt, hc⟩ := h.2 hn
    refine ⟨b, o, e, hlt, fun i x hx j v hv => ?_⟩
    have hi : i < n := by have := (List.getElem?_eq_some_iff.1 hx).1; have := h.1; omega
    obtain rfl : j = 0 := by
      rcases j with _ | j
      · rfl
      · simp [CInt] at hv
    have := hc i hi
    simp only [CInt, List.getElem?_cons_zero, Option.some.injEq] at hv
    rw [Nat.mul_one, Nat.add_zero, this, ← hv]
    simp [List.getD, hx]⟩
theorem JR.of_ir {w : World} {A : Option Addr} {n : Nat} {xs : List Int} (h : IR CInt 1 w A n xs) : JR w A n xs :=
  ⟨h.1, fun hn => by
    obtain ⟨b, o, e, hlt, hc⟩ := h.2 hn
    refine ⟨b, o, e, hlt, fun i hi => ?_⟩
    have hx : xs[i]? = some (xs.getD i 0) := by
      have := h.1
      rw [List.getElem?_eq_getElem (by omega)]
      simp [List.getD, show i < xs.length by omega]
    have := hc i _ hx 0 _ rfl
    rwa [Nat.mul_one, Nat.add_zero] at this⟩
theorem jr_nil (w : World) : JR w none 0 [] := ⟨rfl, fun h => absurd h (by omega)⟩
set_option maxHeartbeats 1000000 in
theorem listat_any {b : Nat} {G n : Nat → Nat} {xs : Nat → Nat → List Int} (t : Nat) (ht : t < 3) (g : Nat) (hg : G t = g) (p : Int) (w : World) (h : RT b G n xs w) (hlen : ∀ i, (xs t i).length ≤ 1000000) :
    Calls Tryz.prog 113 #[.slice (some ⟨g, 0, none⟩) (n t) (n t), .int .i64 p] w fun e w' => ∃ A c, e = .returned (.slice A (rowIn (xs t) (n t) p).length c) ∧ JR w' A (rowIn (xs t) (n t) p).length (rowIn (xs t) (n t) p) ∧ Below w.heap.size w w' := by
  subst hg
  by_cases hin : 0 ≤ p ∧ p < (n t : Int)
  · obtain ⟨pn, rfl⟩ : ∃ m : Nat, p = m := ⟨p.toNat, by omega⟩
    have hp : pn < n t := by omega
    have HR : Hid (rowIn (xs t) (n t) (pn : Int) = xs t pn) := Lib.hid (by unfold rowIn; rw [if_pos hin]; simp)
    obtain ⟨v, hcv, hov⟩ := h.cell ht hp
    obtain ⟨A, c, rfl, hj⟩ := own_jr hov
    have hC := Lib.hid (fun W (hW : Below w.heap.size w W) => copied_tint A (xs t pn).length c (xs t pn) W (JR.ir (hj.next hW)) (hlen pn))
    have h1 : decide ((pn : Int) < 0) = false := by simp
    have h2 : decide ((n t : Int) ≤ (pn : Int)) = false := by simp; omega
    have hi0 : (pn : Int) < (n t : Int) := by omega
    rw [HR.out]
    clear hov hj hlen h hin
    go_enter Tryz.func113, Tryz.ntmps113
    go_wp2_with (go_at_call 139; refine (hC.out _ (Below.refl _ _)).mono ?_; rintro e w1 ⟨A', c', rfl, hc', _, hi', hb⟩)
    go_ret
    exact ⟨A', c', rfl, JR.of_ir hi', hb⟩
  · have HR : Hid (rowIn (xs t) (n t) p = []) := Lib.hid (by unfold rowIn; rw [if_neg hin])
    rw [HR.out]
    clear h hlen
    by_cases h0 : p < 0
    · have h1 : decide (p < 0) = true := by simpa using h0
      clear hin
      go_enter Tryz.func113, Tryz.ntmps113
      go_wp2
      go_ret
      exact ⟨none, 0, rfl, jr_nil _, Below.refl _ _⟩
    · have h1 : decide (p < 0) = false := by simpa using h0
      have h2 : decide ((n t : Int) ≤ p) = true := by simp; omega
      clear hin h0
      go_enter Tryz.func113, Tryz.ntmps113
      go_wp2
      go_ret
      exact ⟨none, 0, rfl, jr_nil _, Below.refl _ _⟩
section
variable {b : Nat} {T : TP} {x : Cfg} {gs : List Int}
theorem TW.next {w w' : World} (h : TW w b T x gs) (hb : Below w.heap.size w w') : TW w' b T x gs := by
  obtain ⟨nn, D, h1, h2⟩ := h.at_
  exact ⟨h.net.fr (Fr2.below hb), h.blk.next hb, h.tab.next hb, ⟨nn, D, map_same h1 (fun es clock e => (hb.block T.mb (Array.getElem?_eq_some_iff.1 e).1).trans e), h2⟩, ownk_next h.gr hb⟩
set_option maxHeartbeats 1000000 in
theorem tof_any (p : Int) (w : World) (h : TW w b T x gs) :
    Calls Tryz.prog 59 #[.pointer (some ⟨T.N, 0, none⟩), .int .i64 p] w fun e w' => ∃ A c, e = .returned (.slice A (rowIn (tabs x x.ps.length x.ps.length x.ms.length 1) x.rs.length p).length c) ∧ JR w' A (rowIn (tabs x x.ps.length x.ps.length x.ms.length 1) x.rs.length p).length (rowIn (tabs x x.ps.length x.ps.length x.ms.length 1) x.rs.length p) ∧ Below w.heap.size w w' := by
  have hp6 := h.net.oks.2.2.1.2
  have hpl := h.net.len.2.2.1
  have hm6 := h.net.oks.2.2.2.2.2.2.2
  have hml := h.net.len.2.2.2.2.2.2
  have hC := Lib.hid (fun W (hW : Below w.heap.size w W) => listat_any 1 (by decide) (T.G 1) rfl p W (h.next hW).tab (fun i => tabs_len x _ _ _ 1 i 1000000 (by omega) (by omega) (by omega)))
  have hs : sizes x 1 = x.rs.length := by simp [sizes]
  rw [hs] at hC
  have y : w.cell? ⟨T.N, 8, none⟩ = some (.slice (some ⟨T.G 1, 0, none⟩) x.rs.length x.rs.length) := h.blk.cell 8
  clear h hp6 hpl hm6 hml hs
  generalize (tabs x x.ps.length x.ps.length x.ms.length 1) = R at *
  go_enter Tryz.func59, Tryz.ntmps59
  go_wp2_with (go_at_call 113; refine (hC.out _ (Below.refl _ _)).mono ?_; rintro e w1 ⟨A, c, rfl, hj, hb⟩)
  go_ret
  exact ⟨A, c, rfl, hj, hb⟩
end
end Go.Proofs.YtahnnaagpeinkaaGreatDoor
namespace Go.Proofs.YtahnnaagpeinkaaGreatDoor
open Go.RowKit Lx Sm Go.Maps
theorem picks_mem {α : Type} {p : α → Bool} {xs : List α} : ∀ {n : Nat} {q : Int}, q ∈ picks p xs n → ∃ j : Nat, j < n ∧ q = j ∧ ∃ y, xs[j]? = some y ∧ p y = true
  | 0, _, h => by cases h
  | n + 1, q, h => by
    unfold picks at h
    rcases List.mem_append.1 h with h | h
    · obtain ⟨j, hj, e, hy⟩ := picks_mem h
      exact ⟨j, by omega, e, hy⟩
    · cases hx : xs[n]? with
      | none => rw [hx] at h; cases h
      | some y =>
        rw [hx] at h
        dsimp only at h
        split at h
        · simp only [List.mem_singleton] at h
          exact ⟨n, by omega, h, y, hx, by assumption⟩
        · cases h
/-- is a port another router's? -/
def isO (ps : List (Int × Int × Int)) (r : Int) (q : Int) : Bool := match ps[q.toNat]? with | some y => y.1 != r | none => false
/-- the ports of other routers on a port's link -/
def oth (ps : List (Int × Int × Int)) (r l : Int) : List Int := (picks (fun y => y.2.1 == l) ps ps.length).filter (isO ps r)
end Go.Proofs.YtahnnaagpeinkaaGreatDoor

