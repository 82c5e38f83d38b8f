/- Contracts of slices.IndexFunc and slices.ContainsFunc at Routers, of whatever predicate, and of conf.firstError at them, of whatever check. Contracts of slices.IndexFunc and slices.ContainsFunc at Links, of whatever predicate, and of conf.firstError at them, of whatever check. Contracts of slices.IndexFunc and slices.ContainsFunc at Ports, of whatever predicate, and of conf.firstError at them, of whatever check. Contracts of slices.IndexFunc and slices.ContainsFunc at Routes, of whatever predicate, and of conf.firstError at them, of whatever check. Contracts of slices.IndexFunc and slices.ContainsFunc at Ranges, of whatever predicate, and of conf.firstError at them, of whatever check. Contracts of slices.IndexFunc and slices.ContainsFunc at Sources, of whatever predicate, and of conf.firstError at them, of whatever check. Contracts of slices.IndexFunc and slices.ContainsFunc at Members, of whatever predicate, and of conf.firstError at them, of whatever check. Contracts of slices.IndexFunc and slices.ContainsFunc at addresses, of whatever predicate. -/
import Derived.Test.YtdljpokhcfhhfaaGreatDoorCf
import Derived.Test.YtdljpokhcfhhfaaGreatDoorProg
import Derived.Shelf.Abstract
import Derived.BigQuiet
import Derived.Deep.QuietTactic
import Derived.Deep.RegionHeld3
import Derived.Lib.Hide
namespace Go.Proofs.YtdljpokhcfhhfaaGreatDoor
open Go.RowKit Go.Lib Lx
def IRouter (w : World) (A : Option Addr) (n : Nat) (xs : List (List UInt8 × Int)) : Prop := IR CRouter 2 w A n xs
theorem IRouter.cells {w : World} {A : Option Addr} {n : Nat} {xs : List (List UInt8 × Int)} {i : Nat} (h : IRouter w A n xs) (hi : i < n) : ∃ bq oq x, A = some ⟨bq, oq, none⟩ ∧ bq < w.heap.size ∧ xs[i]? = some x ∧ match x with | ⟨s1, r1⟩ => w.cell? ⟨bq, oq + i * 2, none⟩ = some (.string (str s1)) ∧ w.cell? ⟨bq, oq + i * 2 + 1, none⟩ = some (.int .i64 r1) := by
  obtain ⟨b, o, x, hA, hb, hx, hc⟩ := IR.at_ h hi
  refine ⟨b, o, x, hA, hb, hx, ?_⟩
  obtain ⟨s1, r1⟩ := x
  exact ⟨hc 0 _ rfl, hc 1 _ rfl⟩
set_option maxHeartbeats 1000000 in
theorem idxRouter (g : Nat) (lb : Array Value) (eg : ∀ args w, (callFunc g args).run Tryz.prog w = .ok (.enter g args) w) (p : List UInt8 × Int → Bool) (A : Option Addr) (n c : Nat) (xs : List (List UInt8 × Int)) (w : World) (hr : IRouter w A n xs) (hn : n ≤ 1000000)
    (hp : ∀ (W : World) (i : Nat) (x : List UInt8 × Int), xs[i]? = some x → Below w.heap.size w W → Calls Tryz.prog g (#[VRouter x] ++ lb) W fun e w' => e = .returned (.bool (p x)) ∧ Below W.heap.size W w') :
    Calls Tryz.prog 214 #[.slice A n c, .func (.func g) #[] lb] w fun e w' => e = .returned (.int .i64 (idxI p xs)) ∧ Below w.heap.size w w' := by
  have HP := Lib.hid hp
  have HR := Lib.hid hr
  have hB0 := Lib.hid (Below.refl w.heap.size w)
  clear hp hr
  go_enter Tryz.func214, Tryz.ntmps214
  go_wp2
  go_loopw [8] (fun i wr => ∃ k : Nat, k ≤ n ∧ i = .int .i64 k ∧ Hid (∀ (j : Nat) x, j < k → xs[j]? = some x → p x = false) ∧ Hid (Below w.heap.size w wr)) (fun i _ => n - (intOf i).toNat)
  case atStart => exact ⟨0, Nat.zero_le _, rfl, fun j x hj => absurd hj (Nat.not_lt_zero _), hB0⟩
  case round =>
    obtain ⟨k, hk, rfl, hno, hbw⟩ := hrel
    rcases Nat.lt_or_ge k n with hlt | hge
    · obtain ⟨bq, oq, x, rfl, hb, hx, hc⟩ := IRouter.cells (IR.next HR.out hbw.out) hlt
      have hcall := Lib.hid (HP.out wr k x hx hbw.out)
      have hi0 : (k : Int) < n := by omega
      have HX := Lib.hid hx
      clear hx
      obtain ⟨s1, r1⟩ := x
      obtain ⟨h0, h1⟩ := hc
      cases hq : p ⟨s1, r1⟩ with
      | true =>
        have HQ := Lib.hid hq
        rw [hq] at hcall
        clear hq
        go_wp2_with (go_at_fn g; refine hcall.out.mono ?_; rintro e w1 ⟨rfl, hb1⟩; have HB1 := Lib.hid (below_next hbw.out hb1); clear hb1)
        go_ret
        refine ⟨ret_int ?_, HB1.out⟩
        rw [idxI_hit xs k _ HX.out HQ.out hno.out]
      | false =>
        have HQ := Lib.hid hq
        rw [hq] at hcall
        clear hq
        go_wp2_with (go_at_fn g; refine hcall.out.mono ?_; rintro e w1 ⟨rfl, hb1⟩; have HB1 := Lib.hid (below_next hbw.out hb1); clear hb1)
        go_roundw
        case rel => exact ⟨k + 1, by omega, by go_num, (show Hid _ from fun j y hj hy => by
            by_cases e : j = k
            · subst e; rw [HX.out] at hy; injection hy with hy; rw [← hy]; exact HQ.out
            · exact hno.out j y (by omega) hy), HB1⟩
        case measure => simp [intOf]; omega
    · obtain rfl : k = n := by omega
      have HE := Lib.hid (idxI_none xs (p := p) fun j x hx => hno.out j x (by have := (List.getElem?_eq_some_iff.1 hx).1; rw [HR.out.len] at this; exact this) hx)
      clear hno
      go_wp2
      go_ret
      refine ⟨ret_int ?_, hbw.out⟩
      rw [HE.out]
theorem hasRouter (g : Nat) (lb : Array Value) (eg : ∀ args w, (callFunc g args).run Tryz.prog w = .ok (.enter g args) w) (p : List UInt8 × Int → Bool) (A : Option Addr) (n c : Nat) (xs : List (List UInt8 × Int)) (w : World) (hr : IRouter w A n xs) (hn : n ≤ 1000000)
    (hp : ∀ (W : World) (i : Nat) (x : List UInt8 × Int), xs[i]? = some x → Below w.heap.size w W → Calls Tryz.prog g (#[VRouter x] ++ lb) W fun e w' => e = .returned (.bool (p x)) ∧ Below W.heap.size W w') :
    Calls Tryz.prog 151 #[.slice A n c, .func (.func g) #[] lb] w fun e w' => e = .returned (.bool (xs.any p)) ∧ Below w.heap.size w w' := by
  have H := Lib.hid (idxRouter g lb eg p A n c xs w hr hn hp)
  have HA := Lib.hid (idxI_any (p := p) xs)
  clear hp hr
  generalize idxI p xs = v at *
  generalize xs.any p = r at *
  go_enter Tryz.func151, Tryz.ntmps151
  go_wp2_with (go_at_call 214; refine H.out.mono ?_; rintro e w1 ⟨rfl, hb1⟩)
  go_ret
  exact ⟨ret_bool HA.out, hb1⟩
set_option maxHeartbeats 1000000 in
theorem feRouter (g : Nat) (lb : Array Value) (eg : ∀ args w, (callFunc g args).run Tryz.prog w = .ok (.enter g args) w) (ads : List Addr) (C : Nat → Int) (most : Nat) (hC : ∀ i, IsC (C i)) (A : Option Addr) (n c : Nat) (xs : List (List UInt8 × Int)) (w : World) (hr : IRouter w A n xs) (hn : n ≤ 1000000) (hnc : n ≤ c) (_hmost : most ≤ 1000) (hS : EnvC ads w)
    (hp : ∀ (W : World) (i : Nat) (x : List UInt8 × Int), i < most → xs[i]? = some x → Below w.heap.size w W → IRouter W A i (xs.take i) → Calls Tryz.prog g (#[VRouter x, .slice A i c] ++ lb) W fun e w' => e = .returned (erS ads (C i)) ∧ Below W.heap.size W w') :
    Calls Tryz.prog 148 #[.slice A n c, .int .i64 most, .func (.func g) #[] lb] w fun e w' => e = .returned (erS ads (feC C most 0 n)) ∧ Below w.heap.size w w' := by
  have HP := Lib.hid hp
  have HR := Lib.hid hr
  have hB0 := Lib.hid (Below.refl w.heap.size w)
  have HS := Lib.hid hS
  have HC := Lib.hid hC
  clear hp hr hS hC
  go_enter Tryz.func148, Tryz.ntmps148
  go_wp2
  go_loopw [12] (fun i wr => ∃ k : Nat, k ≤ n ∧ i = .int .i64 k ∧ Hid (feC C most 0 n = feC C most k (n - k)) ∧ Hid (Below w.heap.size w wr)) (fun i _ => n - (intOf i).toNat)
  case atStart => exact ⟨0, Nat.zero_le _, rfl, rfl, hB0⟩
  case round =>
    obtain ⟨k, hk, rfl, hfe, hbw⟩ := hrel
    rcases Nat.lt_or_ge k n with hlt | hge
    · obtain ⟨bq, oq, x, rfl, hb, hx, hc⟩ := IRouter.cells (IR.next HR.out hbw.out) hlt
      have hi0 : (k : Int) < n := by omega
      have HX := Lib.hid hx
      clear hx
      obtain ⟨s1, r1⟩ := x
      obtain ⟨h0, h1⟩ := hc
      rcases Nat.lt_or_ge k most with hm | hm
      · have hm0 : ¬ ((most : Int) ≤ (k : Int)) := by omega
        have hkc : (k : Int) ≤ (c : Int) := by omega
        have HN := Lib.hid (feC_next (C := C) (i := k) (m := n - k) hm (by omega))
        have HH := Lib.hid (feC_here (C := C) (i := k) (m := n - k) hm (by omega))
        have hcall := Lib.hid (fun W (hb : Below wr.heap.size wr W) => HP.out W k _ hm HX.out (below_next hbw.out hb) (IR.take (IR.next HR.out (below_next hbw.out hb)) (Nat.le_of_lt hlt)))
        have hEC := HC.out k
        generalize C k = q at *
        rcases hEC with rfl | ⟨j, hj, rfl⟩
        · have HN2 := Lib.hid (HN.out rfl)
          have e0 : erS ads 0 = .nilIface := rfl
          rw [e0] at hcall
          clear HN HH e0
          go_wp2_with fail
          have hBW : Below wr.heap.size wr (wr.alloc (.cells #[.string (str s1), .int .i64 r1] 77)) := (Below.refl _ _).alloc (Nat.le_refl _) _
          have hcl : ∀ j v, (#[.string (str s1), .int .i64 r1] : Array Value)[j]? = some v → (wr.alloc (.cells #[.string (str s1), .int .i64 r1] 77)).cell? ⟨wr.heap.size, j, none⟩ = some v := fun j v hv => by rw [(Blk.new wr _ _).cell j]; exact hv
          generalize wr.alloc (.cells #[.string (str s1), .int .i64 r1] 77) = W0 at *
          have k0 : ∀ W, Below W0.heap.size W0 W → W.cell? ⟨wr.heap.size, 0, none⟩ = some (.string (str s1)) := fun W hb => (hb.cell (World.block_lt_of_cell? _ _ (hcl 0 _ rfl))).trans (hcl 0 _ rfl)
          have k1 : ∀ W, Below W0.heap.size W0 W → W.cell? ⟨wr.heap.size, 1, none⟩ = some (.int .i64 r1) := fun W hb => (hb.cell (World.block_lt_of_cell? _ _ (hcl 1 _ rfl))).trans (hcl 1 _ rfl)
          have hcall2 := Lib.hid (fun W (hb : Below W0.heap.size W0 W) => hcall.out W (hBW.trans (hb.mono hBW.size)))
          clear hcl hcall h0 h1
          have hS0 : Below W0.heap.size W0 W0.drew := (Below.refl _ _).drew
          go_region_held3 (fun w' => Below W0.heap.size W0 w')
            (first | with_reducible assumption | exact (Below.refl _ _).drew)
            (first | (go_at_fn g; refine (hcall2.out _ (by with_reducible assumption)).mono ?_; rintro e w1 ⟨rfl, hb1⟩; have hb2 := below_next (by with_reducible assumption) hb1))
          have HBx := Lib.hid (below_next hbw.out (hBW.trans (hb2.mono hBW.size)))
          clear hb1 hb2
          go_wp2
          go_roundw
          case rel => exact ⟨k + 1, by omega, by go_num, by rw [hfe.out, HN2.out, Nat.sub_sub]; rfl, HBx⟩
          case measure => simp [intOf]; omega
        · obtain ⟨a, _, ha⟩ := erS_at HS.out hj
          have hne : ¬ (101 + (j : Int) = 0) := by omega
          have HH2 := Lib.hid (HH.out hne)
          rw [ha] at hcall
          have HA := Lib.hid ha
          unfold ev at hcall
          clear HN HH hne ha
          go_wp2_with fail
          have hBW : Below wr.heap.size wr (wr.alloc (.cells #[.string (str s1), .int .i64 r1] 77)) := (Below.refl _ _).alloc (Nat.le_refl _) _
          have hcl : ∀ j v, (#[.string (str s1), .int .i64 r1] : Array Value)[j]? = some v → (wr.alloc (.cells #[.string (str s1), .int .i64 r1] 77)).cell? ⟨wr.heap.size, j, none⟩ = some v := fun j v hv => by rw [(Blk.new wr _ _).cell j]; exact hv
          generalize wr.alloc (.cells #[.string (str s1), .int .i64 r1] 77) = W0 at *
          have k0 : ∀ W, Below W0.heap.size W0 W → W.cell? ⟨wr.heap.size, 0, none⟩ = some (.string (str s1)) := fun W hb => (hb.cell (World.block_lt_of_cell? _ _ (hcl 0 _ rfl))).trans (hcl 0 _ rfl)
          have k1 : ∀ W, Below W0.heap.size W0 W → W.cell? ⟨wr.heap.size, 1, none⟩ = some (.int .i64 r1) := fun W hb => (hb.cell (World.block_lt_of_cell? _ _ (hcl 1 _ rfl))).trans (hcl 1 _ rfl)
          have hcall2 := Lib.hid (fun W (hb : Below W0.heap.size W0 W) => hcall.out W (hBW.trans (hb.mono hBW.size)))
          clear hcl hcall h0 h1
          have hS0 : Below W0.heap.size W0 W0.drew := (Below.refl _ _).drew
          go_region_held3 (fun w' => Below W0.heap.size W0 w')
            (first | with_reducible assumption | exact (Below.refl _ _).drew)
            (first | (go_at_fn g; refine (hcall2.out _ (by with_reducible assumption)).mono ?_; rintro e w1 ⟨rfl, hb1⟩; have hb2 := below_next (by with_reducible assumption) hb1))
          have HBx := Lib.hid (below_next hbw.out (hBW.trans (hb2.mono hBW.size)))
          clear hb1 hb2
          go_wp2
          go_ret
          exact ⟨by rw [hfe.out, HH2.out, HA.out]; rfl, HBx.out⟩
      · have hm0 : ((most : Int) ≤ (k : Int)) := by omega
        have HM := Lib.hid (feC_many (C := C) (i := k) (m := n - k) hm (by omega))
        have hgl : wr.cell? ⟨5, 0, none⟩ = some (erS ads (101 + ((3 : Nat) : Int))) := erS_cell (HS.out.below hbw.out) (by decide) rfl
        have hgl2 := World.block_lt_of_cell? _ _ hgl
        have HBx := Lib.hid (below_next hbw.out ((Below.refl _ _).alloc (Nat.le_refl _) (.cells #[.string (str s1), .int .i64 r1] 77)))
        generalize hE : erS ads (101 + ((3 : Nat) : Int)) = E at *
        have HE := Lib.hid hE
        clear hE
        go_wp2
        go_ret
        exact ⟨by rw [hfe.out, HM.out, ← HE.out]; rfl, HBx.out⟩
    · obtain rfl : k = n := by omega
      have HD := Lib.hid (feC_done C most k)
      go_wp2
      go_ret
      exact ⟨by rw [hfe.out, Nat.sub_self, HD.out]; rfl, hbw.out⟩
end Go.Proofs.YtdljpokhcfhhfaaGreatDoor
namespace Go.Proofs.YtdljpokhcfhhfaaGreatDoor
open Go.RowKit Go.Lib Lx
def ILink (w : World) (A : Option Addr) (n : Nat) (xs : List (List UInt8 × Int × Int)) : Prop := IR CLink 3 w A n xs
theorem ILink.cells {w : World} {A : Option Addr} {n : Nat} {xs : List (List UInt8 × Int × Int)} {i : Nat} (h : ILink w A n xs) (hi : i < n) : ∃ bq oq x, A = some ⟨bq, oq, none⟩ ∧ bq < w.heap.size ∧ xs[i]? = some x ∧ match x with | ⟨s1, a1, b1⟩ => w.cell? ⟨bq, oq + i * 3, none⟩ = some (.string (str s1)) ∧ w.cell? ⟨bq, oq + i * 3 + 1, none⟩ = some (.int .u32 a1) ∧ w.cell? ⟨bq, oq + i * 3 + 2, none⟩ = some (.int .i64 b1) := by
  obtain ⟨b, o, x, hA, hb, hx, hc⟩ := IR.at_ h hi
  refine ⟨b, o, x, hA, hb, hx, ?_⟩
  obtain ⟨s1, a1, b1⟩ := x
  exact ⟨hc 0 _ rfl, hc 1 _ rfl, hc 2 _ rfl⟩
set_option maxHeartbeats 1000000 in
theorem idxLink (g : Nat) (lb : Array Value) (eg : ∀ args w, (callFunc g args).run Tryz.prog w = .ok (.enter g args) w) (p : List UInt8 × Int × Int → Bool) (A : Option Addr) (n c : Nat) (xs : List (List UInt8 × Int × Int)) (w : World) (hr : ILink w A n xs) (hn : n ≤ 1000000)
    (hp : ∀ (W : World) (i : Nat) (x : List UInt8 × Int × Int), xs[i]? = some x → Below w.heap.size w W → Calls Tryz.prog g (#[VLink x] ++ lb) W fun e w' => e = .returned (.bool (p x)) ∧ Below W.heap.size W w') :
    Calls Tryz.prog 215 #[.slice A n c, .func (.func g) #[] lb] w fun e w' => e = .returned (.int .i64 (idxI p xs)) ∧ Below w.heap.size w w' := by
  have HP := Lib.hid hp
  have HR := Lib.hid hr
  have hB0 := Lib.hid (Below.refl w.heap.size w)
  clear hp hr
  go_enter Tryz.func215, Tryz.ntmps215
  go_wp2
  go_loopw [8] (fun i wr => ∃ k : Nat, k ≤ n ∧ i = .int .i64 k ∧ Hid (∀ (j : Nat) x, j < k → xs[j]? = some x → p x = false) ∧ Hid (Below w.heap.size w wr)) (fun i _ => n - (intOf i).toNat)
  case atStart => exact ⟨0, Nat.zero_le _, rfl, fun j x hj => absurd hj (Nat.not_lt_zero _), hB0⟩
  case round =>
    obtain ⟨k, hk, rfl, hno, hbw⟩ := hrel
    rcases Nat.lt_or_ge k n with hlt | hge
    · obtain ⟨bq, oq, x, rfl, hb, hx, hc⟩ := ILink.cells (IR.next HR.out hbw.out) hlt
      have hcall := Lib.hid (HP.out wr k x hx hbw.out)
      have hi0 : (k : Int) < n := by omega
      have HX := Lib.hid hx
      clear hx
      obtain ⟨s1, a1, b1⟩ := x
      obtain ⟨h0, h1, h2⟩ := hc
      cases hq : p ⟨s1, a1, b1⟩ with
      | true =>
        have HQ := Lib.hid hq
        rw [hq] at hcall
        clear hq
        go_wp2_with (go_at_fn g; refine hcall.out.mono ?_; rintro e w1 ⟨rfl, hb1⟩; have HB1 := Lib.hid (below_next hbw.out hb1); clear hb1)
        go_ret
        refine ⟨ret_int ?_, HB1.out⟩
        rw [idxI_hit xs k _ HX.out HQ.out hno.out]
      | false =>
        have HQ := Lib.hid hq
        rw [hq] at hcall
        clear hq
        go_wp2_with (go_at_fn g; refine hcall.out.mono ?_; rintro e w1 ⟨rfl, hb1⟩; have HB1 := Lib.hid (below_next hbw.out hb1); clear hb1)
        go_roundw
        case rel => exact ⟨k + 1, by omega, by go_num, (show Hid _ from fun j y hj hy => by
            by_cases e : j = k
            · subst e; rw [HX.out] at hy; injection hy with hy; rw [← hy]; exact HQ.out
            · exact hno.out j y (by omega) hy), HB1⟩
        case measure => simp [intOf]; omega
    · obtain rfl : k = n := by omega
      have HE := Lib.hid (idxI_none xs (p := p) fun j x hx => hno.out j x (by have := (List.getElem?_eq_some_iff.1 hx).1; rw [HR.out.len] at this; exact this) hx)
      clear hno
      go_wp2
      go_ret
      refine ⟨ret_int ?_, hbw.out⟩
      rw [HE.out]
theorem hasLink (g : Nat) (lb : Array Value) (eg : ∀ args w, (callFunc g args).run Tryz.prog w = .ok (.enter g args) w) (p : List UInt8 × Int × Int → Bool) (A : Option Addr) (n c : Nat) (xs : List (List UInt8 × Int × Int)) (w : World) (hr : ILink w A n xs) (hn : n ≤ 1000000)
    (hp : ∀ (W : World) (i : Nat) (x : List UInt8 × Int × Int), xs[i]? = some x → Below w.heap.size w W → Calls Tryz.prog g (#[VLink x] ++ lb) W fun e w' => e = .returned (.bool (p x)) ∧ Below W.heap.size W w') :
    Calls Tryz.prog 156 #[.slice A n c, .func (.func g) #[] lb] w fun e w' => e = .returned (.bool (xs.any p)) ∧ Below w.heap.size w w' := by
  have H := Lib.hid (idxLink g lb eg p A n c xs w hr hn hp)
  have HA := Lib.hid (idxI_any (p := p) xs)
  clear hp hr
  generalize idxI p xs = v at *
  generalize xs.any p = r at *
  go_enter Tryz.func156, Tryz.ntmps156
  go_wp2_with (go_at_call 215; refine H.out.mono ?_; rintro e w1 ⟨rfl, hb1⟩)
  go_ret
  exact ⟨ret_bool HA.out, hb1⟩
set_option maxHeartbeats 1000000 in
theorem feLink (g : Nat) (lb : Array Value) (eg : ∀ args w, (callFunc g args).run Tryz.prog w = .ok (.enter g args) w) (ads : List Addr) (C : Nat → Int) (most : Nat) (hC : ∀ i, IsC (C i)) (A : Option Addr) (n c : Nat) (xs : List (List UInt8 × Int × Int)) (w : World) (hr : ILink w A n xs) (hn : n ≤ 1000000) (hnc : n ≤ c) (_hmost : most ≤ 1000) (hS : EnvC ads w)
    (hp : ∀ (W : World) (i : Nat) (x : List UInt8 × Int × Int), i < most → xs[i]? = some x → Below w.heap.size w W → ILink W A i (xs.take i) → Calls Tryz.prog g (#[VLink x, .slice A i c] ++ lb) W fun e w' => e = .returned (erS ads (C i)) ∧ Below W.heap.size W w') :
    Calls Tryz.prog 154 #[.slice A n c, .int .i64 most, .func (.func g) #[] lb] w fun e w' => e = .returned (erS ads (feC C most 0 n)) ∧ Below w.heap.size w w' := by
  have HP := Lib.hid hp
  have HR := Lib.hid hr
  have hB0 := Lib.hid (Below.refl w.heap.size w)
  have HS := Lib.hid hS
  have HC := Lib.hid hC
  clear hp hr hS hC
  go_enter Tryz.func154, Tryz.ntmps154
  go_wp2
  go_loopw [12] (fun i wr => ∃ k : Nat, k ≤ n ∧ i = .int .i64 k ∧ Hid (feC C most 0 n = feC C most k (n - k)) ∧ Hid (Below w.heap.size w wr)) (fun i _ => n - (intOf i).toNat)
  case atStart => exact ⟨0, Nat.zero_le _, rfl, rfl, hB0⟩
  case round =>
    obtain ⟨k, hk, rfl, hfe, hbw⟩ := hrel
    rcases Nat.lt_or_ge k n with hlt | hge
    · obtain ⟨bq, oq, x, rfl, hb, hx, hc⟩ := ILink.cells (IR.next HR.out hbw.out) hlt
      have hi0 : (k : Int) < n := by omega
      have HX := Lib.hid hx
      clear hx
      obtain ⟨s1, a1, b1⟩ := x
      obtain ⟨h0, h1, h2⟩ := hc
      rcases Nat.lt_or_ge k most with hm | hm
      · have hm0 : ¬ ((most : Int) ≤ (k : Int)) := by omega
        have hkc : (k : Int) ≤ (c : Int) := by omega
        have HN := Lib.hid (feC_next (C := C) (i := k) (m := n - k) hm (by omega))
        have HH := Lib.hid (feC_here (C := C) (i := k) (m := n - k) hm (by omega))
        have hcall := Lib.hid (fun W (hb : Below wr.heap.size wr W) => HP.out W k _ hm HX.out (below_next hbw.out hb) (IR.take (IR.next HR.out (below_next hbw.out hb)) (Nat.le_of_lt hlt)))
        have hEC := HC.out k
        generalize C k = q at *
        rcases hEC with rfl | ⟨j, hj, rfl⟩
        · have HN2 := Lib.hid (HN.out rfl)
          have e0 : erS ads 0 = .nilIface := rfl
          rw [e0] at hcall
          clear HN HH e0
          go_wp2_with fail
          have hBW : Below wr.heap.size wr (wr.alloc (.cells #[.string (str s1), .int .u32 a1, .int .i64 b1] 125)) := (Below.refl _ _).alloc (Nat.le_refl _) _
          have hcl : ∀ j v, (#[.string (str s1), .int .u32 a1, .int .i64 b1] : Array Value)[j]? = some v → (wr.alloc (.cells #[.string (str s1), .int .u32 a1, .int .i64 b1] 125)).cell? ⟨wr.heap.size, j, none⟩ = some v := fun j v hv => by rw [(Blk.new wr _ _).cell j]; exact hv
          generalize wr.alloc (.cells #[.string (str s1), .int .u32 a1, .int .i64 b1] 125) = W0 at *
          have k0 : ∀ W, Below W0.heap.size W0 W → W.cell? ⟨wr.heap.size, 0, none⟩ = some (.string (str s1)) := fun W hb => (hb.cell (World.block_lt_of_cell? _ _ (hcl 0 _ rfl))).trans (hcl 0 _ rfl)
          have k1 : ∀ W, Below W0.heap.size W0 W → W.cell? ⟨wr.heap.size, 1, none⟩ = some (.int .u32 a1) := fun W hb => (hb.cell (World.block_lt_of_cell? _ _ (hcl 1 _ rfl))).trans (hcl 1 _ rfl)
          have k2 : ∀ W, Below W0.heap.size W0 W → W.cell? ⟨wr.heap.size, 2, none⟩ = some (.int .i64 b1) := fun W hb => (hb.cell (World.block_lt_of_cell? _ _ (hcl 2 _ rfl))).trans (hcl 2 _ rfl)
          have hcall2 := Lib.hid (fun W (hb : Below W0.heap.size W0 W) => hcall.out W (hBW.trans (hb.mono hBW.size)))
          clear hcl hcall h0 h1 h2
          have hS0 : Below W0.heap.size W0 W0.drew := (Below.refl _ _).drew
          go_region_held3 (fun w' => Below W0.heap.size W0 w')
            (first | with_reducible assumption | exact (Below.refl _ _).drew)
            (first | (go_at_fn g; refine (hcall2.out _ (by with_reducible assumption)).mono ?_; rintro e w1 ⟨rfl, hb1⟩; have hb2 := below_next (by with_reducible assumption) hb1))
          have HBx := Lib.hid (below_next hbw.out (hBW.trans (hb2.mono hBW.size)))
          clear hb1 hb2
          go_wp2
          go_roundw
          case rel => exact ⟨k + 1, by omega, by go_num, by rw [hfe.out, HN2.out, Nat.sub_sub]; rfl, HBx⟩
          case measure => simp [intOf]; omega
        · obtain ⟨a, _, ha⟩ := erS_at HS.out hj
          have hne : ¬ (101 + (j : Int) = 0) := by omega
          have HH2 := Lib.hid (HH.out hne)
          rw [ha] at hcall
          have HA := Lib.hid ha
          unfold ev at hcall
          clear HN HH hne ha
          go_wp2_with fail
          have hBW : Below wr.heap.size wr (wr.alloc (.cells #[.string (str s1), .int .u32 a1, .int .i64 b1] 125)) := (Below.refl _ _).alloc (Nat.le_refl _) _
          have hcl : ∀ j v, (#[.string (str s1), .int .u32 a1, .int .i64 b1] : Array Value)[j]? = some v → (wr.alloc (.cells #[.string (str s1), .int .u32 a1, .int .i64 b1] 125)).cell? ⟨wr.heap.size, j, none⟩ = some v := fun j v hv => by rw [(Blk.new wr _ _).cell j]; exact hv
          generalize wr.alloc (.cells #[.string (str s1), .int .u32 a1, .int .i64 b1] 125) = W0 at *
          have k0 : ∀ W, Below W0.heap.size W0 W → W.cell? ⟨wr.heap.size, 0, none⟩ = some (.string (str s1)) := fun W hb => (hb.cell (World.block_lt_of_cell? _ _ (hcl 0 _ rfl))).trans (hcl 0 _ rfl)
          have k1 : ∀ W, Below W0.heap.size W0 W → W.cell? ⟨wr.heap.size, 1, none⟩ = some (.int .u32 a1) := fun W hb => (hb.cell (World.block_lt_of_cell? _ _ (hcl 1 _ rfl))).trans (hcl 1 _ rfl)
          have k2 : ∀ W, Below W0.heap.size W0 W → W.cell? ⟨wr.heap.size, 2, none⟩ = some (.int .i64 b1) := fun W hb => (hb.cell (World.block_lt_of_cell? _ _ (hcl 2 _ rfl))).trans (hcl 2 _ rfl)
          have hcall2 := Lib.hid (fun W (hb : Below W0.heap.size W0 W) => hcall.out W (hBW.trans (hb.mono hBW.size)))
          clear hcl hcall h0 h1 h2
          have hS0 : Below W0.heap.size W0 W0.drew := (Below.refl _ _).drew
          go_region_held3 (fun w' => Below W0.heap.size W0 w')
            (first | with_reducible assumption | exact (Below.refl _ _).drew)
            (first | (go_at_fn g; refine (hcall2.out _ (by with_reducible assumption)).mono ?_; rintro e w1 ⟨rfl, hb1⟩; have hb2 := below_next (by with_reducible assumption) hb1))
          have HBx := Lib.hid (below_next hbw.out (hBW.trans (hb2.mono hBW.size)))
          clear hb1 hb2
          go_wp2
          go_ret
          exact ⟨by rw [hfe.out, HH2.out, HA.out]; rfl, HBx.out⟩
      · have hm0 : ((most : Int) ≤ (k : Int)) := by omega
        have HM := Lib.hid (feC_many (C := C) (i := k) (m := n - k) hm (by omega))
        have hgl : wr.cell? ⟨5, 0, none⟩ = some (erS ads (101 + ((3 : Nat) : Int))) := erS_cell (HS.out.below hbw.out) (by decide) rfl
        have hgl2 := World.block_lt_of_cell? _ _ hgl
        have HBx := Lib.hid (below_next hbw.out ((Below.refl _ _).alloc (Nat.le_refl _) (.cells #[.string (str s1), .int .u32 a1, .int .i64 b1] 125)))
        generalize hE : erS ads (101 + ((3 : Nat) : Int)) = E at *
        have HE := Lib.hid hE
        clear hE
        go_wp2
        go_ret
        exact ⟨by rw [hfe.out, HM.out, ← HE.out]; rfl, HBx.out⟩
    · obtain rfl : k = n := by omega
      have HD := Lib.hid (feC_done C most k)
      go_wp2
      go_ret
      exact ⟨by rw [hfe.out, Nat.sub_self, HD.out]; rfl, hbw.out⟩
end Go.Proofs.YtdljpokhcfhhfaaGreatDoor
namespace Go.Proofs.YtdljpokhcfhhfaaGreatDoor
open Go.RowKit Go.Lib Lx
def IPort (w : World) (A : Option Addr) (n : Nat) (xs : List (Int × Int × Int)) : Prop := IR CPort 3 w A n xs
theorem IPort.cells {w : World} {A : Option Addr} {n : Nat} {xs : List (Int × Int × Int)} {i : Nat} (h : IPort w A n xs) (hi : i < n) : ∃ bq oq x, A = some ⟨bq, oq, none⟩ ∧ bq < w.heap.size ∧ xs[i]? = some x ∧ match x with | ⟨r1, l1, a1⟩ => w.cell? ⟨bq, oq + i * 3, none⟩ = some (.int .i64 r1) ∧ w.cell? ⟨bq, oq + i * 3 + 1, none⟩ = some (.int .i64 l1) ∧ w.cell? ⟨bq, oq + i * 3 + 2, none⟩ = some (.int .u32 a1) := by
  obtain ⟨b, o, x, hA, hb, hx, hc⟩ := IR.at_ h hi
  refine ⟨b, o, x, hA, hb, hx, ?_⟩
  obtain ⟨r1, l1, a1⟩ := x
  exact ⟨hc 0 _ rfl, hc 1 _ rfl, hc 2 _ rfl⟩
set_option maxHeartbeats 1000000 in
theorem idxPort (g : Nat) (lb : Array Value) (eg : ∀ args w, (callFunc g args).run Tryz.prog w = .ok (.enter g args) w) (p : Int × Int × Int → Bool) (A : Option Addr) (n c : Nat) (xs : List (Int × Int × Int)) (w : World) (hr : IPort w A n xs) (hn : n ≤ 1000000)
    (hp : ∀ (W : World) (i : Nat) (x : Int × Int × Int), xs[i]? = some x → Below w.heap.size w W → Calls Tryz.prog g (#[VPort x] ++ lb) W fun e w' => e = .returned (.bool (p x)) ∧ Below W.heap.size W w') :
    Calls Tryz.prog 218 #[.slice A n c, .func (.func g) #[] lb] w fun e w' => e = .returned (.int .i64 (idxI p xs)) ∧ Below w.heap.size w w' := by
  have HP := Lib.hid hp
  have HR := Lib.hid hr
  have hB0 := Lib.hid (Below.refl w.heap.size w)
  clear hp hr
  go_enter Tryz.func218, Tryz.ntmps218
  go_wp2
  go_loopw [8] (fun i wr => ∃ k : Nat, k ≤ n ∧ i = .int .i64 k ∧ Hid (∀ (j : Nat) x, j < k → xs[j]? = some x → p x = false) ∧ Hid (Below w.heap.size w wr)) (fun i _ => n - (intOf i).toNat)
  case atStart => exact ⟨0, Nat.zero_le _, rfl, fun j x hj => absurd hj (Nat.not_lt_zero _), hB0⟩
  case round =>
    obtain ⟨k, hk, rfl, hno, hbw⟩ := hrel
    rcases Nat.lt_or_ge k n with hlt | hge
    · obtain ⟨bq, oq, x, rfl, hb, hx, hc⟩ := IPort.cells (IR.next HR.out hbw.out) hlt
      have hcall := Lib.hid (HP.out wr k x hx hbw.out)
      have hi0 : (k : Int) < n := by omega
      have HX := Lib.hid hx
      clear hx
      obtain ⟨r1, l1, a1⟩ := x
      obtain ⟨h0, h1, h2⟩ := hc
      cases hq : p ⟨r1, l1, a1⟩ with
      | true =>
        have HQ := Lib.hid hq
        rw [hq] at hcall
        clear hq
        go_wp2_with (go_at_fn g; refine hcall.out.mono ?_; rintro e w1 ⟨rfl, hb1⟩; have HB1 := Lib.hid (below_next hbw.out hb1); clear hb1)
        go_ret
        refine ⟨ret_int ?_, HB1.out⟩
        rw [idxI_hit xs k _ HX.out HQ.out hno.out]
      | false =>
        have HQ := Lib.hid hq
        rw [hq] at hcall
        clear hq
        go_wp2_with (go_at_fn g; refine hcall.out.mono ?_; rintro e w1 ⟨rfl, hb1⟩; have HB1 := Lib.hid (below_next hbw.out hb1); clear hb1)
        go_roundw
        case rel => exact ⟨k + 1, by omega, by go_num, (show Hid _ from fun j y hj hy => by
            by_cases e : j = k
            · subst e; rw [HX.out] at hy; injection hy with hy; rw [← hy]; exact HQ.out
            · exact hno.out j y (by omega) hy), HB1⟩
        case measure => simp [intOf]; omega
    · obtain rfl : k = n := by omega
      have HE := Lib.hid (idxI_none xs (p := p) fun j x hx => hno.out j x (by have := (List.getElem?_eq_some_iff.1 hx).1; rw [HR.out.len] at this; exact this) hx)
      clear hno
      go_wp2
      go_ret
      refine ⟨ret_int ?_, hbw.out⟩
      rw [HE.out]
theorem hasPort (g : Nat) (lb : Array Value) (eg : ∀ args w, (callFunc g args).run Tryz.prog w = .ok (.enter g args) w) (p : Int × Int × Int → Bool) (A : Option Addr) (n c : Nat) (xs : List (Int × Int × Int)) (w : World) (hr : IPort w A n xs) (hn : n ≤ 1000000)
    (hp : ∀ (W : World) (i : Nat) (x : Int × Int × Int), xs[i]? = some x → Below w.heap.size w W → Calls Tryz.prog g (#[VPort x] ++ lb) W fun e w' => e = .returned (.bool (p x)) ∧ Below W.heap.size W w') :
    Calls Tryz.prog 166 #[.slice A n c, .func (.func g) #[] lb] w fun e w' => e = .returned (.bool (xs.any p)) ∧ Below w.heap.size w w' := by
  have H := Lib.hid (idxPort g lb eg p A n c xs w hr hn hp)
  have HA := Lib.hid (idxI_any (p := p) xs)
  clear hp hr
  generalize idxI p xs = v at *
  generalize xs.any p = r at *
  go_enter Tryz.func166, Tryz.ntmps166
  go_wp2_with (go_at_call 218; refine H.out.mono ?_; rintro e w1 ⟨rfl, hb1⟩)
  go_ret
  exact ⟨ret_bool HA.out, hb1⟩
set_option maxHeartbeats 1000000 in
theorem fePort (g : Nat) (lb : Array Value) (eg : ∀ args w, (callFunc g args).run Tryz.prog w = .ok (.enter g args) w) (ads : List Addr) (C : Nat → Int) (most : Nat) (hC : ∀ i, IsC (C i)) (A : Option Addr) (n c : Nat) (xs : List (Int × Int × Int)) (w : World) (hr : IPort w A n xs) (hn : n ≤ 1000000) (hnc : n ≤ c) (_hmost : most ≤ 1000) (hS : EnvC ads w)
    (hp : ∀ (W : World) (i : Nat) (x : Int × Int × Int), i < most → xs[i]? = some x → Below w.heap.size w W → IPort W A i (xs.take i) → Calls Tryz.prog g (#[VPort x, .slice A i c] ++ lb) W fun e w' => e = .returned (erS ads (C i)) ∧ Below W.heap.size W w') :
    Calls Tryz.prog 161 #[.slice A n c, .int .i64 most, .func (.func g) #[] lb] w fun e w' => e = .returned (erS ads (feC C most 0 n)) ∧ Below w.heap.size w w' := by
  have HP := Lib.hid hp
  have HR := Lib.hid hr
  have hB0 := Lib.hid (Below.refl w.heap.size w)
  have HS := Lib.hid hS
  have HC := Lib.hid hC
  clear hp hr hS hC
  go_enter Tryz.func161, Tryz.ntmps161
  go_wp2
  go_loopw [12] (fun i wr => ∃ k : Nat, k ≤ n ∧ i = .int .i64 k ∧ Hid (feC C most 0 n = feC C most k (n - k)) ∧ Hid (Below w.heap.size w wr)) (fun i _ => n - (intOf i).toNat)
  case atStart => exact ⟨0, Nat.zero_le _, rfl, rfl, hB0⟩
  case round =>
    obtain ⟨k, hk, rfl, hfe, hbw⟩ := hrel
    rcases Nat.lt_or_ge k n with hlt | hge
    · obtain ⟨bq, oq, x, rfl, hb, hx, hc⟩ := IPort.cells (IR.next HR.out hbw.out) hlt
      have hi0 : (k : Int) < n := by omega
      have HX := Lib.hid hx
      clear hx
      obtain ⟨r1, l1, a1⟩ := x
      obtain ⟨h0, h1, h2⟩ := hc
      rcases Nat.lt_or_ge k most with hm | hm
      · have hm0 : ¬ ((most : Int) ≤ (k : Int)) := by omega
        have hkc : (k : Int) ≤ (c : Int) := by omega
        have HN := Lib.hid (feC_next (C := C) (i := k) (m := n - k) hm (by omega))
        have HH := Lib.hid (feC_here (C := C) (i := k) (m := n - k) hm (by omega))
        have hcall := Lib.hid (fun W (hb : Below wr.heap.size wr W) => HP.out W k _ hm HX.out (below_next hbw.out hb) (IR.take (IR.next HR.out (below_next hbw.out hb)) (Nat.le_of_lt hlt)))
        have hEC := HC.out k
        generalize C k = q at *
        rcases hEC with rfl | ⟨j, hj, rfl⟩
        · have HN2 := Lib.hid (HN.out rfl)
          have e0 : erS ads 0 = .nilIface := rfl
          rw [e0] at hcall
          clear HN HH e0
          go_wp2_with fail
          have hBW : Below wr.heap.size wr (wr.alloc (.cells #[.int .i64 r1, .int .i64 l1, .int .u32 a1] 80)) := (Below.refl _ _).alloc (Nat.le_refl _) _
          have hcl : ∀ j v, (#[.int .i64 r1, .int .i64 l1, .int .u32 a1] : Array Value)[j]? = some v → (wr.alloc (.cells #[.int .i64 r1, .int .i64 l1, .int .u32 a1] 80)).cell? ⟨wr.heap.size, j, none⟩ = some v := fun j v hv => by rw [(Blk.new wr _ _).cell j]; exact hv
          generalize wr.alloc (.cells #[.int .i64 r1, .int .i64 l1, .int .u32 a1] 80) = W0 at *
          have k0 : ∀ W, Below W0.heap.size W0 W → W.cell? ⟨wr.heap.size, 0, none⟩ = some (.int .i64 r1) := fun W hb => (hb.cell (World.block_lt_of_cell? _ _ (hcl 0 _ rfl))).trans (hcl 0 _ rfl)
          have k1 : ∀ W, Below W0.heap.size W0 W → W.cell? ⟨wr.heap.size, 1, none⟩ = some (.int .i64 l1) := fun W hb => (hb.cell (World.block_lt_of_cell? _ _ (hcl 1 _ rfl))).trans (hcl 1 _ rfl)
          have k2 : ∀ W, Below W0.heap.size W0 W → W.cell? ⟨wr.heap.size, 2, none⟩ = some (.int .u32 a1) := fun W hb => (hb.cell (World.block_lt_of_cell? _ _ (hcl 2 _ rfl))).trans (hcl 2 _ rfl)
          have hcall2 := Lib.hid (fun W (hb : Below W0.heap.size W0 W) => hcall.out W (hBW.trans (hb.mono hBW.size)))
          clear hcl hcall h0 h1 h2
          have hS0 : Below W0.heap.size W0 W0.drew := (Below.refl _ _).drew
          go_region_held3 (fun w' => Below W0.heap.size W0 w')
            (first | with_reducible assumption | exact (Below.refl _ _).drew)
            (first | (go_at_fn g; refine (hcall2.out _ (by with_reducible assumption)).mono ?_; rintro e w1 ⟨rfl, hb1⟩; have hb2 := below_next (by with_reducible assumption) hb1))
          have HBx := Lib.hid (below_next hbw.out (hBW.trans (hb2.mono hBW.size)))
          clear hb1 hb2
          go_wp2
          go_roundw
          case rel => exact ⟨k + 1, by omega, by go_num, by rw [hfe.out, HN2.out, Nat.sub_sub]; rfl, HBx⟩
          case measure => simp [intOf]; omega
        · obtain ⟨a, _, ha⟩ := erS_at HS.out hj
          have hne : ¬ (101 + (j : Int) = 0) := by omega
          have HH2 := Lib.hid (HH.out hne)
          rw [ha] at hcall
          have HA := Lib.hid ha
          unfold ev at hcall
          clear HN HH hne ha
          go_wp2_with fail
          have hBW : Below wr.heap.size wr (wr.alloc (.cells #[.int .i64 r1, .int .i64 l1, .int .u32 a1] 80)) := (Below.refl _ _).alloc (Nat.le_refl _) _
          have hcl : ∀ j v, (#[.int .i64 r1, .int .i64 l1, .int .u32 a1] : Array Value)[j]? = some v → (wr.alloc (.cells #[.int .i64 r1, .int .i64 l1, .int .u32 a1] 80)).cell? ⟨wr.heap.size, j, none⟩ = some v := fun j v hv => by rw [(Blk.new wr _ _).cell j]; exact hv
          generalize wr.alloc (.cells #[.int .i64 r1, .int .i64 l1, .int .u32 a1] 80) = W0 at *
          have k0 : ∀ W, Below W0.heap.size W0 W → W.cell? ⟨wr.heap.size, 0, none⟩ = some (.int .i64 r1) := fun W hb => (hb.cell (World.block_lt_of_cell? _ _ (hcl 0 _ rfl))).trans (hcl 0 _ rfl)
          have k1 : ∀ W, Below W0.heap.size W0 W → W.cell? ⟨wr.heap.size, 1, none⟩ = some (.int .i64 l1) := fun W hb => (hb.cell (World.block_lt_of_cell? _ _ (hcl 1 _ rfl))).trans (hcl 1 _ rfl)
          have k2 : ∀ W, Below W0.heap.size W0 W → W.cell? ⟨wr.heap.size, 2, none⟩ = some (.int .u32 a1) := fun W hb => (hb.cell (World.block_lt_of_cell? _ _ (hcl 2 _ rfl))).trans (hcl 2 _ rfl)
          have hcall2 := Lib.hid (fun W (hb : Below W0.heap.size W0 W) => hcall.out W (hBW.trans (hb.mono hBW.size)))
          clear hcl hcall h0 h1 h2
          have hS0 : Below W0.heap.size W0 W0.drew := (Below.refl _ _).drew
          go_region_held3 (fun w' => Below W0.heap.size W0 w')
            (first | with_reducible assumption | exact (Below.refl _ _).drew)
            (first | (go_at_fn g; refine (hcall2.out _ (by with_reducible assumption)).mono ?_; rintro e w1 ⟨rfl, hb1⟩; have hb2 := below_next (by with_reducible assumption) hb1))
          have HBx := Lib.hid (below_next hbw.out (hBW.trans (hb2.mono hBW.size)))
          clear hb1 hb2
          go_wp2
          go_ret
          exact ⟨by rw [hfe.out, HH2.out, HA.out]; rfl, HBx.out⟩
      · have hm0 : ((most : Int) ≤ (k : Int)) := by omega
        have HM := Lib.hid (feC_many (C := C) (i := k) (m := n - k) hm (by omega))
        have hgl : wr.cell? ⟨5, 0, none⟩ = some (erS ads (101 + ((3 : Nat) : Int))) := erS_cell (HS.out.below hbw.out) (by decide) rfl
        have hgl2 := World.block_lt_of_cell? _ _ hgl
        have HBx := Lib.hid (below_next hbw.out ((Below.refl _ _).alloc (Nat.le_refl _) (.cells #[.int .i64 r1, .int .i64 l1, .int .u32 a1] 80)))
        generalize hE : erS ads (101 + ((3 : Nat) : Int)) = E at *
        have HE := Lib.hid hE
        clear hE
        go_wp2
        go_ret
        exact ⟨by rw [hfe.out, HM.out, ← HE.out]; rfl, HBx.out⟩
    · obtain rfl : k = n := by omega
      have HD := Lib.hid (feC_done C most k)
      go_wp2
      go_ret
      exact ⟨by rw [hfe.out, Nat.sub_self, HD.out]; rfl, hbw.out⟩
end Go.Proofs.YtdljpokhcfhhfaaGreatDoor
namespace Go.Proofs.YtdljpokhcfhhfaaGreatDoor
open Go.RowKit Go.Lib Lx
def IRoute (w : World) (A : Option Addr) (n : Nat) (xs : List (Int × Int × Int × Int × Int)) : Prop := IR CRoute 5 w A n xs
theorem IRoute.cells {w : World} {A : Option Addr} {n : Nat} {xs : List (Int × Int × Int × Int × Int)} {i : Nat} (h : IRoute w A n xs) (hi : i < n) : ∃ bq oq x, A = some ⟨bq, oq, none⟩ ∧ bq < w.heap.size ∧ xs[i]? = some x ∧ match x with | ⟨r1, a1, b1, v1, c1⟩ => w.cell? ⟨bq, oq + i * 5, none⟩ = some (.int .i64 r1) ∧ w.cell? ⟨bq, oq + i * 5 + 1, none⟩ = some (.int .u32 a1) ∧ w.cell? ⟨bq, oq + i * 5 + 2, none⟩ = some (.int .i64 b1) ∧ w.cell? ⟨bq, oq + i * 5 + 3, none⟩ = some (.int .u32 v1) ∧ w.cell? ⟨bq, oq + i * 5 + 4, none⟩ = some (.int .i64 c1) := by
  obtain ⟨b, o, x, hA, hb, hx, hc⟩ := IR.at_ h hi
  refine ⟨b, o, x, hA, hb, hx, ?_⟩
  obtain ⟨r1, a1, b1, v1, c1⟩ := x
  exact ⟨hc 0 _ rfl, hc 1 _ rfl, hc 2 _ rfl, hc 3 _ rfl, hc 4 _ rfl⟩
set_option maxHeartbeats 1000000 in
theorem feRoute (g : Nat) (lb : Array Value) (eg : ∀ args w, (callFunc g args).run Tryz.prog w = .ok (.enter g args) w) (ads : List Addr) (C : Nat → Int) (most : Nat) (hC : ∀ i, IsC (C i)) (A : Option Addr) (n c : Nat) (xs : List (Int × Int × Int × Int × Int)) (w : World) (hr : IRoute w A n xs) (hn : n ≤ 1000000) (hnc : n ≤ c) (_hmost : most ≤ 1000) (hS : EnvC ads w)
    (hp : ∀ (W : World) (i : Nat) (x : Int × Int × Int × Int × Int), i < most → xs[i]? = some x → Below w.heap.size w W → IRoute W A i (xs.take i) → Calls Tryz.prog g (#[VRoute x, .slice A i c] ++ lb) W fun e w' => e = .returned (erS ads (C i)) ∧ Below W.heap.size W w') :
    Calls Tryz.prog 168 #[.slice A n c, .int .i64 most, .func (.func g) #[] lb] w fun e w' => e = .returned (erS ads (feC C most 0 n)) ∧ Below w.heap.size w w' := by
  have HP := Lib.hid hp
  have HR := Lib.hid hr
  have hB0 := Lib.hid (Below.refl w.heap.size w)
  have HS := Lib.hid hS
  have HC := Lib.hid hC
  clear hp hr hS hC
  go_enter Tryz.func168, Tryz.ntmps168
  go_wp2
  go_loopw [12] (fun i wr => ∃ k : Nat, k ≤ n ∧ i = .int .i64 k ∧ Hid (feC C most 0 n = feC C most k (n - k)) ∧ Hid (Below w.heap.size w wr)) (fun i _ => n - (intOf i).toNat)
  case atStart => exact ⟨0, Nat.zero_le _, rfl, rfl, hB0⟩
  case round =>
    obtain ⟨k, hk, rfl, hfe, hbw⟩ := hrel
    rcases Nat.lt_or_ge k n with hlt | hge
    · obtain ⟨bq, oq, x, rfl, hb, hx, hc⟩ := IRoute.cells (IR.next HR.out hbw.out) hlt
      have hi0 : (k : Int) < n := by omega
      have HX := Lib.hid hx
      clear hx
      obtain ⟨r1, a1, b1, v1, c1⟩ := x
      obtain ⟨h0, h1, h2, h3, h4⟩ := hc
      rcases Nat.lt_or_ge k most with hm | hm
      · have hm0 : ¬ ((most : Int) ≤ (k : Int)) := by omega
        have hkc : (k : Int) ≤ (c : Int) := by omega
        have HN := Lib.hid (feC_next (C := C) (i := k) (m := n - k) hm (by omega))
        have HH := Lib.hid (feC_here (C := C) (i := k) (m := n - k) hm (by omega))
        have hcall := Lib.hid (fun W (hb : Below wr.heap.size wr W) => HP.out W k _ hm HX.out (below_next hbw.out hb) (IR.take (IR.next HR.out (below_next hbw.out hb)) (Nat.le_of_lt hlt)))
        have hEC := HC.out k
        generalize C k = q at *
        rcases hEC with rfl | ⟨j, hj, rfl⟩
        · have HN2 := Lib.hid (HN.out rfl)
          have e0 : erS ads 0 = .nilIface := rfl
          rw [e0] at hcall
          clear HN HH e0
          go_wp2_with fail
          have hBW : Below wr.heap.size wr (wr.alloc (.cells #[.int .i64 r1, .int .u32 a1, .int .i64 b1, .int .u32 v1, .int .i64 c1] 128)) := (Below.refl _ _).alloc (Nat.le_refl _) _
          have hcl : ∀ j v, (#[.int .i64 r1, .int .u32 a1, .int .i64 b1, .int .u32 v1, .int .i64 c1] : Array Value)[j]? = some v → (wr.alloc (.cells #[.int .i64 r1, .int .u32 a1, .int .i64 b1, .int .u32 v1, .int .i64 c1] 128)).cell? ⟨wr.heap.size, j, none⟩ = some v := fun j v hv => by rw [(Blk.new wr _ _).cell j]; exact hv
          generalize wr.alloc (.cells #[.int .i64 r1, .int .u32 a1, .int .i64 b1, .int .u32 v1, .int .i64 c1] 128) = W0 at *
          have k0 : ∀ W, Below W0.heap.size W0 W → W.cell? ⟨wr.heap.size, 0, none⟩ = some (.int .i64 r1) := fun W hb => (hb.cell (World.block_lt_of_cell? _ _ (hcl 0 _ rfl))).trans (hcl 0 _ rfl)
          have k1 : ∀ W, Below W0.heap.size W0 W → W.cell? ⟨wr.heap.size, 1, none⟩ = some (.int .u32 a1) := fun W hb => (hb.cell (World.block_lt_of_cell? _ _ (hcl 1 _ rfl))).trans (hcl 1 _ rfl)
          have k2 : ∀ W, Below W0.heap.size W0 W → W.cell? ⟨wr.heap.size, 2, none⟩ = some (.int .i64 b1) := fun W hb => (hb.cell (World.block_lt_of_cell? _ _ (hcl 2 _ rfl))).trans (hcl 2 _ rfl)
          have k3 : ∀ W, Below W0.heap.size W0 W → W.cell? ⟨wr.heap.size, 3, none⟩ = some (.int .u32 v1) := fun W hb => (hb.cell (World.block_lt_of_cell? _ _ (hcl 3 _ rfl))).trans (hcl 3 _ rfl)
          have k4 : ∀ W, Below W0.heap.size W0 W → W.cell? ⟨wr.heap.size, 4, none⟩ = some (.int .i64 c1) := fun W hb => (hb.cell (World.block_lt_of_cell? _ _ (hcl 4 _ rfl))).trans (hcl 4 _ rfl)
          have hcall2 := Lib.hid (fun W (hb : Below W0.heap.size W0 W) => hcall.out W (hBW.trans (hb.mono hBW.size)))
          clear hcl hcall h0 h1 h2 h3 h4
          have hS0 : Below W0.heap.size W0 W0.drew := (Below.refl _ _).drew
          go_region_held3 (fun w' => Below W0.heap.size W0 w')
            (first | with_reducible assumption | exact (Below.refl _ _).drew)
            (first | (go_at_fn g; refine (hcall2.out _ (by with_reducible assumption)).mono ?_; rintro e w1 ⟨rfl, hb1⟩; have hb2 := below_next (by with_reducible assumption) hb1))
          have HBx := Lib.hid (below_next hbw.out (hBW.trans (hb2.mono hBW.size)))
          clear hb1 hb2
          go_wp2
          go_roundw
          case rel => exact ⟨k + 1, by omega, by go_num, by rw [hfe.out, HN2.out, Nat.sub_sub]; rfl, HBx⟩
          case measure => simp [intOf]; omega
        · obtain ⟨a, _, ha⟩ := erS_at HS.out hj
          have hne : ¬ (101 + (j : Int) = 0) := by omega
          have HH2 := Lib.hid (HH.out hne)
          rw [ha] at hcall
          have HA := Lib.hid ha
          unfold ev at hcall
          clear HN HH hne ha
          go_wp2_with fail
          have hBW : Below wr.heap.size wr (wr.alloc (.cells #[.int .i64 r1, .int .u32 a1, .int .i64 b1, .int .u32 v1, .int .i64 c1] 128)) := (Below.refl _ _).alloc (Nat.le_refl _) _
          have hcl : ∀ j v, (#[.int .i64 r1, .int .u32 a1, .int .i64 b1, .int .u32 v1, .int .i64 c1] : Array Value)[j]? = some v → (wr.alloc (.cells #[.int .i64 r1, .int .u32 a1, .int .i64 b1, .int .u32 v1, .int .i64 c1] 128)).cell? ⟨wr.heap.size, j, none⟩ = some v := fun j v hv => by rw [(Blk.new wr _ _).cell j]; exact hv
          generalize wr.alloc (.cells #[.int .i64 r1, .int .u32 a1, .int .i64 b1, .int .u32 v1, .int .i64 c1] 128) = W0 at *
          have k0 : ∀ W, Below W0.heap.size W0 W → W.cell? ⟨wr.heap.size, 0, none⟩ = some (.int .i64 r1) := fun W hb => (hb.cell (World.block_lt_of_cell? _ _ (hcl 0 _ rfl))).trans (hcl 0 _ rfl)
          have k1 : ∀ W, Below W0.heap.size W0 W → W.cell? ⟨wr.heap.size, 1, none⟩ = some (.int .u32 a1) := fun W hb => (hb.cell (World.block_lt_of_cell? _ _ (hcl 1 _ rfl))).trans (hcl 1 _ rfl)
          have k2 : ∀ W, Below W0.heap.size W0 W → W.cell? ⟨wr.heap.size, 2, none⟩ = some (.int .i64 b1) := fun W hb => (hb.cell (World.block_lt_of_cell? _ _ (hcl 2 _ rfl))).trans (hcl 2 _ rfl)
          have k3 : ∀ W, Below W0.heap.size W0 W → W.cell? ⟨wr.heap.size, 3, none⟩ = some (.int .u32 v1) := fun W hb => (hb.cell (World.block_lt_of_cell? _ _ (hcl 3 _ rfl))).trans (hcl 3 _ rfl)
          have k4 : ∀ W, Below W0.heap.size W0 W → W.cell? ⟨wr.heap.size, 4, none⟩ = some (.int .i64 c1) := fun W hb => (hb.cell (World.block_lt_of_cell? _ _ (hcl 4 _ rfl))).trans (hcl 4 _ rfl)
          have hcall2 := Lib.hid (fun W (hb : Below W0.heap.size W0 W) => hcall.out W (hBW.trans (hb.mono hBW.size)))
          clear hcl hcall h0 h1 h2 h3 h4
          have hS0 : Below W0.heap.size W0 W0.drew := (Below.refl _ _).drew
          go_region_held3 (fun w' => Below W0.heap.size W0 w')
            (first | with_reducible assumption | exact (Below.refl _ _).drew)
            (first | (go_at_fn g; refine (hcall2.out _ (by with_reducible assumption)).mono ?_; rintro e w1 ⟨rfl, hb1⟩; have hb2 := below_next (by with_reducible assumption) hb1))
          have HBx := Lib.hid (below_next hbw.out (hBW.trans (hb2.mono hBW.size)))
          clear hb1 hb2
          go_wp2
          go_ret
          exact ⟨by rw [hfe.out, HH2.out, HA.out]; rfl, HBx.out⟩
      · have hm0 : ((most : Int) ≤ (k : Int)) := by omega
        have HM := Lib.hid (feC_many (C := C) (i := k) (m := n - k) hm (by omega))
        have hgl : wr.cell? ⟨5, 0, none⟩ = some (erS ads (101 + ((3 : Nat) : Int))) := erS_cell (HS.out.below hbw.out) (by decide) rfl
        have hgl2 := World.block_lt_of_cell? _ _ hgl
        have HBx := Lib.hid (below_next hbw.out ((Below.refl _ _).alloc (Nat.le_refl _) (.cells #[.int .i64 r1, .int .u32 a1, .int .i64 b1, .int .u32 v1, .int .i64 c1] 128)))
        generalize hE : erS ads (101 + ((3 : Nat) : Int)) = E at *
        have HE := Lib.hid hE
        clear hE
        go_wp2
        go_ret
        exact ⟨by rw [hfe.out, HM.out, ← HE.out]; rfl, HBx.out⟩
    · obtain rfl : k = n := by omega
      have HD := Lib.hid (feC_done C most k)
      go_wp2
      go_ret
      exact ⟨by rw [hfe.out, Nat.sub_self, HD.out]; rfl, hbw.out⟩
end Go.Proofs.YtdljpokhcfhhfaaGreatDoor
namespace Go.Proofs.YtdljpokhcfhhfaaGreatDoor
open Go.RowKit Go.Lib Lx
def IRange (w : World) (A : Option Addr) (n : Nat) (xs : List (Int × Int × Int)) : Prop := IR CRange 3 w A n xs
theorem IRange.cells {w : World} {A : Option Addr} {n : Nat} {xs : List (Int × Int × Int)} {i : Nat} (h : IRange w A n xs) (hi : i < n) : ∃ bq oq x, A = some ⟨bq, oq, none⟩ ∧ bq < w.heap.size ∧ xs[i]? = some x ∧ match x with | ⟨a1, b1, r1⟩ => w.cell? ⟨bq, oq + i * 3, none⟩ = some (.int .u32 a1) ∧ w.cell? ⟨bq, oq + i * 3 + 1, none⟩ = some (.int .i64 b1) ∧ w.cell? ⟨bq, oq + i * 3 + 2, none⟩ = some (.int .u32 r1) := by
  obtain ⟨b, o, x, hA, hb, hx, hc⟩ := IR.at_ h hi
  refine ⟨b, o, x, hA, hb, hx, ?_⟩
  obtain ⟨a1, b1, r1⟩ := x
  exact ⟨hc 0 _ rfl, hc 1 _ rfl, hc 2 _ rfl⟩
set_option maxHeartbeats 1000000 in
theorem idxRange (g : Nat) (lb : Array Value) (eg : ∀ args w, (callFunc g args).run Tryz.prog w = .ok (.enter g args) w) (p : Int × Int × Int → Bool) (A : Option Addr) (n c : Nat) (xs : List (Int × Int × Int)) (w : World) (hr : IRange w A n xs) (hn : n ≤ 1000000)
    (hp : ∀ (W : World) (i : Nat) (x : Int × Int × Int), xs[i]? = some x → Below w.heap.size w W → Calls Tryz.prog g (#[VRange x] ++ lb) W fun e w' => e = .returned (.bool (p x)) ∧ Below W.heap.size W w') :
    Calls Tryz.prog 219 #[.slice A n c, .func (.func g) #[] lb] w fun e w' => e = .returned (.int .i64 (idxI p xs)) ∧ Below w.heap.size w w' := by
  have HP := Lib.hid hp
  have HR := Lib.hid hr
  have hB0 := Lib.hid (Below.refl w.heap.size w)
  clear hp hr
  go_enter Tryz.func219, Tryz.ntmps219
  go_wp2
  go_loopw [8] (fun i wr => ∃ k : Nat, k ≤ n ∧ i = .int .i64 k ∧ Hid (∀ (j : Nat) x, j < k → xs[j]? = some x → p x = false) ∧ Hid (Below w.heap.size w wr)) (fun i _ => n - (intOf i).toNat)
  case atStart => exact ⟨0, Nat.zero_le _, rfl, fun j x hj => absurd hj (Nat.not_lt_zero _), hB0⟩
  case round =>
    obtain ⟨k, hk, rfl, hno, hbw⟩ := hrel
    rcases Nat.lt_or_ge k n with hlt | hge
    · obtain ⟨bq, oq, x, rfl, hb, hx, hc⟩ := IRange.cells (IR.next HR.out hbw.out) hlt
      have hcall := Lib.hid (HP.out wr k x hx hbw.out)
      have hi0 : (k : Int) < n := by omega
      have HX := Lib.hid hx
      clear hx
      obtain ⟨a1, b1, r1⟩ := x
      obtain ⟨h0, h1, h2⟩ := hc
      cases hq : p ⟨a1, b1, r1⟩ with
      | true =>
        have HQ := Lib.hid hq
        rw [hq] at hcall
        clear hq
        go_wp2_with (go_at_fn g; refine hcall.out.mono ?_; rintro e w1 ⟨rfl, hb1⟩; have HB1 := Lib.hid (below_next hbw.out hb1); clear hb1)
        go_ret
        refine ⟨ret_int ?_, HB1.out⟩
        rw [idxI_hit xs k _ HX.out HQ.out hno.out]
      | false =>
        have HQ := Lib.hid hq
        rw [hq] at hcall
        clear hq
        go_wp2_with (go_at_fn g; refine hcall.out.mono ?_; rintro e w1 ⟨rfl, hb1⟩; have HB1 := Lib.hid (below_next hbw.out hb1); clear hb1)
        go_roundw
        case rel => exact ⟨k + 1, by omega, by go_num, (show Hid _ from fun j y hj hy => by
            by_cases e : j = k
            · subst e; rw [HX.out] at hy; injection hy with hy; rw [← hy]; exact HQ.out
            · exact hno.out j y (by omega) hy), HB1⟩
        case measure => simp [intOf]; omega
    · obtain rfl : k = n := by omega
      have HE := Lib.hid (idxI_none xs (p := p) fun j x hx => hno.out j x (by have := (List.getElem?_eq_some_iff.1 hx).1; rw [HR.out.len] at this; exact this) hx)
      clear hno
      go_wp2
      go_ret
      refine ⟨ret_int ?_, hbw.out⟩
      rw [HE.out]
theorem hasRange (g : Nat) (lb : Array Value) (eg : ∀ args w, (callFunc g args).run Tryz.prog w = .ok (.enter g args) w) (p : Int × Int × Int → Bool) (A : Option Addr) (n c : Nat) (xs : List (Int × Int × Int)) (w : World) (hr : IRange w A n xs) (hn : n ≤ 1000000)
    (hp : ∀ (W : World) (i : Nat) (x : Int × Int × Int), xs[i]? = some x → Below w.heap.size w W → Calls Tryz.prog g (#[VRange x] ++ lb) W fun e w' => e = .returned (.bool (p x)) ∧ Below W.heap.size W w') :
    Calls Tryz.prog 173 #[.slice A n c, .func (.func g) #[] lb] w fun e w' => e = .returned (.bool (xs.any p)) ∧ Below w.heap.size w w' := by
  have H := Lib.hid (idxRange g lb eg p A n c xs w hr hn hp)
  have HA := Lib.hid (idxI_any (p := p) xs)
  clear hp hr
  generalize idxI p xs = v at *
  generalize xs.any p = r at *
  go_enter Tryz.func173, Tryz.ntmps173
  go_wp2_with (go_at_call 219; refine H.out.mono ?_; rintro e w1 ⟨rfl, hb1⟩)
  go_ret
  exact ⟨ret_bool HA.out, hb1⟩
set_option maxHeartbeats 1000000 in
theorem feRange (g : Nat) (lb : Array Value) (eg : ∀ args w, (callFunc g args).run Tryz.prog w = .ok (.enter g args) w) (ads : List Addr) (C : Nat → Int) (most : Nat) (hC : ∀ i, IsC (C i)) (A : Option Addr) (n c : Nat) (xs : List (Int × Int × Int)) (w : World) (hr : IRange w A n xs) (hn : n ≤ 1000000) (hnc : n ≤ c) (_hmost : most ≤ 1000) (hS : EnvC ads w)
    (hp : ∀ (W : World) (i : Nat) (x : Int × Int × Int), i < most → xs[i]? = some x → Below w.heap.size w W → IRange W A i (xs.take i) → Calls Tryz.prog g (#[VRange x, .slice A i c] ++ lb) W fun e w' => e = .returned (erS ads (C i)) ∧ Below W.heap.size W w') :
    Calls Tryz.prog 171 #[.slice A n c, .int .i64 most, .func (.func g) #[] lb] w fun e w' => e = .returned (erS ads (feC C most 0 n)) ∧ Below w.heap.size w w' := by
  have HP := Lib.hid hp
  have HR := Lib.hid hr
  have hB0 := Lib.hid (Below.refl w.heap.size w)
  have HS := Lib.hid hS
  have HC := Lib.hid hC
  clear hp hr hS hC
  go_enter Tryz.func171, Tryz.ntmps171
  go_wp2
  go_loopw [12] (fun i wr => ∃ k : Nat, k ≤ n ∧ i = .int .i64 k ∧ Hid (feC C most 0 n = feC C most k (n - k)) ∧ Hid (Below w.heap.size w wr)) (fun i _ => n - (intOf i).toNat)
  case atStart => exact ⟨0, Nat.zero_le _, rfl, rfl, hB0⟩
  case round =>
    obtain ⟨k, hk, rfl, hfe, hbw⟩ := hrel
    rcases Nat.lt_or_ge k n with hlt | hge
    · obtain ⟨bq, oq, x, rfl, hb, hx, hc⟩ := IRange.cells (IR.next HR.out hbw.out) hlt
      have hi0 : (k : Int) < n := by omega
      have HX := Lib.hid hx
      clear hx
      obtain ⟨a1, b1, r1⟩ := x
      obtain ⟨h0, h1, h2⟩ := hc
      rcases Nat.lt_or_ge k most with hm | hm
      · have hm0 : ¬ ((most : Int) ≤ (k : Int)) := by omega
        have hkc : (k : Int) ≤ (c : Int) := by omega
        have HN := Lib.hid (feC_next (C := C) (i := k) (m := n - k) hm (by omega))
        have HH := Lib.hid (feC_here (C := C) (i := k) (m := n - k) hm (by omega))
        have hcall := Lib.hid (fun W (hb : Below wr.heap.size wr W) => HP.out W k _ hm HX.out (below_next hbw.out hb) (IR.take (IR.next HR.out (below_next hbw.out hb)) (Nat.le_of_lt hlt)))
        have hEC := HC.out k
        generalize C k = q at *
        rcases hEC with rfl | ⟨j, hj, rfl⟩
        · have HN2 := Lib.hid (HN.out rfl)
          have e0 : erS ads 0 = .nilIface := rfl
          rw [e0] at hcall
          clear HN HH e0
          go_wp2_with fail
          have hBW : Below wr.heap.size wr (wr.alloc (.cells #[.int .u32 a1, .int .i64 b1, .int .u32 r1] 149)) := (Below.refl _ _).alloc (Nat.le_refl _) _
          have hcl : ∀ j v, (#[.int .u32 a1, .int .i64 b1, .int .u32 r1] : Array Value)[j]? = some v → (wr.alloc (.cells #[.int .u32 a1, .int .i64 b1, .int .u32 r1] 149)).cell? ⟨wr.heap.size, j, none⟩ = some v := fun j v hv => by rw [(Blk.new wr _ _).cell j]; exact hv
          generalize wr.alloc (.cells #[.int .u32 a1, .int .i64 b1, .int .u32 r1] 149) = W0 at *
          have k0 : ∀ W, Below W0.heap.size W0 W → W.cell? ⟨wr.heap.size, 0, none⟩ = some (.int .u32 a1) := fun W hb => (hb.cell (World.block_lt_of_cell? _ _ (hcl 0 _ rfl))).trans (hcl 0 _ rfl)
          have k1 : ∀ W, Below W0.heap.size W0 W → W.cell? ⟨wr.heap.size, 1, none⟩ = some (.int .i64 b1) := fun W hb => (hb.cell (World.block_lt_of_cell? _ _ (hcl 1 _ rfl))).trans (hcl 1 _ rfl)
          have k2 : ∀ W, Below W0.heap.size W0 W → W.cell? ⟨wr.heap.size, 2, none⟩ = some (.int .u32 r1) := fun W hb => (hb.cell (World.block_lt_of_cell? _ _ (hcl 2 _ rfl))).trans (hcl 2 _ rfl)
          have hcall2 := Lib.hid (fun W (hb : Below W0.heap.size W0 W) => hcall.out W (hBW.trans (hb.mono hBW.size)))
          clear hcl hcall h0 h1 h2
          have hS0 : Below W0.heap.size W0 W0.drew := (Below.refl _ _).drew
          go_region_held3 (fun w' => Below W0.heap.size W0 w')
            (first | with_reducible assumption | exact (Below.refl _ _).drew)
            (first | (go_at_fn g; refine (hcall2.out _ (by with_reducible assumption)).mono ?_; rintro e w1 ⟨rfl, hb1⟩; have hb2 := below_next (by with_reducible assumption) hb1))
          have HBx := Lib.hid (below_next hbw.out (hBW.trans (hb2.mono hBW.size)))
          clear hb1 hb2
          go_wp2
          go_roundw
          case rel => exact ⟨k + 1, by omega, by go_num, by rw [hfe.out, HN2.out, Nat.sub_sub]; rfl, HBx⟩
          case measure => simp [intOf]; omega
        · obtain ⟨a, _, ha⟩ := erS_at HS.out hj
          have hne : ¬ (101 + (j : Int) = 0) := by omega
          have HH2 := Lib.hid (HH.out hne)
          rw [ha] at hcall
          have HA := Lib.hid ha
          unfold ev at hcall
          clear HN HH hne ha
          go_wp2_with fail
          have hBW : Below wr.heap.size wr (wr.alloc (.cells #[.int .u32 a1, .int .i64 b1, .int .u32 r1] 149)) := (Below.refl _ _).alloc (Nat.le_refl _) _
          have hcl : ∀ j v, (#[.int .u32 a1, .int .i64 b1, .int .u32 r1] : Array Value)[j]? = some v → (wr.alloc (.cells #[.int .u32 a1, .int .i64 b1, .int .u32 r1] 149)).cell? ⟨wr.heap.size, j, none⟩ = some v := fun j v hv => by rw [(Blk.new wr _ _).cell j]; exact hv
          generalize wr.alloc (.cells #[.int .u32 a1, .int .i64 b1, .int .u32 r1] 149) = W0 at *
          have k0 : ∀ W, Below W0.heap.size W0 W → W.cell? ⟨wr.heap.size, 0, none⟩ = some (.int .u32 a1) := fun W hb => (hb.cell (World.block_lt_of_cell? _ _ (hcl 0 _ rfl))).trans (hcl 0 _ rfl)
          have k1 : ∀ W, Below W0.heap.size W0 W → W.cell? ⟨wr.heap.size, 1, none⟩ = some (.int .i64 b1) := fun W hb => (hb.cell (World.block_lt_of_cell? _ _ (hcl 1 _ rfl))).trans (hcl 1 _ rfl)
          have k2 : ∀ W, Below W0.heap.size W0 W → W.cell? ⟨wr.heap.size, 2, none⟩ = some (.int .u32 r1) := fun W hb => (hb.cell (World.block_lt_of_cell? _ _ (hcl 2 _ rfl))).trans (hcl 2 _ rfl)
          have hcall2 := Lib.hid (fun W (hb : Below W0.heap.size W0 W) => hcall.out W (hBW.trans (hb.mono hBW.size)))
          clear hcl hcall h0 h1 h2
          have hS0 : Below W0.heap.size W0 W0.drew := (Below.refl _ _).drew
          go_region_held3 (fun w' => Below W0.heap.size W0 w')
            (first | with_reducible assumption | exact (Below.refl _ _).drew)
            (first | (go_at_fn g; refine (hcall2.out _ (by with_reducible assumption)).mono ?_; rintro e w1 ⟨rfl, hb1⟩; have hb2 := below_next (by with_reducible assumption) hb1))
          have HBx := Lib.hid (below_next hbw.out (hBW.trans (hb2.mono hBW.size)))
          clear hb1 hb2
          go_wp2
          go_ret
          exact ⟨by rw [hfe.out, HH2.out, HA.out]; rfl, HBx.out⟩
      · have hm0 : ((most : Int) ≤ (k : Int)) := by omega
        have HM := Lib.hid (feC_many (C := C) (i := k) (m := n - k) hm (by omega))
        have hgl : wr.cell? ⟨5, 0, none⟩ = some (erS ads (101 + ((3 : Nat) : Int))) := erS_cell (HS.out.below hbw.out) (by decide) rfl
        have hgl2 := World.block_lt_of_cell? _ _ hgl
        have HBx := Lib.hid (below_next hbw.out ((Below.refl _ _).alloc (Nat.le_refl _) (.cells #[.int .u32 a1, .int .i64 b1, .int .u32 r1] 149)))
        generalize hE : erS ads (101 + ((3 : Nat) : Int)) = E at *
        have HE := Lib.hid hE
        clear hE
        go_wp2
        go_ret
        exact ⟨by rw [hfe.out, HM.out, ← HE.out]; rfl, HBx.out⟩
    · obtain rfl : k = n := by omega
      have HD := Lib.hid (feC_done C most k)
      go_wp2
      go_ret
      exact ⟨by rw [hfe.out, Nat.sub_self, HD.out]; rfl, hbw.out⟩
end Go.Proofs.YtdljpokhcfhhfaaGreatDoor
namespace Go.Proofs.YtdljpokhcfhhfaaGreatDoor
open Go.RowKit Go.Lib Lx
def ISource (w : World) (A : Option Addr) (n : Nat) (xs : List (Int × Int × Int)) : Prop := IR CSource 3 w A n xs
theorem ISource.cells {w : World} {A : Option Addr} {n : Nat} {xs : List (Int × Int × Int)} {i : Nat} (h : ISource w A n xs) (hi : i < n) : ∃ bq oq x, A = some ⟨bq, oq, none⟩ ∧ bq < w.heap.size ∧ xs[i]? = some x ∧ match x with | ⟨l1, s1, g1⟩ => w.cell? ⟨bq, oq + i * 3, none⟩ = some (.int .i64 l1) ∧ w.cell? ⟨bq, oq + i * 3 + 1, none⟩ = some (.int .u32 s1) ∧ w.cell? ⟨bq, oq + i * 3 + 2, none⟩ = some (.int .u32 g1) := by
  obtain ⟨b, o, x, hA, hb, hx, hc⟩ := IR.at_ h hi
  refine ⟨b, o, x, hA, hb, hx, ?_⟩
  obtain ⟨l1, s1, g1⟩ := x
  exact ⟨hc 0 _ rfl, hc 1 _ rfl, hc 2 _ rfl⟩
set_option maxHeartbeats 1000000 in
theorem idxSource (g : Nat) (lb : Array Value) (eg : ∀ args w, (callFunc g args).run Tryz.prog w = .ok (.enter g args) w) (p : Int × Int × Int → Bool) (A : Option Addr) (n c : Nat) (xs : List (Int × Int × Int)) (w : World) (hr : ISource w A n xs) (hn : n ≤ 1000000)
    (hp : ∀ (W : World) (i : Nat) (x : Int × Int × Int), xs[i]? = some x → Below w.heap.size w W → Calls Tryz.prog g (#[VSource x] ++ lb) W fun e w' => e = .returned (.bool (p x)) ∧ Below W.heap.size W w') :
    Calls Tryz.prog 253 #[.slice A n c, .func (.func g) #[] lb] w fun e w' => e = .returned (.int .i64 (idxI p xs)) ∧ Below w.heap.size w w' := by
  have HP := Lib.hid hp
  have HR := Lib.hid hr
  have hB0 := Lib.hid (Below.refl w.heap.size w)
  clear hp hr
  go_enter Tryz.func253, Tryz.ntmps253
  go_wp2
  go_loopw [8] (fun i wr => ∃ k : Nat, k ≤ n ∧ i = .int .i64 k ∧ Hid (∀ (j : Nat) x, j < k → xs[j]? = some x → p x = false) ∧ Hid (Below w.heap.size w wr)) (fun i _ => n - (intOf i).toNat)
  case atStart => exact ⟨0, Nat.zero_le _, rfl, fun j x hj => absurd hj (Nat.not_lt_zero _), hB0⟩
  case round =>
    obtain ⟨k, hk, rfl, hno, hbw⟩ := hrel
    rcases Nat.lt_or_ge k n with hlt | hge
    · obtain ⟨bq, oq, x, rfl, hb, hx, hc⟩ := ISource.cells (IR.next HR.out hbw.out) hlt
      have hcall := Lib.hid (HP.out wr k x hx hbw.out)
      have hi0 : (k : Int) < n := by omega
      have HX := Lib.hid hx
      clear hx
      obtain ⟨l1, s1, g1⟩ := x
      obtain ⟨h0, h1, h2⟩ := hc
      cases hq : p ⟨l1, s1, g1⟩ with
      | true =>
        have HQ := Lib.hid hq
        rw [hq] at hcall
        clear hq
        go_wp2_with (go_at_fn g; refine hcall.out.mono ?_; rintro e w1 ⟨rfl, hb1⟩; have HB1 := Lib.hid (below_next hbw.out hb1); clear hb1)
        go_ret
        refine ⟨ret_int ?_, HB1.out⟩
        rw [idxI_hit xs k _ HX.out HQ.out hno.out]
      | false =>
        have HQ := Lib.hid hq
        rw [hq] at hcall
        clear hq
        go_wp2_with (go_at_fn g; refine hcall.out.mono ?_; rintro e w1 ⟨rfl, hb1⟩; have HB1 := Lib.hid (below_next hbw.out hb1); clear hb1)
        go_roundw
        case rel => exact ⟨k + 1, by omega, by go_num, (show Hid _ from fun j y hj hy => by
            by_cases e : j = k
            · subst e; rw [HX.out] at hy; injection hy with hy; rw [← hy]; exact HQ.out
            · exact hno.out j y (by omega) hy), HB1⟩
        case measure => simp [intOf]; omega
    · obtain rfl : k = n := by omega
      have HE := Lib.hid (idxI_none xs (p := p) fun j x hx => hno.out j x (by have := (List.getElem?_eq_some_iff.1 hx).1; rw [HR.out.len] at this; exact this) hx)
      clear hno
      go_wp2
      go_ret
      refine ⟨ret_int ?_, hbw.out⟩
      rw [HE.out]
theorem hasSource (g : Nat) (lb : Array Value) (eg : ∀ args w, (callFunc g args).run Tryz.prog w = .ok (.enter g args) w) (p : Int × Int × Int → Bool) (A : Option Addr) (n c : Nat) (xs : List (Int × Int × Int)) (w : World) (hr : ISource w A n xs) (hn : n ≤ 1000000)
    (hp : ∀ (W : World) (i : Nat) (x : Int × Int × Int), xs[i]? = some x → Below w.heap.size w W → Calls Tryz.prog g (#[VSource x] ++ lb) W fun e w' => e = .returned (.bool (p x)) ∧ Below W.heap.size W w') :
    Calls Tryz.prog 221 #[.slice A n c, .func (.func g) #[] lb] w fun e w' => e = .returned (.bool (xs.any p)) ∧ Below w.heap.size w w' := by
  have H := Lib.hid (idxSource g lb eg p A n c xs w hr hn hp)
  have HA := Lib.hid (idxI_any (p := p) xs)
  clear hp hr
  generalize idxI p xs = v at *
  generalize xs.any p = r at *
  go_enter Tryz.func221, Tryz.ntmps221
  go_wp2_with (go_at_call 253; refine H.out.mono ?_; rintro e w1 ⟨rfl, hb1⟩)
  go_ret
  exact ⟨ret_bool HA.out, hb1⟩
set_option maxHeartbeats 1000000 in
theorem feSource (g : Nat) (lb : Array Value) (eg : ∀ args w, (callFunc g args).run Tryz.prog w = .ok (.enter g args) w) (ads : List Addr) (C : Nat → Int) (most : Nat) (hC : ∀ i, IsC (C i)) (A : Option Addr) (n c : Nat) (xs : List (Int × Int × Int)) (w : World) (hr : ISource w A n xs) (hn : n ≤ 1000000) (hnc : n ≤ c) (_hmost : most ≤ 1000) (hS : EnvC ads w)
    (hp : ∀ (W : World) (i : Nat) (x : Int × Int × Int), i < most → xs[i]? = some x → Below w.heap.size w W → ISource W A i (xs.take i) → Calls Tryz.prog g (#[VSource x, .slice A i c] ++ lb) W fun e w' => e = .returned (erS ads (C i)) ∧ Below W.heap.size W w') :
    Calls Tryz.prog 175 #[.slice A n c, .int .i64 most, .func (.func g) #[] lb] w fun e w' => e = .returned (erS ads (feC C most 0 n)) ∧ Below w.heap.size w w' := by
  have HP := Lib.hid hp
  have HR := Lib.hid hr
  have hB0 := Lib.hid (Below.refl w.heap.size w)
  have HS := Lib.hid hS
  have HC := Lib.hid hC
  clear hp hr hS hC
  go_enter Tryz.func175, Tryz.ntmps175
  go_wp2
  go_loopw [12] (fun i wr => ∃ k : Nat, k ≤ n ∧ i = .int .i64 k ∧ Hid (feC C most 0 n = feC C most k (n - k)) ∧ Hid (Below w.heap.size w wr)) (fun i _ => n - (intOf i).toNat)
  case atStart => exact ⟨0, Nat.zero_le _, rfl, rfl, hB0⟩
  case round =>
    obtain ⟨k, hk, rfl, hfe, hbw⟩ := hrel
    rcases Nat.lt_or_ge k n with hlt | hge
    · obtain ⟨bq, oq, x, rfl, hb, hx, hc⟩ := ISource.cells (IR.next HR.out hbw.out) hlt
      have hi0 : (k : Int) < n := by omega
      have HX := Lib.hid hx
      clear hx
      obtain ⟨l1, s1, g1⟩ := x
      obtain ⟨h0, h1, h2⟩ := hc
      rcases Nat.lt_or_ge k most with hm | hm
      · have hm0 : ¬ ((most : Int) ≤ (k : Int)) := by omega
        have hkc : (k : Int) ≤ (c : Int) := by omega
        have HN := Lib.hid (feC_next (C := C) (i := k) (m := n - k) hm (by omega))
        have HH := Lib.hid (feC_here (C := C) (i := k) (m := n - k) hm (by omega))
        have hcall := Lib.hid (fun W (hb : Below wr.heap.size wr W) => HP.out W k _ hm HX.out (below_next hbw.out hb) (IR.take (IR.next HR.out (below_next hbw.out hb)) (Nat.le_of_lt hlt)))
        have hEC := HC.out k
        generalize C k = q at *
        rcases hEC with rfl | ⟨j, hj, rfl⟩
        · have HN2 := Lib.hid (HN.out rfl)
          have e0 : erS ads 0 = .nilIface := rfl
          rw [e0] at hcall
          clear HN HH e0
          go_wp2_with fail
          have hBW : Below wr.heap.size wr (wr.alloc (.cells #[.int .i64 l1, .int .u32 s1, .int .u32 g1] 147)) := (Below.refl _ _).alloc (Nat.le_refl _) _
          have hcl : ∀ j v, (#[.int .i64 l1, .int .u32 s1, .int .u32 g1] : Array Value)[j]? = some v → (wr.alloc (.cells #[.int .i64 l1, .int .u32 s1, .int .u32 g1] 147)).cell? ⟨wr.heap.size, j, none⟩ = some v := fun j v hv => by rw [(Blk.new wr _ _).cell j]; exact hv
          generalize wr.alloc (.cells #[.int .i64 l1, .int .u32 s1, .int .u32 g1] 147) = W0 at *
          have k0 : ∀ W, Below W0.heap.size W0 W → W.cell? ⟨wr.heap.size, 0, none⟩ = some (.int .i64 l1) := fun W hb => (hb.cell (World.block_lt_of_cell? _ _ (hcl 0 _ rfl))).trans (hcl 0 _ rfl)
          have k1 : ∀ W, Below W0.heap.size W0 W → W.cell? ⟨wr.heap.size, 1, none⟩ = some (.int .u32 s1) := fun W hb => (hb.cell (World.block_lt_of_cell? _ _ (hcl 1 _ rfl))).trans (hcl 1 _ rfl)
          have k2 : ∀ W, Below W0.heap.size W0 W → W.cell? ⟨wr.heap.size, 2, none⟩ = some (.int .u32 g1) := fun W hb => (hb.cell (World.block_lt_of_cell? _ _ (hcl 2 _ rfl))).trans (hcl 2 _ rfl)
          have hcall2 := Lib.hid (fun W (hb : Below W0.heap.size W0 W) => hcall.out W (hBW.trans (hb.mono hBW.size)))
          clear hcl hcall h0 h1 h2
          have hS0 : Below W0.heap.size W0 W0.drew := (Below.refl _ _).drew
          go_region_held3 (fun w' => Below W0.heap.size W0 w')
            (first | with_reducible assumption | exact (Below.refl _ _).drew)
            (first | (go_at_fn g; refine (hcall2.out _ (by with_reducible assumption)).mono ?_; rintro e w1 ⟨rfl, hb1⟩; have hb2 := below_next (by with_reducible assumption) hb1))
          have HBx := Lib.hid (below_next hbw.out (hBW.trans (hb2.mono hBW.size)))
          clear hb1 hb2
          go_wp2
          go_roundw
          case rel => exact ⟨k + 1, by omega, by go_num, by rw [hfe.out, HN2.out, Nat.sub_sub]; rfl, HBx⟩
          case measure => simp [intOf]; omega
        · obtain ⟨a, _, ha⟩ := erS_at HS.out hj
          have hne : ¬ (101 + (j : Int) = 0) := by omega
          have HH2 := Lib.hid (HH.out hne)
          rw [ha] at hcall
          have HA := Lib.hid ha
          unfold ev at hcall
          clear HN HH hne ha
          go_wp2_with fail
          have hBW : Below wr.heap.size wr (wr.alloc (.cells #[.int .i64 l1, .int .u32 s1, .int .u32 g1] 147)) := (Below.refl _ _).alloc (Nat.le_refl _) _
          have hcl : ∀ j v, (#[.int .i64 l1, .int .u32 s1, .int .u32 g1] : Array Value)[j]? = some v → (wr.alloc (.cells #[.int .i64 l1, .int .u32 s1, .int .u32 g1] 147)).cell? ⟨wr.heap.size, j, none⟩ = some v := fun j v hv => by rw [(Blk.new wr _ _).cell j]; exact hv
          generalize wr.alloc (.cells #[.int .i64 l1, .int .u32 s1, .int .u32 g1] 147) = W0 at *
          have k0 : ∀ W, Below W0.heap.size W0 W → W.cell? ⟨wr.heap.size, 0, none⟩ = some (.int .i64 l1) := fun W hb => (hb.cell (World.block_lt_of_cell? _ _ (hcl 0 _ rfl))).trans (hcl 0 _ rfl)
          have k1 : ∀ W, Below W0.heap.size W0 W → W.cell? ⟨wr.heap.size, 1, none⟩ = some (.int .u32 s1) := fun W hb => (hb.cell (World.block_lt_of_cell? _ _ (hcl 1 _ rfl))).trans (hcl 1 _ rfl)
          have k2 : ∀ W, Below W0.heap.size W0 W → W.cell? ⟨wr.heap.size, 2, none⟩ = some (.int .u32 g1) := fun W hb => (hb.cell (World.block_lt_of_cell? _ _ (hcl 2 _ rfl))).trans (hcl 2 _ rfl)
          have hcall2 := Lib.hid (fun W (hb : Below W0.heap.size W0 W) => hcall.out W (hBW.trans (hb.mono hBW.size)))
          clear hcl hcall h0 h1 h2
          have hS0 : Below W0.heap.size W0 W0.drew := (Below.refl _ _).drew
          go_region_held3 (fun w' => Below W0.heap.size W0 w')
            (first | with_reducible assumption | exact (Below.refl _ _).drew)
            (first | (go_at_fn g; refine (hcall2.out _ (by with_reducible assumption)).mono ?_; rintro e w1 ⟨rfl, hb1⟩; have hb2 := below_next (by with_reducible assumption) hb1))
          have HBx := Lib.hid (below_next hbw.out (hBW.trans (hb2.mono hBW.size)))
          clear hb1 hb2
          go_wp2
          go_ret
          exact ⟨by rw [hfe.out, HH2.out, HA.out]; rfl, HBx.out⟩
      · have hm0 : ((most : Int) ≤ (k : Int)) := by omega
        have HM := Lib.hid (feC_many (C := C) (i := k) (m := n - k) hm (by omega))
        have hgl : wr.cell? ⟨5, 0, none⟩ = some (erS ads (101 + ((3 : Nat) : Int))) := erS_cell (HS.out.below hbw.out) (by decide) rfl
        have hgl2 := World.block_lt_of_cell? _ _ hgl
        have HBx := Lib.hid (below_next hbw.out ((Below.refl _ _).alloc (Nat.le_refl _) (.cells #[.int .i64 l1, .int .u32 s1, .int .u32 g1] 147)))
        generalize hE : erS ads (101 + ((3 : Nat) : Int)) = E at *
        have HE := Lib.hid hE
        clear hE
        go_wp2
        go_ret
        exact ⟨by rw [hfe.out, HM.out, ← HE.out]; rfl, HBx.out⟩
    · obtain rfl : k = n := by omega
      have HD := Lib.hid (feC_done C most k)
      go_wp2
      go_ret
      exact ⟨by rw [hfe.out, Nat.sub_self, HD.out]; rfl, hbw.out⟩
end Go.Proofs.YtdljpokhcfhhfaaGreatDoor
namespace Go.Proofs.YtdljpokhcfhhfaaGreatDoor
open Go.RowKit Go.Lib Lx
def IMember (w : World) (A : Option Addr) (n : Nat) (xs : List (Mb)) : Prop := IR CMember 4 w A n xs
theorem IMember.cells {w : World} {A : Option Addr} {n : Nat} {xs : List (Mb)} {i : Nat} (h : IMember w A n xs) (hi : i < n) : ∃ bq oq x, A = some ⟨bq, oq, none⟩ ∧ bq < w.heap.size ∧ xs[i]? = some x ∧ match x with | ⟨l1, g1, o1, A1, n1, c1, _xs1⟩ => w.cell? ⟨bq, oq + i * 4, none⟩ = some (.int .i64 l1) ∧ w.cell? ⟨bq, oq + i * 4 + 1, none⟩ = some (.int .u32 g1) ∧ w.cell? ⟨bq, oq + i * 4 + 2, none⟩ = some (.bool o1) ∧ w.cell? ⟨bq, oq + i * 4 + 3, none⟩ = some (.slice A1 n1 c1) := by
  obtain ⟨b, o, x, hA, hb, hx, hc⟩ := IR.at_ h hi
  refine ⟨b, o, x, hA, hb, hx, ?_⟩
  obtain ⟨l1, g1, o1, A1, n1, c1, _xs1⟩ := x
  exact ⟨hc 0 _ rfl, hc 1 _ rfl, hc 2 _ rfl, hc 3 _ rfl⟩
set_option maxHeartbeats 1000000 in
theorem feMember (g : Nat) (lb : Array Value) (eg : ∀ args w, (callFunc g args).run Tryz.prog w = .ok (.enter g args) w) (ads : List Addr) (C : Nat → Int) (most : Nat) (hC : ∀ i, IsC (C i)) (A : Option Addr) (n c : Nat) (xs : List (Mb)) (w : World) (hr : IMember w A n xs) (hn : n ≤ 1000000) (hnc : n ≤ c) (_hmost : most ≤ 1000) (hS : EnvC ads w)
    (hp : ∀ (W : World) (i : Nat) (x : Mb), i < most → xs[i]? = some x → Below w.heap.size w W → IMember W A i (xs.take i) → Calls Tryz.prog g (#[VMember x, .slice A i c] ++ lb) W fun e w' => e = .returned (erS ads (C i)) ∧ Below W.heap.size W w') :
    Calls Tryz.prog 179 #[.slice A n c, .int .i64 most, .func (.func g) #[] lb] w fun e w' => e = .returned (erS ads (feC C most 0 n)) ∧ Below w.heap.size w w' := by
  have HP := Lib.hid hp
  have HR := Lib.hid hr
  have hB0 := Lib.hid (Below.refl w.heap.size w)
  have HS := Lib.hid hS
  have HC := Lib.hid hC
  clear hp hr hS hC
  go_enter Tryz.func179, Tryz.ntmps179
  go_wp2
  go_loopw [12] (fun i wr => ∃ k : Nat, k ≤ n ∧ i = .int .i64 k ∧ Hid (feC C most 0 n = feC C most k (n - k)) ∧ Hid (Below w.heap.size w wr)) (fun i _ => n - (intOf i).toNat)
  case atStart => exact ⟨0, Nat.zero_le _, rfl, rfl, hB0⟩
  case round =>
    obtain ⟨k, hk, rfl, hfe, hbw⟩ := hrel
    rcases Nat.lt_or_ge k n with hlt | hge
    · obtain ⟨bq, oq, x, rfl, hb, hx, hc⟩ := IMember.cells (IR.next HR.out hbw.out) hlt
      have hi0 : (k : Int) < n := by omega
      have HX := Lib.hid hx
      clear hx
      obtain ⟨l1, g1, o1, A1, n1, c1, _xs1⟩ := x
      obtain ⟨h0, h1, h2, h3⟩ := hc
      rcases Nat.lt_or_ge k most with hm | hm
      · have hm0 : ¬ ((most : Int) ≤ (k : Int)) := by omega
        have hkc : (k : Int) ≤ (c : Int) := by omega
        have HN := Lib.hid (feC_next (C := C) (i := k) (m := n - k) hm (by omega))
        have HH := Lib.hid (feC_here (C := C) (i := k) (m := n - k) hm (by omega))
        have hcall := Lib.hid (fun W (hb : Below wr.heap.size wr W) => HP.out W k _ hm HX.out (below_next hbw.out hb) (IR.take (IR.next HR.out (below_next hbw.out hb)) (Nat.le_of_lt hlt)))
        have hEC := HC.out k
        generalize C k = q at *
        rcases hEC with rfl | ⟨j, hj, rfl⟩
        · have HN2 := Lib.hid (HN.out rfl)
          have e0 : erS ads 0 = .nilIface := rfl
          rw [e0] at hcall
          clear HN HH e0
          go_wp2_with fail
          have hBW : Below wr.heap.size wr (wr.alloc (.cells #[.int .i64 l1, .int .u32 g1, .bool o1, .slice A1 n1 c1] 115)) := (Below.refl _ _).alloc (Nat.le_refl _) _
          have hcl : ∀ j v, (#[.int .i64 l1, .int .u32 g1, .bool o1, .slice A1 n1 c1] : Array Value)[j]? = some v → (wr.alloc (.cells #[.int .i64 l1, .int .u32 g1, .bool o1, .slice A1 n1 c1] 115)).cell? ⟨wr.heap.size, j, none⟩ = some v := fun j v hv => by rw [(Blk.new wr _ _).cell j]; exact hv
          generalize wr.alloc (.cells #[.int .i64 l1, .int .u32 g1, .bool o1, .slice A1 n1 c1] 115) = W0 at *
          have k0 : ∀ W, Below W0.heap.size W0 W → W.cell? ⟨wr.heap.size, 0, none⟩ = some (.int .i64 l1) := fun W hb => (hb.cell (World.block_lt_of_cell? _ _ (hcl 0 _ rfl))).trans (hcl 0 _ rfl)
          have k1 : ∀ W, Below W0.heap.size W0 W → W.cell? ⟨wr.heap.size, 1, none⟩ = some (.int .u32 g1) := fun W hb => (hb.cell (World.block_lt_of_cell? _ _ (hcl 1 _ rfl))).trans (hcl 1 _ rfl)
          have k2 : ∀ W, Below W0.heap.size W0 W → W.cell? ⟨wr.heap.size, 2, none⟩ = some (.bool o1) := fun W hb => (hb.cell (World.block_lt_of_cell? _ _ (hcl 2 _ rfl))).trans (hcl 2 _ rfl)
          have k3 : ∀ W, Below W0.heap.size W0 W → W.cell? ⟨wr.heap.size, 3, none⟩ = some (.slice A1 n1 c1) := fun W hb => (hb.cell (World.block_lt_of_cell? _ _ (hcl 3 _ rfl))).trans (hcl 3 _ rfl)
          have hcall2 := Lib.hid (fun W (hb : Below W0.heap.size W0 W) => hcall.out W (hBW.trans (hb.mono hBW.size)))
          clear hcl hcall h0 h1 h2 h3
          have hS0 : Below W0.heap.size W0 W0.drew := (Below.refl _ _).drew
          go_region_held3 (fun w' => Below W0.heap.size W0 w')
            (first | with_reducible assumption | exact (Below.refl _ _).drew)
            (first | (go_at_fn g; refine (hcall2.out _ (by with_reducible assumption)).mono ?_; rintro e w1 ⟨rfl, hb1⟩; have hb2 := below_next (by with_reducible assumption) hb1))
          have HBx := Lib.hid (below_next hbw.out (hBW.trans (hb2.mono hBW.size)))
          clear hb1 hb2
          go_wp2
          go_roundw
          case rel => exact ⟨k + 1, by omega, by go_num, by rw [hfe.out, HN2.out, Nat.sub_sub]; rfl, HBx⟩
          case measure => simp [intOf]; omega
        · obtain ⟨a, _, ha⟩ := erS_at HS.out hj
          have hne : ¬ (101 + (j : Int) = 0) := by omega
          have HH2 := Lib.hid (HH.out hne)
          rw [ha] at hcall
          have HA := Lib.hid ha
          unfold ev at hcall
          clear HN HH hne ha
          go_wp2_with fail
          have hBW : Below wr.heap.size wr (wr.alloc (.cells #[.int .i64 l1, .int .u32 g1, .bool o1, .slice A1 n1 c1] 115)) := (Below.refl _ _).alloc (Nat.le_refl _) _
          have hcl : ∀ j v, (#[.int .i64 l1, .int .u32 g1, .bool o1, .slice A1 n1 c1] : Array Value)[j]? = some v → (wr.alloc (.cells #[.int .i64 l1, .int .u32 g1, .bool o1, .slice A1 n1 c1] 115)).cell? ⟨wr.heap.size, j, none⟩ = some v := fun j v hv => by rw [(Blk.new wr _ _).cell j]; exact hv
          generalize wr.alloc (.cells #[.int .i64 l1, .int .u32 g1, .bool o1, .slice A1 n1 c1] 115) = W0 at *
          have k0 : ∀ W, Below W0.heap.size W0 W → W.cell? ⟨wr.heap.size, 0, none⟩ = some (.int .i64 l1) := fun W hb => (hb.cell (World.block_lt_of_cell? _ _ (hcl 0 _ rfl))).trans (hcl 0 _ rfl)
          have k1 : ∀ W, Below W0.heap.size W0 W → W.cell? ⟨wr.heap.size, 1, none⟩ = some (.int .u32 g1) := fun W hb => (hb.cell (World.block_lt_of_cell? _ _ (hcl 1 _ rfl))).trans (hcl 1 _ rfl)
          have k2 : ∀ W, Below W0.heap.size W0 W → W.cell? ⟨wr.heap.size, 2, none⟩ = some (.bool o1) := fun W hb => (hb.cell (World.block_lt_of_cell? _ _ (hcl 2 _ rfl))).trans (hcl 2 _ rfl)
          have k3 : ∀ W, Below W0.heap.size W0 W → W.cell? ⟨wr.heap.size, 3, none⟩ = some (.slice A1 n1 c1) := fun W hb => (hb.cell (World.block_lt_of_cell? _ _ (hcl 3 _ rfl))).trans (hcl 3 _ rfl)
          have hcall2 := Lib.hid (fun W (hb : Below W0.heap.size W0 W) => hcall.out W (hBW.trans (hb.mono hBW.size)))
          clear hcl hcall h0 h1 h2 h3
          have hS0 : Below W0.heap.size W0 W0.drew := (Below.refl _ _).drew
          go_region_held3 (fun w' => Below W0.heap.size W0 w')
            (first | with_reducible assumption | exact (Below.refl _ _).drew)
            (first | (go_at_fn g; refine (hcall2.out _ (by with_reducible assumption)).mono ?_; rintro e w1 ⟨rfl, hb1⟩; have hb2 := below_next (by with_reducible assumption) hb1))
          have HBx := Lib.hid (below_next hbw.out (hBW.trans (hb2.mono hBW.size)))
          clear hb1 hb2
          go_wp2
          go_ret
          exact ⟨by rw [hfe.out, HH2.out, HA.out]; rfl, HBx.out⟩
      · have hm0 : ((most : Int) ≤ (k : Int)) := by omega
        have HM := Lib.hid (feC_many (C := C) (i := k) (m := n - k) hm (by omega))
        have hgl : wr.cell? ⟨5, 0, none⟩ = some (erS ads (101 + ((3 : Nat) : Int))) := erS_cell (HS.out.below hbw.out) (by decide) rfl
        have hgl2 := World.block_lt_of_cell? _ _ hgl
        have HBx := Lib.hid (below_next hbw.out ((Below.refl _ _).alloc (Nat.le_refl _) (.cells #[.int .i64 l1, .int .u32 g1, .bool o1, .slice A1 n1 c1] 115)))
        generalize hE : erS ads (101 + ((3 : Nat) : Int)) = E at *
        have HE := Lib.hid hE
        clear hE
        go_wp2
        go_ret
        exact ⟨by rw [hfe.out, HM.out, ← HE.out]; rfl, HBx.out⟩
    · obtain rfl : k = n := by omega
      have HD := Lib.hid (feC_done C most k)
      go_wp2
      go_ret
      exact ⟨by rw [hfe.out, Nat.sub_self, HD.out]; rfl, hbw.out⟩
end Go.Proofs.YtdljpokhcfhhfaaGreatDoor
namespace Go.Proofs.YtdljpokhcfhhfaaGreatDoor
open Go.RowKit Go.Lib Lx
def IAddr (w : World) (A : Option Addr) (n : Nat) (xs : List (Int)) : Prop := IR CAddr 1 w A n xs
theorem IAddr.cells {w : World} {A : Option Addr} {n : Nat} {xs : List (Int)} {i : Nat} (h : IAddr w A n xs) (hi : i < n) : ∃ bq oq x, A = some ⟨bq, oq, none⟩ ∧ bq < w.heap.size ∧ xs[i]? = some x ∧ match x with | a1 => w.cell? ⟨bq, oq + i, none⟩ = some (.int .u32 a1) := by
  obtain ⟨b, o, x, hA, hb, hx, hc⟩ := IR.at_ h hi
  refine ⟨b, o, x, hA, hb, hx, ?_⟩
  have := hc 0 _ rfl; simpa using this
set_option maxHeartbeats 1000000 in
theorem idxAddr (g : Nat) (lb : Array Value) (eg : ∀ args w, (callFunc g args).run Tryz.prog w = .ok (.enter g args) w) (p : Int → Bool) (A : Option Addr) (n c : Nat) (xs : List (Int)) (w : World) (hr : IAddr w A n xs) (hn : n ≤ 1000000)
    (hp : ∀ (W : World) (i : Nat) (x : Int), xs[i]? = some x → Below w.heap.size w W → Calls Tryz.prog g (#[VAddr x] ++ lb) W fun e w' => e = .returned (.bool (p x)) ∧ Below W.heap.size W w') :
    Calls Tryz.prog 118 #[.slice A n c, .func (.func g) #[] lb] w fun e w' => e = .returned (.int .i64 (idxI p xs)) ∧ Below w.heap.size w w' := by
  have HP := Lib.hid hp
  have HR := Lib.hid hr
  have hB0 := Lib.hid (Below.refl w.heap.size w)
  clear hp hr
  go_enter Tryz.func118, Tryz.ntmps118
  go_wp2
  go_loopw [8] (fun i wr => ∃ k : Nat, k ≤ n ∧ i = .int .i64 k ∧ Hid (∀ (j : Nat) x, j < k → xs[j]? = some x → p x = false) ∧ Hid (Below w.heap.size w wr)) (fun i _ => n - (intOf i).toNat)
  case atStart => exact ⟨0, Nat.zero_le _, rfl, fun j x hj => absurd hj (Nat.not_lt_zero _), hB0⟩
  case round =>
    obtain ⟨k, hk, rfl, hno, hbw⟩ := hrel
    rcases Nat.lt_or_ge k n with hlt | hge
    · obtain ⟨bq, oq, x, rfl, hb, hx, hc⟩ := IAddr.cells (IR.next HR.out hbw.out) hlt
      have hcall := Lib.hid (HP.out wr k x hx hbw.out)
      have hi0 : (k : Int) < n := by omega
      have HX := Lib.hid hx
      clear hx
      cases hq : p x with
      | true =>
        have HQ := Lib.hid hq
        rw [hq] at hcall
        clear hq
        go_wp2_with (go_at_fn g; refine hcall.out.mono ?_; rintro e w1 ⟨rfl, hb1⟩; have HB1 := Lib.hid (below_next hbw.out hb1); clear hb1)
        go_ret
        refine ⟨ret_int ?_, HB1.out⟩
        rw [idxI_hit xs k _ HX.out HQ.out hno.out]
      | false =>
        have HQ := Lib.hid hq
        rw [hq] at hcall
        clear hq
        go_wp2_with (go_at_fn g; refine hcall.out.mono ?_; rintro e w1 ⟨rfl, hb1⟩; have HB1 := Lib.hid (below_next hbw.out hb1); clear hb1)
        go_roundw
        case rel => exact ⟨k + 1, by omega, by go_num, (show Hid _ from fun j y hj hy => by
            by_cases e : j = k
            · subst e; rw [HX.out] at hy; injection hy with hy; rw [← hy]; exact HQ.out
            · exact hno.out j y (by omega) hy), HB1⟩
        case measure => simp [intOf]; omega
    · obtain rfl : k = n := by omega
      have HE := Lib.hid (idxI_none xs (p := p) fun j x hx => hno.out j x (by have := (List.getElem?_eq_some_iff.1 hx).1; rw [HR.out.len] at this; exact this) hx)
      clear hno
      go_wp2
      go_ret
      refine ⟨ret_int ?_, hbw.out⟩
      rw [HE.out]
theorem hasAddr (g : Nat) (lb : Array Value) (eg : ∀ args w, (callFunc g args).run Tryz.prog w = .ok (.enter g args) w) (p : Int → Bool) (A : Option Addr) (n c : Nat) (xs : List (Int)) (w : World) (hr : IAddr w A n xs) (hn : n ≤ 1000000)
    (hp : ∀ (W : World) (i : Nat) (x : Int), xs[i]? = some x → Below w.heap.size w W → Calls Tryz.prog g (#[VAddr x] ++ lb) W fun e w' => e = .returned (.bool (p x)) ∧ Below W.heap.size W w') :
    Calls Tryz.prog 67 #[.slice A n c, .func (.func g) #[] lb] w fun e w' => e = .returned (.bool (xs.any p)) ∧ Below w.heap.size w w' := by
  have H := Lib.hid (idxAddr g lb eg p A n c xs w hr hn hp)
  have HA := Lib.hid (idxI_any (p := p) xs)
  clear hp hr
  generalize idxI p xs = v at *
  generalize xs.any p = r at *
  go_enter Tryz.func67, Tryz.ntmps67
  go_wp2_with (go_at_call 118; refine H.out.mono ?_; rintro e w1 ⟨rfl, hb1⟩)
  go_ret
  exact ⟨ret_bool HA.out, hb1⟩
end Go.Proofs.YtdljpokhcfhhfaaGreatDoor

