/- slices.Contains at ints, cmp.Or of two addresses; over the seat's program. rpf's walk: from a router to the next one, as long as there is one; over the seat's program. rpf.To: a router's step towards an address; over the seat's program. rpf.To: a router's step towards an address; over the seat's program. rpf's next: the router to which a router's step leads; over the seat's program. rpf.Chain: the routers from one on towards an address; over the seat's program. -/
import Derived.Test.YtojahaphkjdenaaGreatDoorKit
import Derived.Test.YtojahaphkjdenaaGreatDoorOn
import Derived.Test.YtojahaphkjdenaaGreatDoorCf
import Derived.Handy
import Derived.Deep.Cut
import Derived.Test.YtojahaphkjdenaaGreatDoorEa
import Derived.Test.YtojahaphkjdenaaGreatDoorCl0
import Derived.Test.YtojahaphkjdenaaGreatDoorRb
import Derived.Deep.RegionHeld3
namespace Go.Proofs.YtojahaphkjdenaaGreatDoor
open Go.RowKit Lx Sm
set_option maxHeartbeats 2000000 in
theorem ixof_any (A : Option Addr) (n c : Nat) (xs : List Int) (v : Int) (w : World) (hj : JR w A n xs) (hn : n ≤ 1000000) :
    Calls Tryz.prog 163 #[.slice A n c, .int .i64 v] w fun e w' => e = .returned (.int .i64 (idxI (fun x => v == x) xs)) ∧ Below w.heap.size w w' := by
  have HJ := Lib.hid hj
  have HL := Lib.hid hj.1
  have hB0 := Lib.hid (Below.refl w.heap.size w)
  clear hj
  go_enter Tryz.func163, Tryz.ntmps163
  go_wp2
  go_loopw [8] (fun i wr => ∃ k : Nat, k ≤ n ∧ i = .int .i64 k ∧ Hid (∀ (j : Nat) x, j < k → xs[j]? = some x → (v == x) = false) ∧ Hid (Below w.heap.size w wr)) (fun i _ => n - (intOf i).toNat)
  case atStart => exact ⟨0, Nat.zero_le _, rfl, Lib.hid (fun j x hj => absurd hj (Nat.not_lt_zero _)), hB0⟩
  case round =>
    obtain ⟨k, hk, rfl, hno, hbw⟩ := hrel
    rcases Nat.lt_or_ge k n with hlt | hge
    · obtain ⟨bq, oq, rfl, hb, hc⟩ := (HJ.out.next hbw.out).at_ hlt
      have hi0 : (k : Int) < (n : Int) := by omega
      have HX : Hid (xs[k]? = some (xs.getD k 0)) := Lib.hid (by
        rw [List.getElem?_eq_getElem (by have := HL.out; omega)]
        simp [List.getD, show k < xs.length by have := HL.out; omega])
      generalize xs.getD k 0 = y at *
      by_cases hv : v = y
      · have hv2 : (v == y) = true := by simpa using hv
        have HQ := Lib.hid hv2
        clear hv
        go_wp2
        go_ret
        refine ⟨ret_int ?_, hbw.out⟩
        rw [idxI_hit xs k y HX.out HQ.out hno.out]
      · have hv2 : (v == y) = false := by simpa using hv
        have HQ := Lib.hid hv2
        clear hv
        go_wp2
        go_roundw
        case rel => exact ⟨k + 1, by omega, by go_num, (show Hid _ from fun j z hj hz => by
            by_cases e : j = k
            · subst e; rw [HX.out] at hz; injection hz with hz; rw [← hz]; exact HQ.out
            · exact hno.out j z (by omega) hz), hbw⟩
        case measure => simp [intOf]; omega
    · obtain rfl : k = n := by omega
      have hi0 : ¬ ((k : Int) < (k : Int)) := by omega
      go_wp2
      go_ret
      refine ⟨ret_int ?_, hbw.out⟩
      rw [idxI_none xs (fun j x hx => hno.out j x (by have := (List.getElem?_eq_some_iff.1 hx).1; have := HL.out; omega) hx)]
theorem has_any (A : Option Addr) (n c : Nat) (xs : List Int) (v : Int) (w : World) (hj : JR w A n xs) (hn : n ≤ 1000000) :
    Calls Tryz.prog 94 #[.slice A n c, .int .i64 v] w fun e w' => e = .returned (.bool (xs.any (fun x => v == x))) ∧ Below w.heap.size w w' := by
  have HI := Lib.hid (ixof_any A n c xs v w hj hn)
  have HB := Lib.hid (idxI_any (p := fun x => v == x) xs)
  generalize idxI (fun x => v == x) xs = I at *
  rw [← HB.out]
  clear hj
  go_enter Tryz.func94, Tryz.ntmps94
  go_wp2_with (go_at_call 163; refine HI.out.mono ?_; rintro e w1 ⟨rfl, hb⟩; have HB1 := Lib.hid hb; clear hb)
  go_ret
  exact ⟨rfl, HB1.out⟩
set_option maxHeartbeats 2000000 in
theorem or2_any (a b : Int) (g : Nat) (t : TypeId) (w : World) (hb : Blk w g t #[.int .u32 a, .int .u32 b]) :
    Calls Tryz.prog 96 #[.slice (some ⟨g, 0, none⟩) 2 2] w fun e w' => e = .returned (.int .u32 (if a = 0 then b else a)) ∧ Below w.heap.size w w' := by
  have c0 : w.cell? ⟨g, 0, none⟩ = some (.int .u32 a) := hb.cell 0
  have c1 : w.cell? ⟨g, 1, none⟩ = some (.int .u32 b) := hb.cell 1
  clear hb
  by_cases ha : a = 0
  · subst ha
    rw [if_pos rfl]
    by_cases hb0 : b = 0
    · subst hb0
      go_enter Tryz.func96, Tryz.ntmps96
      go_wp2
      go_rounds 3
      go_ret
      exact ⟨rfl, Below.refl _ _⟩
    · have e1 : (b != 0) = true := by simpa using hb0
      go_enter Tryz.func96, Tryz.ntmps96
      go_wp2
      go_rounds 3
      go_ret
      exact ⟨rfl, Below.refl _ _⟩
  · rw [if_neg ha]
    have e1 : (a != 0) = true := by simpa using ha
    go_enter Tryz.func96, Tryz.ntmps96
    go_wp2
    go_rounds 3
    go_ret
    exact ⟨rfl, Below.refl _ _⟩
end Go.Proofs.YtojahaphkjdenaaGreatDoor
namespace Go.Proofs.YtojahaphkjdenaaGreatDoor
open Go.RowKit Lx Sm
/-- the way from a router on, and whether it comes to one again -/
def wlkP (N : Int → Int) : Nat → List Int → Int → List Int × Bool
  | 0, L, _ => (L, true)
  | k + 1, L, q => if q = -1 then (L, false) else if L.any (fun x => q == x) = true then (L, true) else wlkP N k (L ++ [q]) (N q)
/-- as many as there may be -/
theorem few {L : List Int} {b : Nat} (hn : L.Nodup) (hb : ∀ x ∈ L, 0 ≤ x ∧ x < (b : Int)) : L.length ≤ b := by
  have h1 : (L.map Int.toNat).Nodup := by
    unfold List.Nodup
    rw [List.pairwise_map]
    refine List.Pairwise.imp_of_mem ?_ hn
    intro x y hx hy hne e
    have := hb x hx
    have := hb y hy
    omega
  have h2 := len_le (r := List.range b) h1 (fun i hi => by
    obtain ⟨x, hx, rfl⟩ := List.mem_map.1 hi
    have := hb x hx
    exact List.mem_range.2 (by omega))
  simpa using h2
def lenOf : Value → Nat
  | .slice _ n _ => n
  | _ => 0
set_option maxHeartbeats 4000000 in
set_option maxRecDepth 100000 in
theorem pwalk_any (g : Nat) (lb : Array Value) (eg : ∀ args w, (callFunc g args).run Tryz.prog w = .ok (.enter g args) w) (N : Int → Int) (b : Nat) (hb6 : b ≤ 100000) (q0 : Int) (w : World) (hq : q0 = -1 ∨ 0 ≤ q0 ∧ q0 < (b : Int)) (hN : ∀ q, 0 ≤ q → q < (b : Int) → N q = -1 ∨ 0 ≤ N q ∧ N q < (b : Int))
    (hp : ∀ (W : World) (q : Int), 0 ≤ q → q < (b : Int) → Below w.heap.size w W → Calls Tryz.prog g (#[.int .i64 q] ++ lb) W fun e w' => e = .returned (.int .i64 (N q)) ∧ Below W.heap.size W w') :
    Calls Tryz.prog 97 #[.int .i64 q0, .func (.func g) #[] lb] w fun e w' => ∃ A c, e = .returned (.tuple #[.slice A (wlkP N (b + 1) [] q0).1.length c, .bool (wlkP N (b + 1) [] q0).2]) ∧ JR w' A (wlkP N (b + 1) [] q0).1.length (wlkP N (b + 1) [] q0).1 ∧ Below w.heap.size w w' := by
  obtain ⟨i0, hi, hz0, hz1, hz2⟩ := info_parts info_int
  have HP := Lib.hid hp
  have HN := Lib.hid hN
  have hB0 := Lib.hid (Below.refl w.heap.size w)
  clear hp hN
  go_enter Tryz.func97, Tryz.ntmps97
  go_wp2
  go_loopw [0, 4] (fun q v wr => ∃ (L : List Int) (x : Int), q = .int .i64 x ∧ (∃ A c, v = .slice A L.length c) ∧ Hid (wlkP N (b + 1 - L.length) L x = wlkP N (b + 1) [] q0) ∧ Hid (L.Nodup ∧ (∀ y ∈ L, 0 ≤ y ∧ y < (b : Int)) ∧ (x = -1 ∨ 0 ≤ x ∧ x < (b : Int))) ∧ Hid (wr.ownsRow w.heap.size 3 1 v L.length (I64 L)) ∧ Hid (Below w.heap.size w wr)) (fun _ v _ => b + 1 - lenOf v)
  case atStart => exact ⟨[], q0, rfl, ⟨none, 0, rfl⟩, rfl, ⟨List.nodup_nil, fun y hy => (by cases hy), hq⟩, Lib.hid (by simpa [I64] using World.ownsRow_nil _ _ _ _), hB0⟩
  case round =>
    obtain ⟨L, x, rfl, ⟨A, c, rfl⟩, HW, HL, HO, HB⟩ := hrel
    have hll := few HL.out.1 HL.out.2.1
    have HW2 : Hid (wlkP N ((b - L.length) + 1) L x = wlkP N (b + 1) [] q0) := Lib.hid (by rw [← HW.out]; congr 1; omega)
    by_cases hx : x = -1
    · subst hx
      have e0 : ((-1 : Int) != -1) = false := by decide
      have hr : wlkP N (b + 1) [] q0 = (L, false) := by rw [← HW2.out]; unfold wlkP; rw [if_pos rfl]
      obtain ⟨A', c', e', hj'⟩ := own_jr HO.out
      cases e'
      have HJ' := Lib.hid hj'
      have HR := Lib.hid hr
      clear hj' hr
      go_wp2
      go_ret2
      rw [HR.out]
      first | exact ⟨A, c, rfl, HJ'.out, HB.out⟩ | exact ⟨A, ⟨c, rfl⟩, HJ'.out, HB.out⟩
    · have e0 : (x != -1) = true := by simpa using hx
      have hxb := HL.out.2.2.resolve_left hx
      obtain ⟨A', c', e', hj'⟩ := own_jr HO.out
      cases e'
      have HJ' := Lib.hid hj'
      have HC := Lib.hid (has_any A L.length c L x wr hj' (by omega))
      clear hj'
      cases hin : L.any (fun y => x == y) with
      | true =>
        rw [hin] at HC
        have hr : wlkP N (b + 1) [] q0 = (L, true) := by rw [← HW2.out]; unfold wlkP; rw [if_neg hx, if_pos hin]
        have HR := Lib.hid hr
        clear hr hin hx
        go_wp2_with (go_at_call 94; refine HC.out.mono ?_; rintro e w1 ⟨rfl, hb1⟩; have HB1 := Lib.hid hb1; clear hb1)
        go_ret2
        rw [HR.out]
        first | exact ⟨A, c, rfl, HJ'.out.next HB1.out, below_next HB.out HB1.out⟩ | exact ⟨A, ⟨c, rfl⟩, HJ'.out.next HB1.out, below_next HB.out HB1.out⟩
      | false =>
        rw [hin] at HC
        have hr : wlkP N (b - L.length) (L ++ [x]) (N x) = wlkP N (b + 1) [] q0 := by
          rw [← HW2.out]
          conv => rhs; unfold wlkP
          rw [if_neg hx, if_neg (by rw [hin]; decide)]
        have HR := Lib.hid hr
        have hni : x ∉ L := fun hm => by
          have : L.any (fun y => x == y) = true := List.any_eq_true.2 ⟨x, hm, by simp⟩
          rw [hin] at this
          cases this
        have hl2 : L.length < b := by
          have h1 : (L ++ [x]).Nodup := by
            rw [List.nodup_append]
            exact ⟨HL.out.1, by simp, fun y hy z hz e => hni (by rw [List.mem_singleton.1 hz] at e; exact e ▸ hy)⟩
          have := few (b := b) h1 (fun y hy => by
            rcases List.mem_append.1 hy with h | h
            · exact HL.out.2.1 y h
            · rw [List.mem_singleton.1 h]; exact hxb)
          rw [List.length_append] at this
          simp at this
          omega
        have HL2 : Hid ((L ++ [x]).Nodup ∧ (∀ y ∈ L ++ [x], 0 ≤ y ∧ y < (b : Int)) ∧ (N x = -1 ∨ 0 ≤ N x ∧ N x < (b : Int))) := Lib.hid ⟨by
            rw [List.nodup_append]
            exact ⟨HL.out.1, by simp, fun y hy z hz e => hni (by rw [List.mem_singleton.1 hz] at e; exact e ▸ hy)⟩, fun y hy => by
            rcases List.mem_append.1 hy with h | h
            · exact HL.out.2.1 y h
            · rw [List.mem_singleton.1 h]; exact hxb, HN.out x hxb.1 hxb.2⟩
        clear hr hin hx hni
        go_upto_region 5 with (go_at_call 94; refine HC.out.mono ?_; rintro e w1 ⟨rfl, hb1⟩; have HB1 := Lib.hid (below_next HB.out hb1); have HO1 := Lib.hid (ownk_next HO.out hb1); clear hb1)
        go_upto_region 2 with (at_builtin; refine wpList_append_own _ rfl _ _ 45 rfl w.heap.size 3 i0 (.int .i64 0) 1 8 Tryz.underlying45 hi hz0 hz1 hz2 rfl (by decide) _ L.length (I64 L) rfl (HO1.out.alloc _) ⟨w1.heap.size, 0, none⟩ 1 1 [.int .i64 x] rfl rfl (cell_one_new _ _ _) (by intro u hu; simp at hu; subst hu; rfl) (by unfold maxLen; omega) (by omega) (by have := HB1.out.size; simp; omega) ?_; intro v' wz hown1 hgrow1 _)
        have hbz : Below w.heap.size w wz := (HB1.out.alloc HB1.out.size _).grown hgrow1 (by have := HB1.out.size; simp; omega) (fun j e => (HO1.out.lt j e).1)
        have hown2 : wz.ownsRow w.heap.size 3 1 v' (L ++ [x]).length (I64 (L ++ [x])) := by rw [I64_app, List.length_append]; exact hown1
        obtain ⟨A2, c2, rfl, _⟩ := own_jr hown2
        have HO2 := Lib.hid hown2
        have HB2 := Lib.hid hbz
        have HCL := Lib.hid (HP.out wz x hxb.1 hxb.2 hbz)
        clear hown1 hown2 hgrow1 hbz
        go_wp2_with (go_at_fn g; refine HCL.out.mono ?_; rintro e w2 ⟨rfl, hb2⟩; have HB3 := Lib.hid (below_next HB2.out hb2); have HO3 := Lib.hid (ownk_next HO2.out hb2); clear hb2)
        simp only [List.length_append, List.length_cons, List.length_nil, Nat.zero_add] at HO3
        go_roundw
        case rel => exact ⟨L ++ [x], N x, rfl, ⟨A2, c2, by rw [List.length_append]; rfl⟩, Lib.hid (by rw [← HR.out, List.length_append]; congr 1; simp), HL2, Lib.hid (by rw [List.length_append]; exact HO3.out), HB3⟩
        case measure => simp [lenOf]; omega
end Go.Proofs.YtojahaphkjdenaaGreatDoor
namespace Go.Proofs.YtojahaphkjdenaaGreatDoor
open Go.RowKit Lx Sm Go.Maps
/-- of another router on a link the port of an address; -1: none -/
def upN (x : Cfg) (r l a : Int) : Int := match lastAt a x.ps x.ps.length with
  | some o => if (oth x.ps r l).any (fun y => ((o : Nat) : Int) == y) = true then (o : Int) else -1
  | none => -1
/-- is an address one of a router's own? -/
def mine (x : Cfg) (r a : Int) : Bool := match lastAt a x.ps x.ps.length with
  | some o => (portsOf x r).any (fun y => ((o : Nat) : Int) == y)
  | none => false
def portAt (x : Cfg) (p : Int) : Int × Int × Int := (x.ps[p.toNat]?).getD (0, 0, 0)
/-- a router's step: In, Up, Cost, There; whether there is one -/
def toA (x : Cfg) (r a : Int) : (Int × Int × Int × Bool) × Bool :=
  if mine x r a = true then ((-1, -1, 0, true), true)
  else if (lookA x r a).2 = true then (((lookA x r a).1.1, upN x (portAt x (lookA x r a).1.1).1 (portAt x (lookA x r a).1.1).2.1 (if (lookA x r a).1.2.1 = 0 then a else (lookA x r a).1.2.1), (lookA x r a).1.2.2, decide ((lookA x r a).1.2.1 = 0)), true)
  else ((0, 0, 0, false), false)
theorem rlook_in {x : Cfg} {r : Int} : ∀ (k : Nat) (a v c : Int) (q : Int × Int × Int), lookP x r k a v c = some q → q.1 ∈ portsOf x r
  | 0, _, _, _, _, h => by cases h
  | k + 1, a, v, c, q, h => by
    have key : ∀ p l, (nearP x r a).1 = p :: l → p ∈ portsOf x r := fun p l e => by
      have hm : p ∈ (longP (preP x) a (portsOf x r) [] 0).1 := by
        have : (nearP x r a).1 = (longP (preP x) a (portsOf x r) [] 0).1 := rfl
        rw [← this, e]; exact List.mem_cons_self ..
      rcases longP_mem _ _ _ _ _ _ hm with h | h
      · exact h
      · cases h
    by_cases hf : (farP x r a).1 = []
    · by_cases hn : (nearP x r a).1 = [] ∨ (nearP x r a).2 < (farP x r a).2
      · rw [look_none hn hf] at h; cases h
      · obtain ⟨p, l, e⟩ : ∃ p l, (nearP x r a).1 = p :: l := by
          cases hc : (nearP x r a).1 with
          | nil => exact absurd (.inl hc) hn
          | cons p l => exact ⟨p, l, rfl⟩
        rw [look_near (nb := (nearP x r a).2) (Prod.ext e rfl) (by have := fun h => hn (.inr h); omega)] at h
        cases h
        exact key p l e
    · by_cases hn : (nearP x r a).1 = [] ∨ (nearP x r a).2 < (farP x r a).2
      · rw [look_far hn hf] at h
        exact rlook_in k _ _ _ _ h
      · obtain ⟨p, l, e⟩ : ∃ p l, (nearP x r a).1 = p :: l := by
          cases hc : (nearP x r a).1 with
          | nil => exact absurd (.inl hc) hn
          | cons p l => exact ⟨p, l, rfl⟩
        rw [look_near (nb := (nearP x r a).2) (Prod.ext e rfl) (by have := fun h => hn (.inr h); omega)] at h
        cases h
        exact key p l e
section
variable {b : Nat} {T : TP} {x : Cfg} {gs : List Int}
set_option maxHeartbeats 4000000 in
set_option maxRecDepth 100000 in
theorem otherAt_any (p lN : Nat) (r1 a1 : Int) (hp : x.ps[p]? = some (r1, (lN : Int), a1)) (hlN : lN < x.ls.length) (a : Int) (ha : U32 a) (w : World) (h : TW w b T x gs) :
    Calls Tryz.prog 95 #[.pointer (some ⟨T.N, 0, none⟩), .int .i64 (p : Int), .int .u32 a] w fun e w' => e = .returned (.int .i64 (upN x r1 lN a)) ∧ Below w.heap.size w w' := by
  have HTA := Lib.hid (tat_any a ha w h)
  have HOT := Lib.hid fun W (hW : Below w.heap.size w W) => tothers_any p lN r1 a1 hp hlN W (h.next hW)
  have HOL : Hid ((oth x.ps r1 lN).length ≤ 1000000) := Lib.hid (by
    have h1 : (oth x.ps r1 lN).length ≤ (picks (fun y => y.2.1 == (lN : Int)) x.ps x.ps.length).length := List.length_filter_le _ _
    have h2 := picks_len (fun y => y.2.1 == (lN : Int)) x.ps x.ps.length
    have := h.net.oks.2.2.1.2; have := h.net.len.2.2.1; omega)
  have HU : Hid (upN x r1 lN a = match lastAt a x.ps x.ps.length with
    | some o => if (oth x.ps r1 lN).any (fun y => ((o : Nat) : Int) == y) = true then (o : Int) else -1
    | none => -1) := Lib.hid rfl
  rw [HU.out]
  clear h hp hlN
  generalize oth x.ps r1 lN = O at *
  cases hl : lastAt a x.ps x.ps.length with
  | none =>
    rw [hl] at HTA
    clear hl HU
    go_enter Tryz.func95, Tryz.ntmps95
    go_wp2_with (go_at_call 19; refine HTA.out.mono ?_; rintro e w1 ⟨rfl, hb1⟩; have HB1 := Lib.hid hb1; clear hb1)
    go_ret
    exact ⟨rfl, HB1.out⟩
  | some o =>
    rw [hl] at HTA
    clear hl HU
    have HH := Lib.hid fun A c W (hj : JR W A O.length O) => has_any A O.length c O (o : Int) W hj HOL.out
    dsimp only
    cases ho : O.any (fun y => ((o : Nat) : Int) == y) with
    | true =>
      rw [ho] at HH
      clear ho
      go_enter Tryz.func95, Tryz.ntmps95
      go_wp2_with (first
        | (go_at_call 19; refine HTA.out.mono ?_; rintro e w1 ⟨rfl, hb1⟩; have HB1 := Lib.hid hb1; clear hb1)
        | (go_at_call 26; refine (HOT.out _ HB1.out).mono ?_; rintro e w2 ⟨A2, c2, rfl, hj, hb2⟩; have HJ := Lib.hid hj; have HB2 := Lib.hid (below_next HB1.out hb2); clear hj hb2)
        | (go_at_call 94; refine (HH.out _ _ _ HJ.out).mono ?_; rintro e w3 ⟨rfl, hb3⟩; have HB3 := Lib.hid (below_next HB2.out hb3); clear hb3))
      go_ret
      exact ⟨rfl, HB3.out⟩
    | false =>
      rw [ho] at HH
      clear ho
      go_enter Tryz.func95, Tryz.ntmps95
      go_wp2_with (first
        | (go_at_call 19; refine HTA.out.mono ?_; rintro e w1 ⟨rfl, hb1⟩; have HB1 := Lib.hid hb1; clear hb1)
        | (go_at_call 26; refine (HOT.out _ HB1.out).mono ?_; rintro e w2 ⟨A2, c2, rfl, hj, hb2⟩; have HJ := Lib.hid hj; have HB2 := Lib.hid (below_next HB1.out hb2); clear hj hb2)
        | (go_at_call 94; refine (HH.out _ _ _ HJ.out).mono ?_; rintro e w3 ⟨rfl, hb3⟩; have HB3 := Lib.hid (below_next HB2.out hb3); clear hb3))
      go_ret
      exact ⟨rfl, HB3.out⟩
end
end Go.Proofs.YtojahaphkjdenaaGreatDoor
namespace Go.Proofs.YtojahaphkjdenaaGreatDoor
open Go.RowKit Lx Sm Go.Maps
theorem ret_to (tm : Array Value) (N : Nat) (W : World) (v0 v1 v2 v3 u : Value) (h2 : tm.getD 6 undef = .pointer (some ⟨N, 0, none⟩)) (h3 : tm.getD 7 undef = u) (c0 : W.cell? ⟨N, 0, none⟩ = some v0) (c1 : W.cell? ⟨N, 1, none⟩ = some v1) (c2 : W.cell? ⟨N, 2, none⟩ = some v2) (c3 : W.cell? ⟨N, 3, none⟩ = some v3) :
    (results Tryz.f43 tm).run Tryz.prog W = .ok (.tuple #[.agg #[v0, v1, v2, v3], u]) W := by
  have h2' : tm[6]?.getD undef = .pointer (some ⟨N, 0, none⟩) := by simpa using h2
  have h3' : tm[7]?.getD undef = u := by simpa using h3
  simp [results, Tryz.results43, go_sem, h2', h3', c0, c1, c2, c3]
theorem store4 {W : World} {N b : Nat} {t : TypeId} (hs : Slot W N t 4) (hN : b ≤ N) (w : World) (hB : Below b w W) (v0 v1 v2 v3 : Value) : ∃ W', W' = (((W.setCell ⟨N, 0, none⟩ v0).setCell ⟨N, 1, none⟩ v1).setCell ⟨N, 2, none⟩ v2).setCell ⟨N, 3, none⟩ v3 ∧ Blk W' N t #[v0, v1, v2, v3] ∧ Below b w W' ∧ (∀ g t' cs, g ≠ N → Blk W g t' cs → Blk W' g t' cs) := by
  obtain ⟨cs, hz, hb⟩ := hs
  refine ⟨_, rfl, ?_, ((((hB.setCell (by simpa using hN) v0).setCell (by simpa using hN) v1).setCell (by simpa using hN) v2).setCell (by simpa using hN) v3), fun g t' cs hn hg => ((((hg.far hn v0).far hn v1).far hn v2).far hn v3)⟩
  have h := ((((hb.set_ 0 v0).set_ 1 v1).set_ 2 v2).set_ 3 v3)
  have e : ((((cs.setIfInBounds 0 v0).setIfInBounds 1 v1).setIfInBounds 2 v2).setIfInBounds 3 v3) = #[v0, v1, v2, v3] := by
    apply Array.ext_getElem?
    intro i
    rcases i with _ | _ | _ | _ | i <;> simp [hz]
  rw [e] at h
  exact h

/-- the next address of a way is an address -/
theorem look_via {x : Cfg} {r : Int} (hu : ∀ y ∈ x.os, U32 y.2.2.2.1) : ∀ (k : Nat) (a v c : Int) (q : Int × Int × Int), U32 v → lookP x r k a v c = some q → U32 q.2.1
  | 0, _, _, _, _, _, h => by cases h
  | k + 1, a, v, c, q, hv, h => by
    by_cases hn : (nearP x r a).1 = [] ∨ (nearP x r a).2 < (farP x r a).2
    · by_cases hf : (farP x r a).1 = []
      · rw [look_none hn hf] at h; cases h
      · rw [look_far hn hf] at h
        refine look_via hu k _ _ _ _ ?_ h
        refine hu _ (cheap_in (by cases hc : (farP x r a).1 with | nil => exact absurd hc hf | cons => simp) (fun z hz => ?_))
        have hz2 : z ∈ (longP (preO x) a (routesOf x r) [] 0).1 := hz
        rcases longP_mem _ _ _ _ _ _ hz2 with h | h
        · exact routesOf_mem h
        · cases h
    · obtain ⟨p, l, e⟩ : ∃ p l, (nearP x r a).1 = p :: l := by
        cases hc : (nearP x r a).1 with
        | nil => exact absurd (.inl hc) hn
        | cons p l => exact ⟨p, l, rfl⟩
      rw [look_near (nb := (nearP x r a).2) (Prod.ext e rfl) (by have := fun h => hn (.inr h); omega)] at h
      cases h
      exact hv
section
variable {b : Nat} {T : TP} {x : Cfg} {gs : List Int}
set_option maxHeartbeats 8000000 in
set_option maxRecDepth 100000 in
theorem to_any (r a : Int) (ha : U32 a) (w : World) (h0 : TW w b T x gs) (hrn : ∀ y ∈ x.rs, (str y.1).size ≤ 281474976710656) (hln : ∀ y ∈ x.ls, (str y.1).size ≤ 281474976710656) (hok : RibOK x) :
    Calls Tryz.prog 43 #[.pointer (some ⟨T.N, 0, none⟩), .int .i64 r, .int .u32 a] w fun e w' => e = .returned (.tuple #[.agg #[.int .i64 (toA x r a).1.1, .int .i64 (toA x r a).1.2.1, .int .i64 (toA x r a).1.2.2.1, .bool (toA x r a).1.2.2.2], .bool (toA x r a).2]) ∧ Below w.heap.size w w' := by
  have h := Lib.hid h0
  have hos : ∀ y ∈ x.os, U32 y.2.2.2.1 := fun y hy => (h0.net.ok.2.2.1 y hy).2
  have HB0 := Lib.hid ((Below.refl w.heap.size w).alloc (Nat.le_refl _) (.cells #[.int .i64 0, .int .i64 0, .int .i64 0, .bool false] 74))
  have HS := Lib.hid (Blk.new w 74 #[.int .i64 0, .int .i64 0, .int .i64 0, .bool false])
  have HTA := Lib.hid fun W (hW : Below w.heap.size w W) => tat_any a ha W (h0.next hW)
  have HOF := Lib.hid fun W (hW : Below w.heap.size w W) => tof_any r W (h0.next hW)
  have HLK := Lib.hid fun W (hW : Below w.heap.size w W) => look_any r a W (h0.next hW) hrn hln hok
  have HPl : Hid ((portsOf x r).length ≤ 1000000) := Lib.hid (by have := portsOf_len x r; have := h0.net.oks.2.2.1.2; have := h0.net.len.2.2.1; omega)
  have HH0 := Lib.hid fun A c W o (hj : JR W A (portsOf x r).length (portsOf x r)) => has_any A (portsOf x r).length c (portsOf x r) o W hj HPl.out
  have HPT : Hid ((lookA x r a).2 = true → ∃ (pn : Nat) (r1 : Int) (lN : Nat) (a1 : Int), (lookA x r a).1.1 = (pn : Int) ∧ x.ps[pn]? = some (r1, (lN : Int), a1) ∧ lN < x.ls.length ∧ portAt x (lookA x r a).1.1 = (r1, (lN : Int), a1)) := Lib.hid fun ho => by
    obtain ⟨q, hq⟩ := Option.isSome_iff_exists.1 (show (lookP x r 7 a 0 0).isSome = true from ho)
    have e1 : (lookA x r a).1 = q := by unfold lookA; rw [hq]; rfl
    obtain ⟨pn, hpn, he⟩ := portsOf_mem (rlook_in 7 a 0 0 q hq)
    have hx : x.ps[pn]? = some x.ps[pn] := List.getElem?_eq_getElem hpn
    obtain ⟨h1, h2⟩ := hok.p _ (List.getElem_mem hpn)
    generalize x.ps[pn] = y at *
    obtain ⟨r1, l1, a1⟩ := y
    dsimp only at h1 h2
    obtain ⟨lN, rfl⟩ : ∃ lN : Nat, l1 = lN := ⟨l1.toNat, by omega⟩
    refine ⟨pn, r1, lN, a1, by rw [e1, he], hx, by omega, ?_⟩
    rw [e1, he]
    unfold portAt
    rw [Int.toNat_natCast, hx]
    rfl
  have hvU0 : (lookA x r a).2 = true → U32 (if (lookA x r a).1.2.1 = 0 then a else (lookA x r a).1.2.1) := fun ho => by
    obtain ⟨q, hq⟩ := Option.isSome_iff_exists.1 (show (lookP x r 7 a 0 0).isSome = true from ho)
    have e1 : (lookA x r a).1 = q := by unfold lookA; rw [hq]; rfl
    rw [e1]
    split
    · exact ha
    · exact look_via hos 7 a 0 0 q ⟨by decide, by decide⟩ hq
  have HT0 : Hid (toA x r a = if mine x r a = true then ((-1, -1, 0, true), true)
    else if (lookA x r a).2 = true then (((lookA x r a).1.1, upN x (portAt x (lookA x r a).1.1).1 (portAt x (lookA x r a).1.1).2.1 (if (lookA x r a).1.2.1 = 0 then a else (lookA x r a).1.2.1), (lookA x r a).1.2.2, decide ((lookA x r a).1.2.1 = 0)), true)
    else ((0, 0, 0, false), false)) := Lib.hid rfl
  have HMI : Hid (mine x r a = match lastAt a x.ps x.ps.length with
    | some o => (portsOf x r).any (fun y => ((o : Nat) : Int) == y)
    | none => false) := Lib.hid rfl
  generalize toA x r a = TA at *
  generalize mine x r a = MI at *
  generalize lookA x r a = LA at *
  obtain ⟨⟨p, v, c⟩, ok⟩ := LA
  dsimp only at HPT hvU0 HT0 HLK
  clear h0 hos
  have HP0 : Hid (portsOf x r = rowIn (tabs x x.ps.length x.ps.length x.ms.length 1) x.rs.length r) := Lib.hid rfl
  rw [← HP0.out] at HOF
  generalize portsOf x r = P at *
  cases hl : lastAt a x.ps x.ps.length with
  | none =>
    rw [hl] at HTA HMI
    have HT := HT0
    have hmf : MI = false := HMI.out
    rw [hmf, if_neg (by decide)] at HT
    clear hmf
    have hvU := hvU0
    clear HT0 hvU0 hl HMI
    go_enter Tryz.func43, Tryz.ntmps43
    go_upto_region 1 with fail
    generalize w.alloc (.cells #[.int .i64 0, .int .i64 0, .int .i64 0, .bool false] 74) = W0 at *
    cases hok2 : ok with
    | false =>
      rw [hok2] at HLK HT
      go_upto_region 5 with (first
        | (go_at_call 19; refine (HTA.out _ HB0.out).mono ?_; rintro e w1 ⟨rfl, hb1⟩; have HB1 := Lib.hid (below_next HB0.out hb1); have HS1 := Lib.hid (HS.out.next hb1); clear hb1)
        | (go_at_call 38; refine (HLK.out _ HB1.out).mono ?_; rintro e w4 ⟨rfl, hb4⟩; have HB4 := Lib.hid (below_next HB1.out hb4); have HS4 := Lib.hid (HS1.out.next hb4); clear hb4))
      have HB5 := Lib.hid (HB4.out.alloc HB4.out.size (.cells #[.int .i64 p, .int .u32 v, .int .i64 c] 62))
      have HS5 := Lib.hid (HS4.out.alloc (.cells #[.int .i64 p, .int .u32 v, .int .i64 c] 62))
      have HWy := Lib.hid (Blk.new w4 62 #[.int .i64 p, .int .u32 v, .int .i64 c])
      generalize w4.alloc (.cells #[.int .i64 p, .int .u32 v, .int .i64 c] 62) = W5 at *
      have q0 : W5.cell? ⟨w.heap.size, 0, none⟩ = some (.int .i64 0) := HS5.out.cell 0
      have q1 : W5.cell? ⟨w.heap.size, 1, none⟩ = some (.int .i64 0) := HS5.out.cell 1
      have q2 : W5.cell? ⟨w.heap.size, 2, none⟩ = some (.int .i64 0) := HS5.out.cell 2
      have q3 : W5.cell? ⟨w.heap.size, 3, none⟩ = some (.bool false) := HS5.out.cell 3
      have y0 : W5.frozen? ⟨w.heap.size, 0, none⟩ = false := HS5.out.frozen 0
      have y1 : W5.frozen? ⟨w.heap.size, 1, none⟩ = false := HS5.out.frozen 1
      have y2 : W5.frozen? ⟨w.heap.size, 2, none⟩ = false := HS5.out.frozen 2
      have y3 : W5.frozen? ⟨w.heap.size, 3, none⟩ = false := HS5.out.frozen 3
      go_wp2
      obtain ⟨W9, hW9, hk9, hB9, _⟩ := store4 HS5.out.slot (Nat.le_refl _) w HB5.out (.int .i64 0) (.int .i64 0) (.int .i64 0) (.bool false)
      rw [← hW9]
      clear hW9 q0 q1 q2 q3 y0 y1 y2 y3
      refine bodyPost_ret (ret_to _ w.heap.size _ _ _ _ _ _ rfl rfl (hk9.cell 0) (hk9.cell 1) (hk9.cell 2) (hk9.cell 3)) rfl ?_
      refine ⟨?_, hB9⟩
      rw [HT.out]
      rfl
    | true =>
      rw [hok2] at HLK HT HPT hvU
      obtain ⟨pn, r1, lN, a1, rfl, hpx, hlN, hpa⟩ := HPT.out rfl
      have HVA := Lib.hid (hvU rfl)
      rw [hpa] at HT
      dsimp only at HT
      have HOA := Lib.hid fun W (hW : Below w.heap.size w W) => otherAt_any pn lN r1 a1 hpx hlN (if v = 0 then a else v) HVA.out W (h.out.next hW)
      generalize upN x r1 lN (if v = 0 then a else v) = up at *
      have HOR := Lib.hid fun W g (hb : Blk W g 32 #[.int .u32 v, .int .u32 a]) => or2_any v a g 32 W hb
      generalize (if v = 0 then a else v) = va at *
      clear hpx hlN hpa
      go_upto_region 7 with (first
        | (go_at_call 19; refine (HTA.out _ HB0.out).mono ?_; rintro e w1 ⟨rfl, hb1⟩; have HB1 := Lib.hid (below_next HB0.out hb1); have HS1 := Lib.hid (HS.out.next hb1); clear hb1)
        | (go_at_call 38; refine (HLK.out _ HB1.out).mono ?_; rintro e w4 ⟨rfl, hb4⟩; have HB4 := Lib.hid (below_next HB1.out hb4); have HS4 := Lib.hid (HS1.out.next hb4); clear hb4))
      have HB5 := Lib.hid (HB4.out.alloc HB4.out.size (.cells #[.int .i64 (pn : Int), .int .u32 v, .int .i64 c] 62))
      have HS5 := Lib.hid (HS4.out.alloc (.cells #[.int .i64 (pn : Int), .int .u32 v, .int .i64 c] 62))
      have HWy := Lib.hid (Blk.new w4 62 #[.int .i64 (pn : Int), .int .u32 v, .int .i64 c])
      generalize w4.alloc (.cells #[.int .i64 (pn : Int), .int .u32 v, .int .i64 c] 62) = W5 at *
      have s0 : ∀ W, Below W5.heap.size W5 W → W.cell? ⟨w4.heap.size, 0, none⟩ = some (.int .i64 (pn : Int)) := fun W hW => (HWy.out.next hW).cell 0
      have s1 : ∀ W, Below W5.heap.size W5 W → W.cell? ⟨w4.heap.size, 1, none⟩ = some (.int .u32 v) := fun W hW => (HWy.out.next hW).cell 1
      have s2 : ∀ W, Below W5.heap.size W5 W → W.cell? ⟨w4.heap.size, 2, none⟩ = some (.int .i64 c) := fun W hW => (HWy.out.next hW).cell 2
      have hS0 : Below W5.heap.size W5 W5 := Below.refl _ _
      go_region_held3 (fun W => Below W5.heap.size W5 W) (first | with_reducible assumption | with_reducible exact (Below.refl _ _).drew | with_reducible exact ((Below.refl _ _).alloc (Nat.le_refl _) _).drew)
        (first
        | (go_at_call 96; refine (HOR.out _ _ (by first | with_reducible exact Blk.new _ _ _ | with_reducible exact (Blk.new _ _ _).drew)).mono ?_; rintro e w6 ⟨rfl, hb6⟩; have hb7 : Below W5.heap.size W5 w6 := below_next (by with_reducible assumption) hb6)
        | (go_at_call 95; refine (HOA.out _ (below_next HB5.out (by with_reducible assumption))).mono ?_; rintro e w8 ⟨rfl, hb8⟩; have hb9 : Below W5.heap.size W5 w8 := below_next (by with_reducible assumption) hb8))
      all_goals (
        have HB9 := Lib.hid (below_next HB5.out hb9)
        have HS9 := Lib.hid (HS5.out.next hb9)
        have t0 := s0 _ hb9
        have t1 := s1 _ hb9
        have t2 := s2 _ hb9
        clear s0 s1 s2 hS0
        have q0 : w8.cell? ⟨w.heap.size, 0, none⟩ = some (.int .i64 0) := HS9.out.cell 0
        have q1 : w8.cell? ⟨w.heap.size, 1, none⟩ = some (.int .i64 0) := HS9.out.cell 1
        have q2 : w8.cell? ⟨w.heap.size, 2, none⟩ = some (.int .i64 0) := HS9.out.cell 2
        have q3 : w8.cell? ⟨w.heap.size, 3, none⟩ = some (.bool false) := HS9.out.cell 3
        have y0 : w8.frozen? ⟨w.heap.size, 0, none⟩ = false := HS9.out.frozen 0
        have y1 : w8.frozen? ⟨w.heap.size, 1, none⟩ = false := HS9.out.frozen 1
        have y2 : w8.frozen? ⟨w.heap.size, 2, none⟩ = false := HS9.out.frozen 2
        have y3 : w8.frozen? ⟨w.heap.size, 3, none⟩ = false := HS9.out.frozen 3
        go_wp2
        obtain ⟨W9, hW9, hk9, hB9, _⟩ := store4 HS9.out.slot (Nat.le_refl _) w HB9.out (.int .i64 (pn : Int)) (.int .i64 up) (.int .i64 c) (.bool (v == 0))
        rw [← hW9]
        clear hW9 q0 q1 q2 q3 y0 y1 y2 y3
        refine bodyPost_ret (ret_to _ w.heap.size _ _ _ _ _ _ rfl rfl (hk9.cell 0) (hk9.cell 1) (hk9.cell 2) (hk9.cell 3)) rfl ?_
        refine ⟨?_, hB9⟩
        rw [HT.out]
        rfl)
  | some o =>
    rw [hl] at HTA HMI
    have HH := Lib.hid fun A c W (hj : JR W A P.length P) => HH0.out A c W (o : Int) hj
    cases hmm : P.any (fun y => ((o : Nat) : Int) == y) with
    | true =>
      rw [hmm] at HH
      have hmf : MI = true := HMI.out.trans hmm
      have HT := HT0
      rw [hmf, if_pos rfl] at HT
      clear HT0 hvU0 hl HMI hmm hmf HH0
      go_enter Tryz.func43, Tryz.ntmps43
      go_upto_region 1 with fail
      generalize w.alloc (.cells #[.int .i64 0, .int .i64 0, .int .i64 0, .bool false] 74) = W0 at *
      go_upto_region 3 with (first
        | (go_at_call 19; refine (HTA.out _ HB0.out).mono ?_; rintro e w1 ⟨rfl, hb1⟩; have HB1 := Lib.hid (below_next HB0.out hb1); have HS1 := Lib.hid (HS.out.next hb1); clear hb1)
        | (go_at_call 24; refine (HOF.out _ HB1.out).mono ?_; rintro e w2 ⟨A2, c2, rfl, hj, hb2⟩; have HJ := Lib.hid hj; have HB2 := Lib.hid (below_next HB1.out hb2); have HS2 := Lib.hid (HS1.out.next hb2); clear hj hb2)
        | (go_at_call 94; refine (HH.out _ _ _ HJ.out).mono ?_; rintro e w3 ⟨rfl, hb3⟩; have HB3 := Lib.hid (below_next HB2.out hb3); have HS3 := Lib.hid (HS2.out.next hb3); clear hb3))
      have q0 : w3.cell? ⟨w.heap.size, 0, none⟩ = some (.int .i64 0) := HS3.out.cell 0
      have q1 : w3.cell? ⟨w.heap.size, 1, none⟩ = some (.int .i64 0) := HS3.out.cell 1
      have q2 : w3.cell? ⟨w.heap.size, 2, none⟩ = some (.int .i64 0) := HS3.out.cell 2
      have q3 : w3.cell? ⟨w.heap.size, 3, none⟩ = some (.bool false) := HS3.out.cell 3
      have y0 : w3.frozen? ⟨w.heap.size, 0, none⟩ = false := HS3.out.frozen 0
      have y1 : w3.frozen? ⟨w.heap.size, 1, none⟩ = false := HS3.out.frozen 1
      have y2 : w3.frozen? ⟨w.heap.size, 2, none⟩ = false := HS3.out.frozen 2
      have y3 : w3.frozen? ⟨w.heap.size, 3, none⟩ = false := HS3.out.frozen 3
      go_wp2
      obtain ⟨W9, hW9, hk9, hB9, _⟩ := store4 HS3.out.slot (Nat.le_refl _) w HB3.out (.int .i64 (-1)) (.int .i64 (-1)) (.int .i64 0) (.bool true)
      rw [← hW9]
      clear hW9 q0 q1 q2 q3 y0 y1 y2 y3
      refine bodyPost_ret (ret_to _ w.heap.size _ _ _ _ _ _ rfl rfl (hk9.cell 0) (hk9.cell 1) (hk9.cell 2) (hk9.cell 3)) rfl ?_
      refine ⟨?_, hB9⟩
      rw [HT.out]
      rfl
    | false =>
      rw [hmm] at HH
      have hmf : MI = false := HMI.out.trans hmm
      have HT := HT0
      rw [hmf, if_neg (by decide)] at HT
      have hvU := hvU0
      clear HT0 hvU0 hl HMI hmm hmf HH0
      go_enter Tryz.func43, Tryz.ntmps43
      go_upto_region 1 with fail
      generalize w.alloc (.cells #[.int .i64 0, .int .i64 0, .int .i64 0, .bool false] 74) = W0 at *
      cases hok2 : ok with
      | false =>
        rw [hok2] at HLK HT
        go_upto_region 5 with (first
          | (go_at_call 19; refine (HTA.out _ HB0.out).mono ?_; rintro e w1 ⟨rfl, hb1⟩; have HB1 := Lib.hid (below_next HB0.out hb1); have HS1 := Lib.hid (HS.out.next hb1); clear hb1)
          | (go_at_call 24; refine (HOF.out _ HB1.out).mono ?_; rintro e w2 ⟨A2, c2, rfl, hj, hb2⟩; have HJ := Lib.hid hj; have HB2 := Lib.hid (below_next HB1.out hb2); have HS2 := Lib.hid (HS1.out.next hb2); clear hj hb2)
          | (go_at_call 94; refine (HH.out _ _ _ HJ.out).mono ?_; rintro e w3 ⟨rfl, hb3⟩; have HB3 := Lib.hid (below_next HB2.out hb3); have HS3 := Lib.hid (HS2.out.next hb3); clear hb3)
          | (go_at_call 38; refine (HLK.out _ HB3.out).mono ?_; rintro e w4 ⟨rfl, hb4⟩; have HB4 := Lib.hid (below_next HB3.out hb4); have HS4 := Lib.hid (HS3.out.next hb4); clear hb4))
        have HB5 := Lib.hid (HB4.out.alloc HB4.out.size (.cells #[.int .i64 p, .int .u32 v, .int .i64 c] 62))
        have HS5 := Lib.hid (HS4.out.alloc (.cells #[.int .i64 p, .int .u32 v, .int .i64 c] 62))
        have HWy := Lib.hid (Blk.new w4 62 #[.int .i64 p, .int .u32 v, .int .i64 c])
        generalize w4.alloc (.cells #[.int .i64 p, .int .u32 v, .int .i64 c] 62) = W5 at *
        have q0 : W5.cell? ⟨w.heap.size, 0, none⟩ = some (.int .i64 0) := HS5.out.cell 0
        have q1 : W5.cell? ⟨w.heap.size, 1, none⟩ = some (.int .i64 0) := HS5.out.cell 1
        have q2 : W5.cell? ⟨w.heap.size, 2, none⟩ = some (.int .i64 0) := HS5.out.cell 2
        have q3 : W5.cell? ⟨w.heap.size, 3, none⟩ = some (.bool false) := HS5.out.cell 3
        have y0 : W5.frozen? ⟨w.heap.size, 0, none⟩ = false := HS5.out.frozen 0
        have y1 : W5.frozen? ⟨w.heap.size, 1, none⟩ = false := HS5.out.frozen 1
        have y2 : W5.frozen? ⟨w.heap.size, 2, none⟩ = false := HS5.out.frozen 2
        have y3 : W5.frozen? ⟨w.heap.size, 3, none⟩ = false := HS5.out.frozen 3
        go_wp2
        obtain ⟨W9, hW9, hk9, hB9, _⟩ := store4 HS5.out.slot (Nat.le_refl _) w HB5.out (.int .i64 0) (.int .i64 0) (.int .i64 0) (.bool false)
        rw [← hW9]
        clear hW9 q0 q1 q2 q3 y0 y1 y2 y3
        refine bodyPost_ret (ret_to _ w.heap.size _ _ _ _ _ _ rfl rfl (hk9.cell 0) (hk9.cell 1) (hk9.cell 2) (hk9.cell 3)) rfl ?_
        refine ⟨?_, hB9⟩
        rw [HT.out]
        rfl
      | true =>
        rw [hok2] at HLK HT HPT hvU
        obtain ⟨pn, r1, lN, a1, rfl, hpx, hlN, hpa⟩ := HPT.out rfl
        have HVA := Lib.hid (hvU rfl)
        rw [hpa] at HT
        dsimp only at HT
        have HOA := Lib.hid fun W (hW : Below w.heap.size w W) => otherAt_any pn lN r1 a1 hpx hlN (if v = 0 then a else v) HVA.out W (h.out.next hW)
        generalize upN x r1 lN (if v = 0 then a else v) = up at *
        have HOR := Lib.hid fun W g (hb : Blk W g 32 #[.int .u32 v, .int .u32 a]) => or2_any v a g 32 W hb
        generalize (if v = 0 then a else v) = va at *
        clear hpx hlN hpa
        go_upto_region 7 with (first
          | (go_at_call 19; refine (HTA.out _ HB0.out).mono ?_; rintro e w1 ⟨rfl, hb1⟩; have HB1 := Lib.hid (below_next HB0.out hb1); have HS1 := Lib.hid (HS.out.next hb1); clear hb1)
          | (go_at_call 24; refine (HOF.out _ HB1.out).mono ?_; rintro e w2 ⟨A2, c2, rfl, hj, hb2⟩; have HJ := Lib.hid hj; have HB2 := Lib.hid (below_next HB1.out hb2); have HS2 := Lib.hid (HS1.out.next hb2); clear hj hb2)
          | (go_at_call 94; refine (HH.out _ _ _ HJ.out).mono ?_; rintro e w3 ⟨rfl, hb3⟩; have HB3 := Lib.hid (below_next HB2.out hb3); have HS3 := Lib.hid (HS2.out.next hb3); clear hb3)
          | (go_at_call 38; refine (HLK.out _ HB3.out).mono ?_; rintro e w4 ⟨rfl, hb4⟩; have HB4 := Lib.hid (below_next HB3.out hb4); have HS4 := Lib.hid (HS3.out.next hb4); clear hb4))
        have HB5 := Lib.hid (HB4.out.alloc HB4.out.size (.cells #[.int .i64 (pn : Int), .int .u32 v, .int .i64 c] 62))
        have HS5 := Lib.hid (HS4.out.alloc (.cells #[.int .i64 (pn : Int), .int .u32 v, .int .i64 c] 62))
        have HWy := Lib.hid (Blk.new w4 62 #[.int .i64 (pn : Int), .int .u32 v, .int .i64 c])
        generalize w4.alloc (.cells #[.int .i64 (pn : Int), .int .u32 v, .int .i64 c] 62) = W5 at *
        have s0 : ∀ W, Below W5.heap.size W5 W → W.cell? ⟨w4.heap.size, 0, none⟩ = some (.int .i64 (pn : Int)) := fun W hW => (HWy.out.next hW).cell 0
        have s1 : ∀ W, Below W5.heap.size W5 W → W.cell? ⟨w4.heap.size, 1, none⟩ = some (.int .u32 v) := fun W hW => (HWy.out.next hW).cell 1
        have s2 : ∀ W, Below W5.heap.size W5 W → W.cell? ⟨w4.heap.size, 2, none⟩ = some (.int .i64 c) := fun W hW => (HWy.out.next hW).cell 2
        have hS0 : Below W5.heap.size W5 W5 := Below.refl _ _
        go_region_held3 (fun W => Below W5.heap.size W5 W) (first | with_reducible assumption | with_reducible exact (Below.refl _ _).drew | with_reducible exact ((Below.refl _ _).alloc (Nat.le_refl _) _).drew)
          (first
          | (go_at_call 96; refine (HOR.out _ _ (by first | with_reducible exact Blk.new _ _ _ | with_reducible exact (Blk.new _ _ _).drew)).mono ?_; rintro e w6 ⟨rfl, hb6⟩; have hb7 : Below W5.heap.size W5 w6 := below_next (by with_reducible assumption) hb6)
          | (go_at_call 95; refine (HOA.out _ (below_next HB5.out (by with_reducible assumption))).mono ?_; rintro e w8 ⟨rfl, hb8⟩; have hb9 : Below W5.heap.size W5 w8 := below_next (by with_reducible assumption) hb8))
        all_goals (
          have HB9 := Lib.hid (below_next HB5.out hb9)
          have HS9 := Lib.hid (HS5.out.next hb9)
          have t0 := s0 _ hb9
          have t1 := s1 _ hb9
          have t2 := s2 _ hb9
          clear s0 s1 s2 hS0
          have q0 : w8.cell? ⟨w.heap.size, 0, none⟩ = some (.int .i64 0) := HS9.out.cell 0
          have q1 : w8.cell? ⟨w.heap.size, 1, none⟩ = some (.int .i64 0) := HS9.out.cell 1
          have q2 : w8.cell? ⟨w.heap.size, 2, none⟩ = some (.int .i64 0) := HS9.out.cell 2
          have q3 : w8.cell? ⟨w.heap.size, 3, none⟩ = some (.bool false) := HS9.out.cell 3
          have y0 : w8.frozen? ⟨w.heap.size, 0, none⟩ = false := HS9.out.frozen 0
          have y1 : w8.frozen? ⟨w.heap.size, 1, none⟩ = false := HS9.out.frozen 1
          have y2 : w8.frozen? ⟨w.heap.size, 2, none⟩ = false := HS9.out.frozen 2
          have y3 : w8.frozen? ⟨w.heap.size, 3, none⟩ = false := HS9.out.frozen 3
          go_wp2
          obtain ⟨W9, hW9, hk9, hB9, _⟩ := store4 HS9.out.slot (Nat.le_refl _) w HB9.out (.int .i64 (pn : Int)) (.int .i64 up) (.int .i64 c) (.bool (v == 0))
          rw [← hW9]
          clear hW9 q0 q1 q2 q3 y0 y1 y2 y3
          refine bodyPost_ret (ret_to _ w.heap.size _ _ _ _ _ _ rfl rfl (hk9.cell 0) (hk9.cell 1) (hk9.cell 2) (hk9.cell 3)) rfl ?_
          refine ⟨?_, hB9⟩
          rw [HT.out]
          rfl)
end
end Go.Proofs.YtojahaphkjdenaaGreatDoor
namespace Go.Proofs.YtojahaphkjdenaaGreatDoor
open Go.RowKit Lx Sm Go.Maps
theorem lastAt_in {a : Int} {ps : List (Int × Int × Int)} : ∀ {k o : Nat}, lastAt a ps k = some o → o < k ∧ o < ps.length
  | 0, _, h => by cases h
  | k + 1, o, h => by
    unfold lastAt at h
    split at h
    · rename_i y hy
      split at h
      · cases h
        exact ⟨by omega, (List.getElem?_eq_some_iff.1 hy).1⟩
      · have := lastAt_in h
        exact ⟨by omega, this.2⟩
    · have := lastAt_in h
      exact ⟨by omega, this.2⟩
theorem upN_in (x : Cfg) (r l a : Int) : upN x r l a = -1 ∨ ∃ o : Nat, upN x r l a = (o : Int) ∧ o < x.ps.length := by
  unfold upN
  cases h : lastAt a x.ps x.ps.length with
  | none => exact .inl rfl
  | some o =>
    dsimp only
    split
    · exact .inr ⟨o, rfl, (lastAt_in h).2⟩
    · exact .inl rfl
/-- the router to which a step leads; -1: none -/
def nextP (x : Cfg) (r a : Int) : Int := if (toA x r a).2 = false then -1 else if (toA x r a).1.2.1 = -1 then -1 else (portAt x (toA x r a).1.2.1).1
theorem toA_up (x : Cfg) (r a : Int) (h : (toA x r a).2 = true) : (toA x r a).1.2.1 = -1 ∨ ∃ o : Nat, (toA x r a).1.2.1 = (o : Int) ∧ o < x.ps.length := by
  unfold toA at h ⊢
  split
  · exact .inl rfl
  · rename_i hm
    rw [if_neg hm] at h
    split
    · exact upN_in _ _ _ _
    · rename_i hl
      rw [if_neg hl] at h
      cases h
section
variable {b : Nat} {T : TP} {x : Cfg} {gs : List Int}
set_option maxHeartbeats 4000000 in
set_option maxRecDepth 100000 in
theorem next_any (A : Option Addr) (n c : Nat) (r a : Int) (ha : U32 a) (w : World) (h : TW w b T x gs) (hp : IPort w A n x.ps) (hrn : ∀ y ∈ x.rs, (str y.1).size ≤ 281474976710656) (hln : ∀ y ∈ x.ls, (str y.1).size ≤ 281474976710656) (hok : RibOK x) :
    Calls Tryz.prog 99 #[.pointer (some ⟨T.N, 0, none⟩), .slice A n c, .int .i64 r, .int .u32 a] w fun e w' => e = .returned (.int .i64 (nextP x r a)) ∧ Below w.heap.size w w' := by
  have HTO := Lib.hid (to_any r a ha w h hrn hln hok)
  have HUP := Lib.hid (toA_up x r a)
  have HNX : Hid (nextP x r a = if (toA x r a).2 = false then -1 else if (toA x r a).1.2.1 = -1 then -1 else (portAt x (toA x r a).1.2.1).1) := Lib.hid rfl
  have HP := Lib.hid hp
  rw [HNX.out]
  clear h hp hrn hln hok HNX
  generalize toA x r a = TA at *
  obtain ⟨⟨i, u, k, t⟩, ok⟩ := TA
  dsimp only at HTO HUP ⊢
  cases hk : ok with
  | false =>
    rw [hk] at HTO
    rw [if_pos rfl]
    go_enter Tryz.func99, Tryz.ntmps99
    go_wp2_with (go_at_call 43; refine HTO.out.mono ?_; rintro e w1 ⟨rfl, hb1⟩; have HB1 := Lib.hid hb1; clear hb1)
    go_ret
    exact ⟨rfl, HB1.out.alloc HB1.out.size _⟩
  | true =>
    rw [hk] at HTO HUP
    rw [if_neg (by decide)]
    by_cases hu : u = -1
    · subst hu
      rw [if_pos rfl]
      go_enter Tryz.func99, Tryz.ntmps99
      go_wp2_with (go_at_call 43; refine HTO.out.mono ?_; rintro e w1 ⟨rfl, hb1⟩; have HB1 := Lib.hid hb1; clear hb1)
      go_ret
      exact ⟨rfl, HB1.out.alloc HB1.out.size _⟩
    · rw [if_neg hu]
      obtain ⟨o, rfl, ho⟩ := (HUP.out rfl).resolve_left hu
      have e1 : (((o : Nat) : Int) == -1) = false := by simp
      have hn : x.ps.length = n := HP.out.1
      obtain ⟨bp, op, ⟨r1, l1, a1⟩, hA, _, hx, d0, d1, d2⟩ := IPort.cells HP.out (i := o) (by omega)
      subst hA
      have hi0 : (o : Int) < (n : Int) := by omega
      have hpa : portAt x (o : Int) = (r1, l1, a1) := by unfold portAt; rw [Int.toNat_natCast, hx]; rfl
      rw [hpa]
      have D0 := Lib.hid d0
      clear d0 d1 d2 hpa hx hu
      go_enter Tryz.func99, Tryz.ntmps99
      go_upto_region 2 with (go_at_call 43; refine HTO.out.mono ?_; rintro e w1 ⟨rfl, hb1⟩; have HB1 := Lib.hid hb1; clear hb1)
      have HB2 := Lib.hid (HB1.out.alloc HB1.out.size (.cells #[.int .i64 i, .int .i64 (o : Int), .int .i64 k, .bool t] 74))
      have s1 : (w1.alloc (.cells #[.int .i64 i, .int .i64 (o : Int), .int .i64 k, .bool t] 74)).cell? ⟨w1.heap.size, 1, none⟩ = some (.int .i64 (o : Int)) := by go_simp
      have d0 := cell_up D0.out HB2.out
      generalize w1.alloc (.cells #[.int .i64 i, .int .i64 (o : Int), .int .i64 k, .bool t] 74) = W2 at *
      go_wp2
      go_ret
      exact ⟨rfl, HB2.out⟩
end
end Go.Proofs.YtojahaphkjdenaaGreatDoor
namespace Go.Proofs.YtojahaphkjdenaaGreatDoor
open Go.RowKit Lx Sm Go.Maps
/-- the chain, and whether there is one -/
def chainA (x : Cfg) (r a : Int) : List Int × Bool :=
  if (toA x r a).2 = false then ([], false) else if (wlkP (fun q => nextP x q a) (x.rs.length + 1) [] r).2 = true then ([], false) else ((wlkP (fun q => nextP x q a) (x.rs.length + 1) [] r).1, true)
theorem toA_r {x : Cfg} {r a : Int} (h : (toA x r a).2 = true) : 0 ≤ r ∧ r < (x.rs.length : Int) := by
  have key : portsOf x r ≠ [] → 0 ≤ r ∧ r < (x.rs.length : Int) := fun hne => by
    unfold portsOf rowIn at hne
    split at hne
    · assumption
    · exact absurd rfl hne
  unfold toA at h
  split at h
  · rename_i hm
    refine key fun e => ?_
    unfold mine at hm
    rw [e] at hm
    split at hm
    · cases hm
    · cases hm
  · split at h
    · rename_i hl
      refine key fun e => ?_
      obtain ⟨q, hq⟩ := Option.isSome_iff_exists.1 (show (lookP x r 7 a 0 0).isSome = true from hl)
      have := rlook_in 7 a 0 0 q hq
      rw [e] at this
      cases this
    · cases h
theorem nextP_in {x : Cfg} {a : Int} (hpo : ∀ y ∈ x.ps, 0 ≤ y.1 ∧ y.1 < x.rs.length) (q : Int) : nextP x q a = -1 ∨ 0 ≤ nextP x q a ∧ nextP x q a < (x.rs.length : Int) := by
  unfold nextP
  split
  · exact .inl rfl
  · rename_i h1
    split
    · exact .inl rfl
    · rename_i h2
      obtain ⟨o, ho, hlt⟩ := (toA_up x q a (by simpa using h1)).resolve_left h2
      right
      rw [ho]
      unfold portAt
      rw [Int.toNat_natCast, List.getElem?_eq_getElem hlt]
      exact hpo _ (List.getElem_mem hlt)
section
variable {b : Nat} {T : TP} {x : Cfg} {gs : List Int}
set_option maxHeartbeats 2000000 in
theorem chain1_any (A : Option Addr) (n c N1 N2 N3 : Nat) (t1 t2 t3 : TypeId) (q a : Int) (ha : U32 a) (w : World) (h : TW w b T x gs) (hp : IPort w A n x.ps) (hrn : ∀ y ∈ x.rs, (str y.1).size ≤ 281474976710656) (hln : ∀ y ∈ x.ls, (str y.1).size ≤ 281474976710656) (hok : RibOK x)
    (b1 : Blk w N1 t1 #[.pointer (some ⟨T.N, 0, none⟩)]) (b2 : Blk w N2 t2 #[.slice A n c]) (b3 : Blk w N3 t3 #[.int .u32 a]) :
    Calls Tryz.prog 98 #[.int .i64 q, .pointer (some ⟨N1, 0, none⟩), .pointer (some ⟨N2, 0, none⟩), .pointer (some ⟨N3, 0, none⟩)] w fun e w' => e = .returned (.int .i64 (nextP x q a)) ∧ Below w.heap.size w w' := by
  have HN := Lib.hid (next_any A n c q a ha w h hp hrn hln hok)
  have c1 : w.cell? ⟨N1, 0, none⟩ = some (.pointer (some ⟨T.N, 0, none⟩)) := b1.cell 0
  have c2 : w.cell? ⟨N2, 0, none⟩ = some (.slice A n c) := b2.cell 0
  have c3 : w.cell? ⟨N3, 0, none⟩ = some (.int .u32 a) := b3.cell 0
  clear h hp hrn hln hok b1 b2 b3
  go_enter Tryz.func98, Tryz.ntmps98
  go_wp2_with (go_at_call 99; refine HN.out.mono ?_; rintro e w1 ⟨rfl, hb1⟩; have HB1 := Lib.hid hb1; clear hb1)
  go_ret
  exact ⟨rfl, HB1.out⟩
theorem fld_ports (M : Cm) (w : World) : (Instr.field 30 (.agg #[.slice M.r.A M.r.n M.r.c, .slice M.l.A M.l.n M.l.c, .slice M.p.A M.p.n M.p.c, .slice M.o.A M.o.n M.o.c, .slice M.g.A M.g.n M.g.c, .slice M.s.A M.s.n M.s.c, .slice M.m.A M.m.n M.m.c]) 2).run Tryz.prog w = .ok (.slice M.p.A M.p.n M.p.c) w := by kernel_rfl
set_option maxHeartbeats 8000000 in
set_option maxRecDepth 100000 in
theorem chain_any (r a : Int) (ha : U32 a) (w : World) (h : TW w b T x gs) (hrn : ∀ y ∈ x.rs, (str y.1).size ≤ 281474976710656) (hln : ∀ y ∈ x.ls, (str y.1).size ≤ 281474976710656) (hok : RibOK x) (hpo : ∀ y ∈ x.ps, 0 ≤ y.1 ∧ y.1 < x.rs.length) (hr6 : x.rs.length ≤ 1000) :
    Calls Tryz.prog 46 #[.pointer (some ⟨T.N, 0, none⟩), .int .i64 r, .int .u32 a] w fun e w' => ∃ A c, e = .returned (.tuple #[.slice A (chainA x r a).1.length c, .bool (chainA x r a).2]) ∧ JR w' A (chainA x r a).1.length (chainA x r a).1 ∧ Below w.heap.size w w' := by
  have HB1 := Lib.hid ((Below.refl w.heap.size w).alloc (Nat.le_refl _) (.cells #[.pointer (some ⟨T.N, 0, none⟩)] 35))
  have HB2 := Lib.hid (HB1.out.alloc HB1.out.size (.cells #[.int .u32 a] 32))
  have HK3 := Lib.hid ((Blk.new w 35 #[.pointer (some ⟨T.N, 0, none⟩)]).alloc (.cells #[.int .u32 a] 32))
  have HK5 : Hid (Blk ((w.alloc (.cells #[.pointer (some ⟨T.N, 0, none⟩)] 35)).alloc (.cells #[.int .u32 a] 32)) (w.heap.size + 1) 32 #[.int .u32 a]) := Lib.hid (by simpa using Blk.new (w.alloc (.cells #[.pointer (some ⟨T.N, 0, none⟩)] 35)) 32 #[.int .u32 a])
  have HTO := Lib.hid fun W (hW : Below w.heap.size w W) => to_any r a ha W (h.next hW) hrn hln hok
  have HCF := Lib.hid fun W (hW : Below w.heap.size w W) => config_any W (h.next hW) hrn hln
  have HC1 := Lib.hid fun A n c N1 N2 N3 t1 t2 t3 q W (hW : Below w.heap.size w W) hp b1 b2 b3 => chain1_any (b := b) (T := T) (x := x) (gs := gs) A n c N1 N2 N3 t1 t2 t3 q a ha W (h.next hW) hp hrn hln hok b1 b2 b3
  have HR := Lib.hid (toA_r (x := x) (r := r) (a := a))
  have HNI := Lib.hid (nextP_in (x := x) (a := a) hpo)
  have HCA : Hid (chainA x r a = if (toA x r a).2 = false then ([], false) else if (wlkP (fun q => nextP x q a) (x.rs.length + 1) [] r).2 = true then ([], false) else ((wlkP (fun q => nextP x q a) (x.rs.length + 1) [] r).1, true)) := Lib.hid rfl
  generalize chainA x r a = CA at *
  generalize toA x r a = TA at *
  obtain ⟨⟨i, u, k, t⟩, ok⟩ := TA
  dsimp only at HTO HR HCA
  clear h hrn hln hok hpo
  cases hk : ok with
  | false =>
    rw [hk] at HTO HCA
    rw [if_pos rfl] at HCA
    go_enter Tryz.func46, Tryz.ntmps46
    go_upto_region 1 with fail
    have c3 : ((w.alloc (.cells #[.pointer (some ⟨T.N, 0, none⟩)] 35)).alloc (.cells #[.int .u32 a] 32)).cell? ⟨w.heap.size, 0, none⟩ = some (.pointer (some ⟨T.N, 0, none⟩)) := HK3.out.cell 0
    have c5 : ((w.alloc (.cells #[.pointer (some ⟨T.N, 0, none⟩)] 35)).alloc (.cells #[.int .u32 a] 32)).cell? ⟨w.heap.size + 1, 0, none⟩ = some (.int .u32 a) := HK5.out.cell 0
    generalize (w.alloc (.cells #[.pointer (some ⟨T.N, 0, none⟩)] 35)).alloc (.cells #[.int .u32 a] 32) = W0 at *
    go_wp2_with (go_at_call 43; refine (HTO.out _ HB2.out).mono ?_; rintro e w1 ⟨rfl, hb1⟩; have HB3 := Lib.hid (below_next HB2.out hb1); clear hb1)
    go_ret2
    rw [HCA.out]
    first | exact ⟨none, 0, rfl, jr_nil _, HB3.out.alloc HB3.out.size _⟩ | exact ⟨none, ⟨0, rfl⟩, jr_nil _, HB3.out.alloc HB3.out.size _⟩
  | true =>
    rw [hk] at HTO HCA HR
    rw [if_neg (by decide)] at HCA
    go_enter Tryz.func46, Tryz.ntmps46
    go_upto_region 1 with fail
    have c3 : ((w.alloc (.cells #[.pointer (some ⟨T.N, 0, none⟩)] 35)).alloc (.cells #[.int .u32 a] 32)).cell? ⟨w.heap.size, 0, none⟩ = some (.pointer (some ⟨T.N, 0, none⟩)) := HK3.out.cell 0
    have c5 : ((w.alloc (.cells #[.pointer (some ⟨T.N, 0, none⟩)] 35)).alloc (.cells #[.int .u32 a] 32)).cell? ⟨w.heap.size + 1, 0, none⟩ = some (.int .u32 a) := HK5.out.cell 0
    generalize (w.alloc (.cells #[.pointer (some ⟨T.N, 0, none⟩)] 35)).alloc (.cells #[.int .u32 a] 32) = W0 at *
    go_upto_region 2 with (go_at_call 43; refine (HTO.out _ HB2.out).mono ?_; rintro e w1 ⟨rfl, hb1⟩; have HB3 := Lib.hid (below_next HB2.out hb1); have HK3a := Lib.hid (HK3.out.next hb1); have HK5a := Lib.hid (HK5.out.next hb1); clear hb1)
    have HB4 := Lib.hid (HB3.out.alloc HB3.out.size (.cells #[.int .i64 i, .int .i64 u, .int .i64 k, .bool t] 74))
    have HK3b := Lib.hid (HK3a.out.alloc (.cells #[.int .i64 i, .int .i64 u, .int .i64 k, .bool t] 74))
    have HK5b := Lib.hid (HK5a.out.alloc (.cells #[.int .i64 i, .int .i64 u, .int .i64 k, .bool t] 74))
    clear c3 c5
    generalize w1.alloc (.cells #[.int .i64 i, .int .i64 u, .int .i64 k, .bool t] 74) = W2 at *
    have c3 : W2.cell? ⟨w.heap.size, 0, none⟩ = some (.pointer (some ⟨T.N, 0, none⟩)) := HK3b.out.cell 0
    go_upto_region 5 with (go_at_call 33; refine (HCF.out _ HB4.out).mono ?_; rintro e w3 ⟨M, x', rfl, hc, hal, hb3⟩; have HIP := Lib.hid hc.cw.p; have HAL := Lib.hid hal; have HB5 := Lib.hid (below_next HB4.out hb3); have HK3c := Lib.hid (HK3b.out.next hb3); have HK5c := Lib.hid (HK5b.out.next hb3); have hfd := fld_ports M; clear hc hal hb3)
    clear hfd
    have HB6 := Lib.hid (HB5.out.alloc HB5.out.size (.cells #[.slice M.p.A M.p.n M.p.c] 24))
    have HB6a := Lib.hid ((Below.refl w3.heap.size w3).alloc (Nat.le_refl _) (.cells #[.slice M.p.A M.p.n M.p.c] 24))
    have HK10 := Lib.hid (Blk.new w3 24 #[.slice M.p.A M.p.n M.p.c])
    have HK3d := Lib.hid (HK3c.out.next HB6a.out)
    have HK5d := Lib.hid (HK5c.out.next HB6a.out)
    have HIP2 := Lib.hid (IR.next HIP.out HB6a.out)
    rw [HAL.out.p] at HIP2
    generalize w3.alloc (.cells #[.slice M.p.A M.p.n M.p.c] 24) = W4 at *
    have HWK := Lib.hid (pwalk_any 98 #[.pointer (some ⟨w.heap.size, 0, none⟩), .pointer (some ⟨w3.heap.size, 0, none⟩), .pointer (some ⟨w.heap.size + 1, 0, none⟩)] (by intros; rfl) (fun q => nextP x q a) x.rs.length (by omega) r W4 (.inr (HR.out (by first | trivial | rfl))) (fun q _ _ => HNI.out q)
      (fun W q _ _ hW => HC1.out M.p.A M.p.n M.p.c _ _ _ _ _ _ q W (below_next HB6.out hW) (IR.next HIP2.out hW) (HK3d.out.next hW) (HK10.out.next hW) (HK5d.out.next hW)))
    generalize wlkP (fun q => nextP x q a) (x.rs.length + 1) [] r = WK at *
    obtain ⟨L, again⟩ := WK
    dsimp only at HWK HCA
    cases hg : again with
    | true =>
      rw [hg] at HWK HCA
      rw [if_pos rfl] at HCA
      go_wp2_with (go_at_call 97; refine HWK.out.mono ?_; rintro e w5 ⟨A5, c5', rfl, hj, hb5⟩; have HB7 := Lib.hid (below_next HB6.out hb5); clear hj hb5)
      go_ret2
      rw [HCA.out]
      first | exact ⟨none, 0, rfl, jr_nil _, HB7.out⟩ | exact ⟨none, ⟨0, rfl⟩, jr_nil _, HB7.out⟩
    | false =>
      rw [hg] at HWK HCA
      rw [if_neg (by decide)] at HCA
      go_wp2_with (go_at_call 97; refine HWK.out.mono ?_; rintro e w5 ⟨A5, c5', rfl, hj, hb5⟩; have HJ5 := Lib.hid hj; have HB7 := Lib.hid (below_next HB6.out hb5); clear hj hb5)
      go_ret2
      rw [HCA.out]
      first | exact ⟨A5, c5', rfl, HJ5.out, HB7.out⟩ | exact ⟨A5, ⟨c5', rfl⟩, HJ5.out, HB7.out⟩
end
end Go.Proofs.YtojahaphkjdenaaGreatDoor

