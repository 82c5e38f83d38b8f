/- rib.Connected and rib.Routes; a network's variable whose routes grow, one by one; over the seat's program. -/
import Derived.Test.YtahnnaagpeinkaaGreatDoorRe
namespace Go.Proofs.YtahnnaagpeinkaaGreatDoor
open Go.RowKit Lx Sm Go.Maps
theorem near_same {x x' : Cfg} (h : Alike x x') (r a : Int) : nearP x' r a = nearP x r a := by unfold nearP; rw [preP_alike h, portsOf_alike h]
theorem far_same {x x' : Cfg} (h : Alike x x') (r a : Int) : farP x' r a = farP x r a := by unfold farP routesOf; rw [preO_alike h, h.o]
set_option maxHeartbeats 4000000 in
set_option maxRecDepth 100000 in
theorem connected_at {b : Nat} {T : TP} {x x' : Cfg} {gs : List Int} (hal : Alike x x') (hok : RibOK x) (hrn : ∀ y ∈ x.rs, (str y.1).size ≤ 281474976710656) (hln : ∀ y ∈ x.ls, (str y.1).size ≤ 281474976710656) (r a : Int) (w : World) (h : TW w b T x' gs) {p : Int} {L : List Int} {nb : Int} (hp : nearP x r a = (p :: L, nb)) :
    Calls Tryz.prog 12 #[.pointer (some ⟨T.N, 0, none⟩), .int .i64 r, .int .u32 a] w fun e w' => e = .returned (.tuple #[.int .i64 p, .bool true]) ∧ Below w.heap.size w w' := by
  have hok' := hok.alike hal
  have HO := Lib.hid (ownOf_any r w h (by rw [hal.r]; exact hrn) (by rw [hal.l]; exact hln))
  have HP : Hid (nearP x' r a = (p :: L, nb)) := Lib.hid (by rw [near_same hal]; exact hp)
  have HNr : Hid (nearP x' r a = longP (preP x') a (portsOf x' r) [] 0) := Lib.hid rfl
  have HPm : Hid (∀ q ∈ portsOf x' r, ∃ j : Nat, j < x'.ps.length ∧ q = j) := Lib.hid fun q hq => portsOf_mem hq
  have HPl : Hid ((portsOf x' r).length ≤ 1000000) := Lib.hid (by have := portsOf_len x' r; have := h.net.oks.2.2.1.2; have := h.net.len.2.2.1; omega)
  have HOK := Lib.hid hok'
  have HLl : Hid ((p :: L).length ≤ 1000000) := Lib.hid (by
    have := longP_len (preP x') a (portsOf x' r)
    rw [← HNr.out, HP.out] at this
    exact Nat.le_trans this HPl.out)
  clear h hok hok' hrn hln hp
  generalize portsOf x' r = P at *
  generalize routesOf x' r = Q at *
  have hn0 : ((L.length : Int) + 1 == 0) = false := by simp; omega
  have hn1 : ¬ ((L.length : Int) + 1 = 0) := by omega
  have hn2 : (0 : Int) < (L.length : Int) + 1 := by omega
  have hn3 : L.length + 1 ≤ 1000000 := HLl.out
  go_enter Tryz.func12, Tryz.ntmps12
  go_upto_region 2 with (first
    | (go_at_call 27; refine HO.out.mono ?_; rintro e w1 ⟨M, x2, A, B, c, d, rfl, hm, hal2, hja, hjb, hb⟩; have HB1 := Lib.hid hb; have HCO := Lib.hid (conn_any M A B P.length c Q.length d x2 P a w1 hm hja HPl.out (by rw [hal2.p]; exact HPm.out) (by rw [hal2.p, hal2.l]; exact HOK.out.p) (by rw [hal2.l]; exact HOK.out.l)); rw [preP_alike hal2, ← HNr.out, HP.out] at HCO; clear hm hal2 hja hjb hb)
    | (go_at_call 28; refine HCO.out.mono ?_; rintro e w2 ⟨A2, c2, rfl, _, hj2, hb2⟩; obtain ⟨bn, on, rfl, _, ln⟩ := hj2.at_ (Nat.succ_pos _); rw [List.getD_cons_zero, Nat.add_zero] at ln; have HB2 := Lib.hid (below_next HB1.out hb2); clear hj2 hb2))
  go_wp2
  go_ret2
  exact ⟨rfl, HB2.out⟩
set_option maxHeartbeats 4000000 in
set_option maxRecDepth 100000 in
theorem routes_at {b : Nat} {T : TP} {x x' : Cfg} {gs : List Int} (hal : Alike x x') (hok : RibOK x) (hrn : ∀ y ∈ x.rs, (str y.1).size ≤ 281474976710656) (hln : ∀ y ∈ x.ls, (str y.1).size ≤ 281474976710656) (r a : Int) (w : World) (h : TW w b T x' gs) :
    Calls Tryz.prog 17 #[.pointer (some ⟨T.N, 0, none⟩), .int .i64 r, .int .u32 a] w fun e w' => ∃ A c, e = .returned (.slice A (farP x r a).1.length c) ∧ JR w' A (farP x r a).1.length (farP x r a).1 ∧ Below w.heap.size w w' := by
  have hok' := hok.alike hal
  have HO := Lib.hid (ownOf_any r w h (by rw [hal.r]; exact hrn) (by rw [hal.l]; exact hln))
  have HNr : Hid (farP x r a = longP (preO x') a (routesOf x' r) [] 0) := Lib.hid (by rw [← far_same hal]; rfl)
  have HQm : Hid (∀ q ∈ routesOf x' r, ∃ j : Nat, j < x'.os.length ∧ q = j) := Lib.hid fun q hq => routesOf_mem hq
  have HQl : Hid ((routesOf x' r).length ≤ 1000000) := Lib.hid (by have := picks_len (fun y => y.1 == r) x'.os x'.os.length; have := h.net.oks.2.2.2.1.2; have := h.net.len.2.2.2.1; unfold routesOf; omega)
  have HOK := Lib.hid hok'
  clear h hok hok' hrn hln
  generalize portsOf x' r = P at *
  generalize routesOf x' r = Q at *
  generalize farP x r a = FP at *
  go_enter Tryz.func17, Tryz.ntmps17
  go_upto_region 2 with (first
    | (go_at_call 27; refine HO.out.mono ?_; rintro e w1 ⟨M, x2, A, B, c, d, rfl, hm, hal2, hja, hjb, hb⟩; have HB1 := Lib.hid hb; have HRO := Lib.hid (rout_any M A B P.length c Q.length d x2 Q a w1 hm hjb HQl.out (by rw [hal2.o]; exact HQm.out) (by rw [hal2.o]; exact HOK.out.o)); rw [preO_alike hal2, ← HNr.out] at HRO; clear hm hal2 hja hjb hb)
    | (go_at_call 31; refine HRO.out.mono ?_; rintro e w2 ⟨A2, c2, rfl, _, hj2, hb2⟩; have HJ2 := Lib.hid hj2; have HB2 := Lib.hid (below_next HB1.out hb2); clear hj2 hb2))
  go_wp2
  go_ret
  exact ⟨A2, c2, rfl, HJ2.out, HB2.out⟩
/-- a network's variable whose routes grow -/
structure GO (w0 : World) (M : Cm) (v : Value) (os : List (Int × Int × Int × Int × Int)) (W : World) : Prop where
  blk : Blk W w0.heap.size 30 #[.slice M.r.A M.r.n M.r.c, .slice M.l.A M.l.n M.l.c, .slice M.p.A M.p.n M.p.c, v, .slice M.g.A M.g.n M.g.c, .slice M.s.A M.s.n M.s.c, .slice M.m.A M.m.n M.m.c]
  o : W.ownsRow w0.heap.size 64 5 v os.length (os.flatMap CRoute)
  lo : Below w0.heap.size w0 W
theorem GO.step_o {w0 : World} {M : Cm} {v v' : Value} {os new : List (Int × Int × Int × Int × Int)} {W W2 : World} (h : GO w0 M v os W) (hg : W.grownBy W2 v.ownBlock) (ho : W2.ownsRow w0.heap.size 64 5 v' (os ++ new).length ((os ++ new).flatMap CRoute)) : GO w0 M v' (os ++ new) (W2.setCell ⟨w0.heap.size, 3, none⟩ v') := by
  have hk := blk_by h.blk h.o hg (by decide)
  exact ⟨hk.set_to 3 v' rfl, ownk_far ho hk.slot (by decide), (h.lo.grown hg h.lo.size (fun j e => (h.o.lt j e).1)).setCell (Nat.le_refl _) v'⟩
theorem GO.next {w0 : World} {M : Cm} {v : Value} {os : List (Int × Int × Int × Int × Int)} {W W2 : World} (h : GO w0 M v os W) (hb : Below W.heap.size W W2) : GO w0 M v os W2 := ⟨h.blk.next hb, ownk_next h.o hb, h.lo.trans (hb.mono h.lo.size)⟩
end Go.Proofs.YtahnnaagpeinkaaGreatDoor

