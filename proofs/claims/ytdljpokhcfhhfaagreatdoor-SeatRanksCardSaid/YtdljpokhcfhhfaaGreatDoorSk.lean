/- slices.Sort of no address; maps.Keys over a map by addresses is an iterator; over the seat's program. slices.Sorted over maps.Keys of a map that counts addresses: each once, rising; over the seat's program. -/
import Derived.Test.YtdljpokhcfhhfaaGreatDoorAs
import Derived.Test.YtdljpokhcfhhfaaGreatDoorKa
import Derived.Test.YtdljpokhcfhhfaaGreatDoorShelf
import Derived.OwnWalk
import Derived.Handy
import Derived.Carry
import Derived.Test.YtdljpokhcfhhfaaGreatDoorPi
import Derived.Test.YtdljpokhcfhhfaaGreatDoorKit
import Derived.Test.YtdljpokhcfhhfaaGreatDoorStr
namespace Go.Proofs.YtdljpokhcfhhfaaGreatDoor
open Go.RowKit Sm
theorem ins0_any (A : Option Addr) (c : Nat) (w : World) :
    Calls Tryz.prog 226 #[.slice A 0 c, .int .i64 0, .int .i64 0] w fun e w' => e = .returned (.tuple #[]) ∧ Below w.heap.size w w' := by
  go_enter Tryz.func226, Tryz.ntmps226
  go_wp2
  go_loopw [6] (fun i wr => i = .int .i64 1 ∧ Below w.heap.size w wr) (fun _ _ => 0)
  case atStart => exact ⟨rfl, Below.refl _ _⟩
  case round =>
    obtain ⟨rfl, hb⟩ := hrel
    go_wp2
    go_returns
    exact ⟨rfl, hb⟩
theorem pdq0_any (A : Option Addr) (c : Nat) (l : Int) (w : World) :
    Calls Tryz.prog 190 #[.slice A 0 c, .int .i64 0, .int .i64 0, .int .i64 l] w fun e w' => e = .returned (.tuple #[]) ∧ Below w.heap.size w w' := by
  go_enter Tryz.func190, Tryz.ntmps190
  go_wp2
  go_loopw [1, 2, 3, 8, 9] (fun a b l' x y wr => a = .int .i64 0 ∧ b = .int .i64 0 ∧ l' = .int .i64 l ∧ x = .bool true ∧ y = .bool true ∧ Below w.heap.size w wr) (fun _ _ _ _ _ _ => 0)
  case atStart => exact ⟨rfl, rfl, rfl, rfl, rfl, Below.refl _ _⟩
  case round =>
    obtain ⟨rfl, rfl, rfl, rfl, rfl, hb⟩ := hrel
    go_wp2_with (go_at_call 226; refine (ins0_any A c _).mono ?_; rintro e w1 ⟨rfl, hb1⟩)
    go_returns
    exact ⟨rfl, below_next hb hb1⟩
theorem sort0_any (A : Option Addr) (c : Nat) (w : World) :
    Calls Tryz.prog 119 #[.slice A 0 c] w fun e w' => e = .returned (.tuple #[]) ∧ Below w.heap.size w w' := by
  have HL := Lib.hid (fun W => Tryz.bits_Len 0 W (by omega) (by omega))
  go_enter Tryz.func119, Tryz.ntmps119
  go_wp2_with (first
    | (go_at_call 191; refine (HL.out _).mono ?_; rintro e w1 ⟨rfl, rfl⟩)
    | (go_at_call 190; refine (pdq0_any A c _ _).mono ?_; rintro e w1 ⟨rfl, hb⟩))
  go_returns
  exact ⟨rfl, hb⟩
theorem eKeysU : ∀ args w, (callFunc 185 args).run Tryz.prog w = .ok (.enter 185 args) w := enters_of Tryz.func185 (by kernel_rfl) rfl
theorem allMet_nil {ss : List Int} (h : AllMetU (.map []) ss) : ss = [] := by
  obtain ⟨left, hm, _⟩ := h
  cases ss with
  | nil => rfl
  | cons x ss =>
    obtain ⟨kl, hk⟩ := hm.keys x (List.mem_cons_self ..)
    have := ((hm.just x kl hk).1 (List.mem_cons_self ..)).1
    simp [Maps.has] at this
end Go.Proofs.YtdljpokhcfhhfaaGreatDoor
namespace Go.Proofs.YtdljpokhcfhhfaaGreatDoor
open Go.RowKit Sm Go.Maps Go.Sort Go.Shelf
/-- a map that counts: so often each address -/
def CntOK (D : DataW Unit) (L : List Int) : Prop := IsMap D ∧ ∀ a, U32 a → Maps.has D (.int .u32 a) = decide (a ∈ L) ∧ D.atKey (.int .u32 a) (.lit (.int .i64 0)) = .lit (.int .i64 ((L.count a : Nat) : Int))
theorem cnt_nil : CntOK (.map []) [] := ⟨⟨_, rfl⟩, fun a _ => ⟨by simp [Maps.has], by simp [DataW.atKey]⟩⟩
theorem cnt_put {D : DataW Unit} {L : List Int} (h : CntOK D L) (a : Int) : CntOK (D.put (.int .u32 a) (.lit (.int .i64 (((L.count a : Nat) : Int) + 1)))) (L ++ [a]) := by
  refine ⟨h.1.put _ _, fun b hb => ?_⟩
  obtain ⟨h1, h2⟩ := h.2 b hb
  by_cases e : a = b
  · subst e
    rw [has_put_same h.1 (lit_key _), atKey_put_same h.1 (lit_key _)]
    simp
  · have hne : (Lit.int .u32 b) ≠ .int .u32 a := fun q => e (by cases q; rfl)
    rw [has_put_other hne, atKey_put_other hne, h1, h2]
    have hc : List.count b [a] = 0 := List.count_eq_zero.2 (by simp; exact fun q => e q.symm)
    rw [List.count_append, hc]
    simp [Ne.symm e]
theorem key_wf {a : Int} {kl : Lit} (h : keyOf Tryz.prog 42 (ua a) = some kl) : kl = .int .u32 a ∧ U32 a := by
  simp [keyOf, ua, Tryz.underlying42, mapKey] at h
  obtain ⟨hw, rfl⟩ := h
  exact ⟨rfl, wf_u32 hw⟩
/-- a map has just these keys -/
def HasOK (D : DataW Unit) (L : List Int) : Prop := ∀ a, U32 a → Maps.has D (.int .u32 a) = decide (a ∈ L)
theorem CntOK.has {D : DataW Unit} {L : List Int} (h : CntOK D L) : HasOK D L := fun a ha => (h.2 a ha).1
theorem met_groups {D : DataW Unit} {L ss : List Int} (h : HasOK D L) (hu : ∀ a ∈ L, U32 a) (hm : AllMetU D ss) : ss.Perm (nubA L) ∧ ∀ a ∈ ss, U32 a := by
  obtain ⟨left, hm, hl⟩ := hm
  have key : ∀ a, a ∈ ss → U32 a ∧ a ∈ L := fun a ha => by
    obtain ⟨kl, hk⟩ := hm.keys a ha
    obtain ⟨rfl, hua⟩ := key_wf hk
    have := ((hm.just a _ hk).1 ha).1
    rw [h a hua] at this
    exact ⟨hua, by simpa using this⟩
  refine ⟨same_once hm.apart fun a => ⟨fun ha => (key a ha).2, fun ha => ?_⟩, fun a ha => (key a ha).1⟩
  have hk := keyOf_int_mk Tryz.underlying42 (wf_a (hu a ha))
  exact (hm.just a _ hk).2 ⟨by rw [h a (hu a ha)]; simpa using ha, hl _⟩
set_option maxHeartbeats 2000000 in
theorem sorted_any (Bm b nn : Nat) (D : DataW Unit) (L : List Int) (w : World) (hBm : Bm < w.heap.size) (hm : w.cell? ⟨Bm, 0, none⟩ = some (.map (some b))) (hown : w.ownsMap Tryz.prog 42 (plainElem (H := Unit) Tryz.prog 3) b nn D) (hc : HasOK D L) (hu : ∀ a ∈ L, U32 a) (hn : (nubA L).length ≤ 1000000) (hnn : nn ≤ 1000000) :
    Calls Tryz.prog 106 #[.func (.func 185) #[] #[.pointer (some ⟨Bm, 0, none⟩)]] w fun e w' =>
      ∃ (A : Option Addr) (c : Nat), e = .returned (.slice A (groupsL L).length c) ∧ w'.ownsRow w.heap.size 42 1 (.slice A (groupsL L).length c) (groupsL L).length (A32 (groupsL L)) ∧ Below w.heap.size w w' := by
  have hcol := callsIn_wide.1 (collect_inU Fence.wide 3 trivial trivial rfl (by omega) _ _ trivial eKeysU _ _ _ (Nat.le_trans hown.size_le hnn) w w (Below.refl _ _) (keys_stopsU Fence.wide 1 trivial rfl (by omega) Bm b nn D w hBm hm hown))
  clear hown hm
  go_enter Tryz.func106, Tryz.ntmps106
  go_wp2_with fail
  refine hcol.mono ?_
  rintro e w1 ⟨v, ss, rfl, hS, hrow, hb⟩
  obtain ⟨hp, hus⟩ := met_groups hc hu hS
  have hl : ss.length = (nubA L).length := hp.length_eq
  have hgl : (groupsL L).length = ss.length := by unfold groupsL; rw [sortA_len, hl]
  have hgs : sortA ss = groupsL L := sortA_same hp
  obtain ⟨A, c, rfl, hnc, hA⟩ := own_slice hrow
  have HB := Lib.hid hb
  have HR : Hid (w1.ownsRow w.heap.size 42 1 (.slice A ss.length c) ss.length (A32 ss)) := Lib.hid hrow
  by_cases h0 : ss.length = 0
  · obtain rfl : ss = [] := List.eq_nil_of_length_eq_zero h0
    have hg0 : groupsL L = [] := List.eq_nil_of_length_eq_zero (by rw [hgl]; rfl)
    have HG0 := Lib.hid hg0
    clear hrow hS hb hcol hp hl hgl hgs hA hg0
    go_wp2_with (go_at_call 119; refine (sort0_any A c _).mono ?_; rintro e w2 ⟨rfl, hb2⟩)
    go_ret
    rw [HG0.out]
    exact ⟨A, c, rfl, own_next HR.out hb2, below_next HB.out hb2⟩
  · obtain ⟨g, rfl, hg1, hg2⟩ := hA (by omega)
    have HS := Lib.hid (sort_any w.heap.size g ss.length c ss w1 HR.out (by omega) (by omega))
    have HG := Lib.hid (And.intro hgl hgs)
    clear hrow hS hb hcol hp hl hgl hgs hA hg1 hg2
    go_wp2_with (go_at_call 119; refine HS.out.mono ?_; rintro e w2 ⟨rfl, hs2⟩)
    go_ret
    have h2 := hs2.own
    rw [HG.out.2, ← HG.out.1] at h2
    rw [← HG.out.1]
    exact ⟨_, c, rfl, h2, HB.out.trans (hs2.below HB.out.size)⟩
end Go.Proofs.YtdljpokhcfhhfaaGreatDoor

