/- The statement on prefixes put in another order, walked. -/
import Derived.Test.YtnnoigdedjbbmaaTt
namespace Go.Proofs.Ytnnoigdedjbbmaa
open Go.RowKit
theorem mod_rot {i k n : Nat} (hi : i < n) (hk : k ≤ n) : (((i : Int) + (k : Int)).tmod (n : Int)) = ((if i + k < n then i + k else i + k - n : Nat) : Int) := by
  rw [Int.tmod_eq_emod_of_nonneg (by omega)]
  split
  · rw [Int.emod_eq_of_lt (by omega) (by omega)]; omega
  · rw [← Int.sub_emod_right, Int.emod_eq_of_lt (by omega) (by omega)]; omega
theorem fold_take {xs : List Do} {i : Nat} {d : Do} (h : xs[i]? = some d) : Tr.fold (xs.take (i + 1)) = Tr.putv (Tr.fold (xs.take i)) (Tr.pf d) d.2.2 := by
  rw [Tr.take_snoc h, Tr.fold_snoc]
theorem fold_short (xs : List Do) (hn : xs.length ≤ 60) (i : Nat) : (Tr.fold (xs.take i)).length ≤ 1000000 ∧ ∀ p, ((Tr.get (Tr.fold (xs.take i)) p).getD []).length ≤ 1000000 := by
  have h := Tr.few_fold (xs.take i)
  have hl : (xs.take i).length ≤ 60 := by rw [List.length_take]; omega
  exact ⟨by have := h.1; omega, fun p => by have := h.2.1 p; omega⟩
set_option maxRecDepth 100000 in
set_option maxHeartbeats 4000000 in
theorem law_order (A : Option Addr) (n c : Nat) (xs : List Do) (by_ a : Int) (w : World) (h : RI CDo 3 w A n xs) (hwf : ∀ x ∈ xs, wfDo x) (a0 : 0 ≤ a) (a1 : a ≤ 4294967295) :
    Calls Try.prog 4 #[.slice A n c, .int .i64 by_, .int .u32 a] w fun e w' => e = .returned (.bool true) ∧ Below w.heap.size w w' := by
  by_cases hn : 30 < n
  · have hd : decide ((30 : Int) < (n : Int)) = true := by simp; omega
    go_enter Try.func4, Try.ntmps4
    go_wp2_with fail
    refine (first_any w).mono ?_
    rintro e w1 ⟨rfl, hb1⟩
    go_wp2
    go_ret
    exact ⟨rfl, hb1⟩
  have hd : decide ((30 : Int) < (n : Int)) = false := by simp; omega
  have HR : Hid (∀ W, Below w.heap.size w W → RI CDo 3 W A n xs) := Lib.hid fun W hW => h.next hW
  have HW := Lib.hid hwf
  have HN := Lib.hid h.1
  clear h hwf
  go_enter Try.func4, Try.ntmps4
  go_wp2_with fail
  refine (first_any w).mono ?_
  rintro e w1 ⟨rfl, hb1⟩
  go_wp2_with fail
  go_loopw [8] (fun i wr => ∃ k : Nat, k ≤ n ∧ i = .int .i64 k ∧ Below w.heap.size w wr ∧ ((xs.take k).map Tr.pf).Nodup) (fun i _ => n - (intOf i).toNat)
  case atStart => exact ⟨0, Nat.zero_le _, rfl, hb1, by simp⟩
  case round =>
    obtain ⟨i, hi, rfl, hb, hu⟩ := hrel
    rcases Nat.lt_or_ge i n with hlt | hge
    · obtain ⟨b, o, ⟨x, y, z⟩, rfl, hbl, hx, hc⟩ := (HR.out wr hb).at_ hlt
      have c0 : ∀ W, Below wr.heap.size wr W → W.cell? ⟨b, o + i * 3, none⟩ = some (.int .u32 x) := fun W hW => (hW.cell (p := ⟨b, o + i * 3, none⟩) hbl).trans (hc 0 _ rfl)
      have c1 : ∀ W, Below wr.heap.size wr W → W.cell? ⟨b, o + i * 3 + 1, none⟩ = some (.int .i64 y) := fun W hW => (hW.cell (p := ⟨b, o + i * 3 + 1, none⟩) hbl).trans (hc 1 _ rfl)
      have hi0 : (i : Int) < n := by omega
      have HU := Lib.hid hu
      have HX := Lib.hid hx
      have HB := Lib.hid hb
      have C0 := Lib.hid c0
      have C1 := Lib.hid c1
      clear hb1 hb hu hx hc c0 c1
      obtain ⟨v0, hv0⟩ : ∃ v, v = wr := ⟨_, rfl⟩
      subst hv0
      go_wp2_with fail
      go_loopw [9] (fun j wq => ∃ k : Nat, k ≤ i ∧ j = .int .i64 k ∧ Below v0.heap.size v0 wq ∧ ∀ d ∈ xs.take k, Tr.pf d ≠ (x, y)) (fun j _ => i - (intOf j).toNat)
      case atStart => exact ⟨0, Nat.zero_le _, rfl, Below.refl _ _, by simp⟩
      case round =>
        obtain ⟨j, hj, rfl, hbj, hne⟩ := hrel
        have hbw := HB.out.trans (hbj.mono HB.out.size)
        rcases Nat.lt_or_ge j i with hlj | hgj
        · obtain ⟨b', o', ⟨x', y', z'⟩, e1, hbl', hx', hc'⟩ := (HR.out wr hbw).at_ (show j < n by omega)
          obtain ⟨rfl, rfl⟩ : b = b' ∧ o = o' := by cases e1; exact ⟨rfl, rfl⟩
          have c0 : ∀ W, Below wr.heap.size wr W → W.cell? ⟨b, o + i * 3, none⟩ = some (.int .u32 x) := fun W hW => C0.out W (hbj.trans (hW.mono hbj.size))
          have c1 : ∀ W, Below wr.heap.size wr W → W.cell? ⟨b, o + i * 3 + 1, none⟩ = some (.int .i64 y) := fun W hW => C1.out W (hbj.trans (hW.mono hbj.size))
          have d0 : ∀ W, Below wr.heap.size wr W → W.cell? ⟨b, o + j * 3, none⟩ = some (.int .u32 x') := fun W hW => (hW.cell (p := ⟨b, o + j * 3, none⟩) hbl').trans (hc' 0 _ rfl)
          have d1 : ∀ W, Below wr.heap.size wr W → W.cell? ⟨b, o + j * 3 + 1, none⟩ = some (.int .i64 y') := fun W hW => (hW.cell (p := ⟨b, o + j * 3 + 1, none⟩) hbl').trans (hc' 1 _ rfl)
          have hj0 : (j : Int) < i := by omega
          have hj1 : (j : Int) < n := by omega
          have hS := Below.refl wr.heap.size wr
          have HBJ := Lib.hid hbj
          have HBW := Lib.hid hbw
          have HNE := Lib.hid hne
          have HX' := Lib.hid hx'
          cases hsame : (decide (x = x') && decide (y = y')) with
          | true =>
            have HSM := Lib.hid hsame
            clear hbj hbw hne hx' hc' hbl' e1 hsame
            go_wp2_with fail
            go_region_held3 (fun W => Below wr.heap.size wr W) (first | with_reducible assumption | with_reducible exact (Below.refl _ _).drew)
              (first
              | (go_at_call 12; refine (same_any _ _ _ _ _).mono ?_; rintro e w2 ⟨rfl, hb2⟩; rw [HSM.out]; have hb3 := below_drew hb2))
            have hB2 := HBW.out.trans (hb3.mono HBW.out.size)
            clear hb2 hb3 c0 c1 d0 d1 hS
            go_wp2
            go_ret
            exact ⟨rfl, hB2⟩
          | false =>
            have hn2 : Tr.pf (x', y', z') ≠ (x, y) := fun e => by
              unfold Tr.pf at e
              simp only [Prod.mk.injEq] at e
              simp [e.1, e.2] at hsame
            have HSM := Lib.hid hsame
            have HN2 := Lib.hid hn2
            clear hbj hbw hne hx' hc' hbl' e1 hsame hn2
            go_wp2_with fail
            go_region_held3 (fun W => Below wr.heap.size wr W) (first | with_reducible assumption | with_reducible exact (Below.refl _ _).drew)
              (first
              | (go_at_call 12; refine (same_any _ _ _ _ _).mono ?_; rintro e w2 ⟨rfl, hb2⟩; rw [HSM.out]; have hb3 := below_drew hb2))
            have hB2 := HBJ.out.trans (hb3.mono HBJ.out.size)
            clear hb2 hb3 c0 c1 d0 d1 hS
            go_wp2
            go_roundw
            case rel =>
              refine ⟨j + 1, by omega, by go_num, hB2, ?_⟩
              rw [Tr.take_snoc HX'.out]
              intro d hd
              rw [List.mem_append, List.mem_singleton] at hd
              rcases hd with hd | rfl
              · exact HNE.out d hd
              · exact HN2.out
            case measure => simp [intOf]; omega
        · obtain rfl : j = i := by omega
          have hd : decide ((j : Int) < (j : Int)) = false := by simp
          have HBW := Lib.hid hbw
          have HNE := Lib.hid hne
          clear hbj hbw hne
          go_wp2
          go_roundw
          case rel =>
            refine ⟨j + 1, by omega, by go_num, HBW.out, ?_⟩
            rw [Tr.take_snoc HX.out, List.map_append, List.nodup_append]
            refine ⟨HU.out, by simp, fun p hp q hq => ?_⟩
            obtain ⟨d, hd, rfl⟩ := List.mem_map.1 hp
            simp only [List.map_cons, List.map_nil, List.mem_singleton] at hq
            subst hq
            exact HNE.out d hd
          case measure => simp [intOf]; omega
    · obtain rfl : i = n := by omega
      have hu2 : (xs.map Tr.pf).Nodup := by rw [← HN.out, List.take_length] at hu; exact hu
      obtain ⟨k0, hk0, hk1⟩ : ∃ k0 : Nat, by_ % ((i : Int) + 1) = k0 ∧ k0 ≤ i := ⟨(by_ % ((i : Int) + 1)).toNat, by
        have := Int.emod_nonneg by_ (show (i : Int) + 1 ≠ 0 by omega)
        omega, by
        have := Int.emod_lt_of_pos by_ (show 0 < (i : Int) + 1 by omega)
        have := Int.emod_nonneg by_ (show (i : Int) + 1 ≠ 0 by omega)
        omega⟩
      have N1 := fun W => number_any by_ ((i : Int) + 1) W (by omega) (by omega)
      rw [hk0] at N1
      have hsz := hb.size
      have hT := TT.new wr hsz
      have hB2 := (hb.alloc hsz (.cells #[.map none] 31)).alloc (by simp; omega) (.cells #[.map none] 31)
      have HU := Lib.hid hu2
      clear hb1 hb hu hk0 hge
      go_wp2_with fail
      refine (N1 _).mono ?_
      rintro e w2 ⟨rfl, rfl⟩
      generalize hW2 : (wr.alloc (.cells #[.map none] 31)).alloc (.cells #[.map none] 31) = w2 at *
      clear hW2 N1
      generalize wr.heap.size = M at *
      clear hsz
      go_wp2_with fail
      go_loopw [13] (fun j wr => ∃ k : Nat, k ≤ i ∧ j = .int .i64 k ∧ TT w.heap.size wr M (Tr.fold (xs.take k)) (M + 1) (Tr.fold ((Tr.rot xs k0).take k)) ∧ Below w.heap.size w wr) (fun j _ => i - (intOf j).toNat)
      case atStart => exact ⟨0, Nat.zero_le _, rfl, by simpa [Tr.fold] using hT, hB2⟩
      case round =>
        obtain ⟨j, hj, rfl, hO, hb⟩ := hrel
        have hsz : w.heap.size ≤ wr.heap.size := hb.size
        rcases Nat.lt_or_ge j i with hlt | hge
        · obtain ⟨J, hJ⟩ : ∃ J : Nat, J = if j + k0 < i then j + k0 else j + k0 - i := ⟨_, rfl⟩
          have hJi : J < i := by rw [hJ]; split <;> omega
          obtain ⟨b, o, ⟨x, y, z⟩, hA, hbl, hx, hc⟩ := (HR.out w (Below.refl _ _)).at_ hlt
          obtain ⟨b', o', ⟨x', y', z'⟩, hA', hbl', hx', hc'⟩ := (HR.out w (Below.refl _ _)).at_ hJi
          subst hA
          obtain ⟨rfl, rfl⟩ : b = b' ∧ o = o' := by cases hA'; exact ⟨rfl, rfl⟩
          have c0 : ∀ W, Below w.heap.size w W → W.cell? ⟨b, o + j * 3, none⟩ = some (.int .u32 x) := fun W hW => (hW.cell (p := ⟨b, o + j * 3, none⟩) hbl).trans (hc 0 _ rfl)
          have c1 : ∀ W, Below w.heap.size w W → W.cell? ⟨b, o + j * 3 + 1, none⟩ = some (.int .i64 y) := fun W hW => (hW.cell (p := ⟨b, o + j * 3 + 1, none⟩) hbl).trans (hc 1 _ rfl)
          have c2 : ∀ W, Below w.heap.size w W → W.cell? ⟨b, o + j * 3 + 2, none⟩ = some (.int .i64 z) := fun W hW => (hW.cell (p := ⟨b, o + j * 3 + 2, none⟩) hbl).trans (hc 2 _ rfl)
          have D0 : Hid (∀ W, Below w.heap.size w W → W.cell? ⟨b, o + J * 3, none⟩ = some (.int .u32 x')) := Lib.hid fun W hW => (hW.cell (p := ⟨b, o + J * 3, none⟩) hbl).trans (hc' 0 _ rfl)
          have D1 : Hid (∀ W, Below w.heap.size w W → W.cell? ⟨b, o + J * 3 + 1, none⟩ = some (.int .i64 y')) := Lib.hid fun W hW => (hW.cell (p := ⟨b, o + J * 3 + 1, none⟩) hbl).trans (hc' 1 _ rfl)
          have D2 : Hid (∀ W, Below w.heap.size w W → W.cell? ⟨b, o + J * 3 + 2, none⟩ = some (.int .i64 z')) := Lib.hid fun W hW => (hW.cell (p := ⟨b, o + J * 3 + 2, none⟩) hbl).trans (hc' 2 _ rfl)
          have HM := Lib.hid ((mod_rot (i := j) (k := k0) (n := i) hlt hk1).trans (by rw [hJ]) : (((j : Int) + (k0 : Int)).tmod (i : Int)) = (J : Int))
          have HX := Lib.hid hx
          have HX' : Hid ((Tr.rot xs k0)[j]? = some (x', y', z')) := Lib.hid (by
            rw [Tr.rot_at xs k0 j (by rw [HN.out]; exact hlt), HN.out, ← hJ, List.getD_eq_getElem?_getD, hx']; rfl)
          have HWF := Lib.hid (HW.out _ (List.mem_of_getElem? hx))
          have HWF' := Lib.hid (HW.out _ (List.mem_of_getElem? hx'))
          have HS := Lib.hid (fold_short xs (by rw [HN.out]; omega) j)
          have HS' := Lib.hid (fold_short (Tr.rot xs k0) (by rw [Tr.rot_len, HN.out]; omega) j)
          have hj0 : (j : Int) < i := by omega
          have hJ0 : (J : Int) < i := by omega
          have hi0 : ((i : Int) == 0) = false := by simp; omega
          have hS0 := hb
          have hS1 := hb.drew
          have hO1 := hO.next ((Below.refl wr.heap.size wr).drew)
          have F1 : Hid (Tr.fold (xs.take (j + 1)) = Tr.putv (Tr.fold (xs.take j)) (x, y) z) := Lib.hid (fold_take hx)
          have F2 : Hid (Tr.fold ((Tr.rot xs k0).take (j + 1)) = Tr.putv (Tr.fold ((Tr.rot xs k0).take j)) (x', y') z') := Lib.hid (fold_take HX'.out)
          have P1 := tt_put wr.drew x y z hO1 hsz ⟨HWF.out.1, HWF.out.2.1⟩ HS.out.1 (HS.out.2 _)
          clear hT hB2 hx hx' hc hc' hA' hbl hbl' hJ hO
          go_wp2_with fail
          go_region_held3 (fun W => Below w.heap.size w W) (first | with_reducible assumption)
            (first
            | (go_at_call 7; refine P1.mono ?_; rintro e w3 ⟨rfl, hO3, hB3⟩; have hB4 := hS1.trans hB3))
          rw [← F1.out] at hO3
          have hsz3 : w.heap.size ≤ w3.heap.size := hB4.size
          have hO4 := hO3.swap.next ((Below.refl w3.heap.size w3).drew)
          have P2 := tt_put w3.drew x' y' z' hO4 hsz3 ⟨HWF'.out.1, HWF'.out.2.1⟩ HS'.out.1 (HS'.out.2 _)
          have d0 := D0.out
          have d1 := D1.out
          have d2 := D2.out
          have hm := HM.out
          have hT0 := hB4
          have hT1 := hB4.drew
          clear hS0 hS1 hb hB3 hO1 hO3 hO4 c0 c1 c2 P1
          go_wp2_with fail
          go_region_held3 (fun W => Below w.heap.size w W) (first | with_reducible assumption)
            (first
            | (go_at_call 7; refine P2.mono ?_; rintro e w4 ⟨rfl, hO5, hB5⟩; have hB6 := hT1.trans hB5))
          rw [← F2.out] at hO5
          have hO6 := hO5.swap
          clear hT0 hT1 hB5 hO5 d0 d1 d2 hm P2
          go_wp2
          go_roundw
          case rel => exact ⟨j + 1, by omega, by go_num, hO6, hB6⟩
          case measure => simp [intOf]; omega
        · obtain rfl : j = i := by omega
          have hd2 : decide ((j : Int) < (j : Int)) = false := by simp
          rw [show xs.take j = xs by rw [← HN.out, List.take_length], show (Tr.rot xs k0).take j = Tr.rot xs k0 by rw [← HN.out, ← Tr.rot_len xs k0, List.take_length]] at hO
          have hG := Tr.get_same HU.out (Tr.rot_apart xs k0 (by rw [HN.out]; exact hk1) HU.out) (Tr.rot_mem xs k0 (by rw [HN.out]; exact hk1))
          have hS := fold_short xs (by rw [HN.out]; omega) j
          have hS' := fold_short (Tr.rot xs k0) (by rw [Tr.rot_len, HN.out]; omega) j
          rw [show xs.take j = xs by rw [← HN.out, List.take_length]] at hS
          rw [show (Tr.rot xs k0).take j = Tr.rot xs k0 by rw [← HN.out, ← Tr.rot_len xs k0, List.take_length]] at hS'
          have HLK := Lib.hid (Tr.look_same hG a)
          have HLN := Lib.hid (Tr.len_same (Tr.apart_fold _) (Tr.apart_fold _) hG)
          have HSO : Hid (∀ ks ms, Tr.Sorts (Tr.fold xs) ks → Tr.Sorts (Tr.fold (Tr.rot xs k0)) ms → ks = ms) := Lib.hid fun ks ms h1 h2 => Tr.sorts_same (Tr.apart_fold _) (Tr.apart_fold _) hG h1 h2
          have HS := Lib.hid hS
          have HS' := Lib.hid hS'
          have HB := Lib.hid hb
          clear hT hB2 hG hS hS' hb
          generalize Tr.fold xs = L1 at *
          generalize Tr.fold (Tr.rot xs k0) = L2 at *
          have HX1 : Hid ((lkX L1 a).length ≤ 1000000) := Lib.hid (lkX_short HS.out.2 a)
          have HP2 : Hid (lkP L2 a = lkP L1 a) := Lib.hid (by unfold lkP; rw [HLK.out])
          have HX2 : Hid (lkX L2 a = lkX L1 a) := Lib.hid (by unfold lkX; rw [HLK.out])
          have HI2 : Hid ((Tr.look L2 a).isSome = (Tr.look L1 a).isSome) := Lib.hid (by rw [HLK.out])
          go_wp2_with fail
          refine (ot_look wr a hO.fst a0 a1 HS.out.2).mono ?_
          intro e w3 hp
          obtain ⟨hb3, A1, c1, rfl, hJ3⟩ := look_uni hp
          clear hp
          have hsz3 := hb3.alloc hb3.size (.cells #[.int .u32 (lkP L1 a).1, .int .i64 (lkP L1 a).2] 27)
          have hO4 := hO.next hsz3
          have hB4 := HB.out.trans (hsz3.mono hsz)
          have hJ4 := hJ3.next ((Below.refl _ _).alloc (Nat.le_refl _) (.cells #[.int .u32 (lkP L1 a).1, .int .i64 (lkP L1 a).2] 27))
          have p0 : (w3.alloc (.cells #[.int .u32 (lkP L1 a).1, .int .i64 (lkP L1 a).2] 27)).cell? ⟨w3.heap.size, 0, none⟩ = some (.int .u32 (lkP L1 a).1) := by go_simp
          have p1 : (w3.alloc (.cells #[.int .u32 (lkP L1 a).1, .int .i64 (lkP L1 a).2] 27)).cell? ⟨w3.heap.size, 1, none⟩ = some (.int .i64 (lkP L1 a).2) := by go_simp
          have hlt3 : w3.heap.size < (w3.alloc (.cells #[.int .u32 (lkP L1 a).1, .int .i64 (lkP L1 a).2] 27)).heap.size := by simp
          clear hO hb3 hJ3 hsz3 hsz
          generalize hQ3 : w3.heap.size = Q3 at *
          go_wp2_with fail
          generalize w3.alloc (.cells #[.int .u32 (lkP L1 a).1, .int .i64 (lkP L1 a).2] 27) = w4 at *
          clear hQ3
          refine (ot_look w4 a hO4.snd a0 a1 HS'.out.2).mono ?_
          intro e w5 hp
          obtain ⟨hb5, A2, c2, rfl, hJ5⟩ := look_uni hp
          clear hp
          rw [HP2.out, HX2.out, HI2.out]
          rw [HX2.out] at hJ5
          have hsz4 : w.heap.size ≤ w4.heap.size := hB4.size
          have hsz5 := hb5.alloc hb5.size (.cells #[.int .u32 (lkP L1 a).1, .int .i64 (lkP L1 a).2] 27)
          have hO6 := hO4.next hsz5
          have hB6 := hB4.trans (hsz5.mono hsz4)
          have hJ6 := hJ4.next hsz5
          have hK6 := hJ5.next ((Below.refl _ _).alloc (Nat.le_refl _) (.cells #[.int .u32 (lkP L1 a).1, .int .i64 (lkP L1 a).2] 27))
          have p2 := (hsz5.cell (p := ⟨Q3, 0, none⟩) hlt3).trans p0
          have p3 := (hsz5.cell (p := ⟨Q3, 1, none⟩) hlt3).trans p1
          have q0 : (w5.alloc (.cells #[.int .u32 (lkP L1 a).1, .int .i64 (lkP L1 a).2] 27)).cell? ⟨w5.heap.size, 0, none⟩ = some (.int .u32 (lkP L1 a).1) := by go_simp
          have q1 : (w5.alloc (.cells #[.int .u32 (lkP L1 a).1, .int .i64 (lkP L1 a).2] 27)).cell? ⟨w5.heap.size, 1, none⟩ = some (.int .i64 (lkP L1 a).2) := by go_simp
          clear hO4 hb5 hJ4 hJ5 hsz4 hsz5 p0 p1 hB4 hlt3
          have hbb : ((Tr.look L1 a).isSome == (Tr.look L1 a).isSome) = true := by simp
          generalize hP : lkP L1 a = P at *
          generalize hXX : lkX L1 a = X at *
          generalize hII : (Tr.look L1 a).isSome = I at *
          obtain ⟨P1, P2⟩ := P
          clear hP hXX hII HP2 HX2 HI2 HLK
          generalize hQ5 : w5.heap.size = Q5 at *
          go_wp2_with fail
          generalize w5.alloc (.cells #[.int .u32 P1, .int .i64 P2] 27) = w6 at *
          clear hQ5
          refine (same_any P1 P2 P1 P2 w6).mono ?_
          rintro e w7 ⟨rfl, hb7⟩
          have hsz6 : w.heap.size ≤ w6.heap.size := hB6.size
          have hO7 := hO6.next hb7
          have hB7 := hB6.trans (hb7.mono hsz6)
          have hJ7 := hJ6.next hb7
          have hK7 := hK6.next hb7
          have hsz7 : w.heap.size ≤ w7.heap.size := hB7.size
          simp only [decide_true, Bool.and_self]
          clear hO6 hb7 hB6 hJ6 hK6 hsz6 p2 p3 q0 q1
          go_wp2_with fail
          refine (jsame_any A1 A2 _ _ c1 c2 X X w7 hJ7 hK7 (by have := HX1.out; omega) (by have := HX1.out; omega)).mono ?_
          rintro e w8 ⟨rfl, hb8⟩
          simp only [decide_true]
          have hO8 := hO7.next hb8
          have hB8 := hB7.trans (hb8.mono hsz7)
          have hsz8 : w.heap.size ≤ w8.heap.size := hB8.size
          clear hO7 hb8 hB7 hJ7 hK7 hsz7
          go_wp2_with fail
          refine (ot_all w8 hO8.fst HS.out.1).mono ?_
          rintro e w9 ⟨A3, c3, ks, rfl, hR9, hT9, hb9⟩
          have hO9 := hO8.next hb9
          have hB9 := hB8.trans (hb9.mono hsz8)
          have hsz9 : w.heap.size ≤ w9.heap.size := hB9.size
          have HT9 := Lib.hid hT9
          clear hO8 hb9 hB8 hsz8 hT9
          go_wp2_with fail
          refine (ot_all w9 hO9.snd HS'.out.1).mono ?_
          rintro e w10 ⟨A4, c4, ms, rfl, hR10, hT10, hb10⟩
          have hO10 := hO9.next hb10
          have hB10 := hB9.trans (hb10.mono hsz9)
          have hsz10 : w.heap.size ≤ w10.heap.size := hB10.size
          have hR11 := hR9.next hb10
          have hkm := HSO.out ks ms HT9.out hT10
          have hll := HLN.out
          have hshort := HS.out.1
          rw [← hll] at hR10 ⊢
          generalize hLL : L1.length = m1 at *
          have HKM := Lib.hid hkm
          have HLL := Lib.hid hLL
          have HL2 := Lib.hid hll
          clear hO9 hb10 hB9 hsz9 hT10 hkm hLL hll hR9
          go_wp2_with fail
          refine (sames_any A3 A4 m1 c3 c4 ks ms w10 hR11 hR10 HKM.out (by omega)).mono ?_
          rintro e w11 ⟨rfl, hb11⟩
          have hO11 := hO10.next hb11
          have hB11 := hB10.trans (hb11.mono hsz10)
          clear hO10 hb11 hB10 hsz10 hR11 hR10
          go_wp2_with fail
          refine (ot_len w11 hO11.fst).mono ?_
          rintro e w12 ⟨rfl, rfl⟩
          go_wp2_with fail
          refine (ot_len w11 hO11.snd).mono ?_
          rintro e w12 ⟨rfl, rfl⟩
          rw [HLL.out, ← HL2.out]
          have hmm : ((m1 : Int) == (m1 : Int)) = true := by simp
          go_wp2
          go_ret
          exact ⟨rfl, hB11⟩
end Go.Proofs.Ytnnoigdedjbbmaa

