/- rib's innermost functions: an address begins as a prefix, the places of the most bits; over the seat's program. -/
import Derived.Test.YtahnnaagpeinkaaGreatDoorRp0
import Derived.Test.YtahnnaagpeinkaaGreatDoorJr
import Derived.Test.YtahnnaagpeinkaaGreatDoorCl0
import Derived.Deep.Cut
namespace Go.Proofs.YtahnnaagpeinkaaGreatDoor
open Go.RowKit Lx Sm
set_option maxHeartbeats 1000000 in
theorem begins_any (a p b : Int) (h0 : 0 ≤ b) (h1 : b ≤ 32) (w : World) :
    Calls Tryz.prog 114 #[.int .u32 a, .agg #[.int .u32 p, .int .i64 b]] w fun e w' => e = .returned (.bool (beg a p b)) ∧ Below w.heap.size w w' := by
  have h2 : wrap64 (32 - b) = 32 - b := by unfold wrap64; omega
  have h3 : ¬ (32 - b < 0) := by omega
  go_enter Tryz.func114, Tryz.ntmps114
  go_wp2
  go_quiet (fail)
  go_wp2
  go_ret
  exact ⟨ret_bool (by unfold beg; rfl), below_drewN ((Below.refl _ _).alloc (Nat.le_refl _) _) _⟩
theorem own_jrc {W : World} {base : Nat} {v : Value} {xs : List Int} (h : W.ownsRow base 3 1 v xs.length (I64 xs)) : ∃ A c, v = .slice A xs.length c ∧ xs.length ≤ c ∧ JR W A xs.length xs := by
  have h0 := h
  rcases h.2 with ⟨rfl, hl⟩ | ⟨g, cap, cur, rfl, hbg, hh, hnc, _⟩
  · exact ⟨none, 0, by rw [hl], by omega, rfl, fun hn => by omega⟩
  · refine ⟨_, cap, rfl, hnc, rfl, fun _ => ⟨g, 0, rfl, (Array.getElem?_eq_some_iff.1 hh).1, fun i hi => ?_⟩⟩
    rw [Nat.zero_add, h0.cellAt i (by omega)]
    simp [I64, List.getD, hi]
/-- one place more -/
def stepP (P : Int → Int × Int) (a : Int) (s : List Int × Int) (i : Int) : List Int × Int := if beg a (P i).1 (P i).2 = false ∨ (P i).2 < s.2 then s else if s.2 < (P i).2 then ([i], (P i).2) else (s.1 ++ [i], s.2)
theorem longP_fold (P : Int → Int × Int) (a : Int) : ∀ (L f : List Int) (m : Int), longP P a L f m = L.foldl (stepP P a) (f, m)
  | [], _, _ => rfl
  | i :: L, f, m => by
    have ih := longP_fold P a L
    simp only [longP, List.foldl_cons, stepP]
    split
    · exact ih _ _
    · split <;> exact ih _ _
theorem foldP_len (P : Int → Int × Int) (a : Int) : ∀ (L : List Int) (s : List Int × Int), (L.foldl (stepP P a) s).1.length ≤ s.1.length + L.length
  | [], _ => by simp
  | i :: L, s => by
    have := foldP_len P a L (stepP P a s i)
    have h2 : (stepP P a s i).1.length ≤ s.1.length + 1 := by
      unfold stepP
      split
      · omega
      · split <;> simp
    simp only [List.foldl_cons, List.length_cons]
    omega
set_option maxHeartbeats 4000000 in
set_option maxRecDepth 100000 in
theorem longest_any (g : Nat) (lb : Array Value) (eg : ∀ args w, (callFunc g args).run Tryz.prog w = .ok (.enter g args) w) (P : Int → Int × Int) (A : Option Addr) (n c : Nat) (xs : List Int) (a : Int) (w : World) (hj : JR w A n xs) (hn : n ≤ 1000000)
    (hb : ∀ i ∈ xs, 0 ≤ (P i).2 ∧ (P i).2 ≤ 32)
    (hp : ∀ (W : World) (i : Int), i ∈ xs → Below w.heap.size w W → Calls Tryz.prog g (#[.int .i64 i] ++ lb) W fun e w' => e = .returned (.agg #[.int .u32 (P i).1, .int .i64 (P i).2]) ∧ Below W.heap.size W w') :
    Calls Tryz.prog 60 #[.slice A n c, .int .u32 a, .func (.func g) #[] lb] w fun e w' => ∃ A' c', e = .returned (.tuple #[.slice A' (longP P a xs [] 0).1.length c', .int .i64 (longP P a xs [] 0).2]) ∧ (longP P a xs [] 0).1.length ≤ c' ∧ JR w' A' (longP P a xs [] 0).1.length (longP P a xs [] 0).1 ∧ Below w.heap.size w w' := by
  obtain ⟨i0, hi, hz0, hz1, hz2⟩ := info_parts info_int
  have HP := Lib.hid hp
  have HJ := Lib.hid hj
  have HBB := Lib.hid hb
  have HL := Lib.hid hj.1
  have hB0 := Lib.hid (Below.refl w.heap.size w)
  rw [longP_fold]
  clear hp hj hb
  go_enter Tryz.func60, Tryz.ntmps60
  go_wp2
  go_loopw [6, 7, 13] (fun v u i wr => ∃ (k : Nat) (F : List Int) (m : Int), k ≤ n ∧ i = .int .i64 k ∧ u = .int .i64 m ∧ Hid ((xs.take k).foldl (stepP P a) ([], 0) = (F, m)) ∧ Hid (wr.ownsRow w.heap.size 3 1 v F.length (I64 F)) ∧ Hid (Below w.heap.size w wr)) (fun _ _ i _ => n - (intOf i).toNat)
  case atStart => exact ⟨0, [], 0, Nat.zero_le _, rfl, rfl, rfl, Lib.hid (by simpa [I64] using World.ownsRow_nil _ _ _ _), hB0⟩
  case round =>
    obtain ⟨k, F, m, hk, rfl, rfl, HF, HO, HBK⟩ := hrel
    rcases Nat.lt_or_ge k n with hlt | hge
    · obtain ⟨b2, o2, rfl, _, hc2⟩ := (HJ.out.next HBK.out).at_ hlt
      have hmem : xs.getD k 0 ∈ xs := by
        have : k < xs.length := by have := HL.out; omega
        rw [List.getD_eq_getElem?_getD, List.getElem?_eq_getElem this]
        exact List.getElem_mem this
      have HT : Hid ((xs.take (k + 1)).foldl (stepP P a) ([], 0) = stepP P a (F, m) (xs.getD k 0)) := Lib.hid (by
        rw [take_next (by have := HL.out; omega), List.foldl_append, HF.out]; rfl)
      have HFL : Hid (F.length ≤ 1000000) := Lib.hid (by
        have h := foldP_len P a (xs.take k) ([], 0)
        rw [HF.out, List.length_take] at h
        simp at h
        omega)
      obtain ⟨hq0, hq1⟩ := HBB.out _ hmem
      have hcall := Lib.hid (HP.out wr _ hmem HBK.out)
      generalize xs.getD k 0 = q at *
      have HSt : Hid (stepP P a (F, m) q = if beg a (P q).1 (P q).2 = false ∨ (P q).2 < m then (F, m) else if m < (P q).2 then ([q], (P q).2) else (F ++ [q], m)) := Lib.hid rfl
      generalize P q = pq at *
      obtain ⟨pa, pb⟩ := pq
      dsimp only at hq0 hq1 hcall HSt
      have hbg := Lib.hid fun W => begins_any a pa pb hq0 hq1 W
      have hi0 : (k : Int) < (n : Int) := by omega
      clear hmem
      cases hbq : beg a pa pb with
      | false =>
        rw [hbq] at hbg
        have HS2 : Hid ((xs.take (k + 1)).foldl (stepP P a) ([], 0) = (F, m)) := Lib.hid (by rw [HT.out, HSt.out, if_pos (.inl hbq)])
        clear hbq hq0 hq1
        go_wp2_with (first
          | (go_at_fn g; refine hcall.out.mono ?_; rintro e w1 ⟨rfl, hb1⟩; have HB1 := Lib.hid (below_next HBK.out hb1); have HO1 := Lib.hid (ownk_next HO.out hb1); clear hb1)
          | (go_at_call 114; refine (hbg.out _).mono ?_; rintro e w2 ⟨rfl, hb2⟩; have HB2 := Lib.hid (below_next (HB1.out.alloc HB1.out.size _) hb2); have HO2 := Lib.hid (ownk_next (HO1.out.alloc _) hb2); clear hb2))
        go_roundw
        case rel => exact ⟨k + 1, F, m, by omega, by go_num, rfl, HS2, HO2, HB2⟩
        case measure => simp [intOf]; omega
      | true =>
        rw [hbq] at hbg
        by_cases hlm : pb < m
        · have HS2 : Hid ((xs.take (k + 1)).foldl (stepP P a) ([], 0) = (F, m)) := Lib.hid (by rw [HT.out, HSt.out, if_pos (.inr hlm)])
          clear hbq hq0 hq1
          go_wp2_with (first
            | (go_at_fn g; refine hcall.out.mono ?_; rintro e w1 ⟨rfl, hb1⟩; have HB1 := Lib.hid (below_next HBK.out hb1); have HO1 := Lib.hid (ownk_next HO.out hb1); clear hb1)
            | (go_at_call 114; refine (hbg.out _).mono ?_; rintro e w2 ⟨rfl, hb2⟩; have y1 : w2.cell? ⟨w1.heap.size, 1, none⟩ = some (.int .i64 pb) := (hb2.cell (p := ⟨w1.heap.size, 1, none⟩) (by simp)).trans (by go_simp); have HB2 := Lib.hid (below_next (HB1.out.alloc HB1.out.size _) hb2); have HO2 := Lib.hid (ownk_next (HO1.out.alloc _) hb2); clear hb2))
          go_roundw
          case rel => exact ⟨k + 1, F, m, by omega, by go_num, rfl, HS2, HO2, HB2⟩
          case measure => simp [intOf]; omega
        · by_cases hgm : m < pb
          · have HS2 : Hid ((xs.take (k + 1)).foldl (stepP P a) ([], 0) = ([q], pb)) := Lib.hid (by rw [HT.out, HSt.out, if_neg (by rw [hbq]; simp; omega), if_pos hgm])
            clear hbq hq0 hq1
            go_wp2_with (first
              | (go_at_fn g; refine hcall.out.mono ?_; rintro e w1 ⟨rfl, hb1⟩; have HB1 := Lib.hid (below_next HBK.out hb1); clear hb1)
              | (go_at_call 114; refine (hbg.out _).mono ?_; rintro e w2 ⟨rfl, hb2⟩; have y1 : w2.cell? ⟨w1.heap.size, 1, none⟩ = some (.int .i64 pb) := (hb2.cell (p := ⟨w1.heap.size, 1, none⟩) (by simp)).trans (by go_simp); have HB2 := Lib.hid (below_next (HB1.out.alloc HB1.out.size _) hb2); clear hb2))
            go_quiet (fail)
            have HW3 := Lib.hid (below_drewN (Below.refl w2.heap.size w2) nq)
            generalize w2.drewN nq = w3 at *
            have HO3 : Hid (w3.ownsRow w.heap.size 3 1 (.slice none 0 0) ([] : List Int).length (I64 [])) := Lib.hid (by simpa [I64] using World.ownsRow_nil _ _ _ _)
            have HB3 := Lib.hid (HB2.out.trans (HW3.out.mono HB2.out.size))
            clear y1
            go_wp2_with (at_builtin; refine wpList_append_own _ rfl _ _ 52 rfl w.heap.size 3 i0 (.int .i64 0) 1 8 Tryz.underlying52 hi hz0 hz1 hz2 rfl (by decide) _ ([] : List Int).length (I64 ([] : List Int)) rfl (HO3.out.alloc _) ⟨w3.heap.size, 0, none⟩ 1 1 [.int .i64 q] rfl rfl (cell_one_new _ _ _) (by intro x hx; simp at hx; subst hx; rfl) (by first | (unfold maxLen; omega) | (unfold maxLen; simp; done)) (by first | omega | (simp; done)) (by have := HB3.out.size; simp; omega) ?_; intro v' wz hown1 hgrow1 _)
            have hbz : Below w.heap.size w wz := (HB3.out.alloc HB3.out.size _).grown hgrow1 (by have := HB3.out.size; simp; omega) (fun j e => (HO3.out.lt j e).1)
            have HO4 := Lib.hid hown1
            have HB4 := Lib.hid hbz
            clear hown1 hgrow1 hbz
            go_roundw
            case rel => exact ⟨k + 1, [q], pb, by omega, by go_num, rfl, HS2, Lib.hid (by simpa [I64, List.length_append] using HO4.out), HB4⟩
            case measure => simp [intOf]; omega
          · have HS2 : Hid ((xs.take (k + 1)).foldl (stepP P a) ([], 0) = (F ++ [q], m)) := Lib.hid (by rw [HT.out, HSt.out, if_neg (by rw [hbq]; simp; omega), if_neg hgm])
            have hfl := HFL.out
            clear hbq hq0 hq1
            go_upto_region 8 with (first
              | (go_at_fn g; refine hcall.out.mono ?_; rintro e w1 ⟨rfl, hb1⟩; have HB1 := Lib.hid (below_next HBK.out hb1); have HO1 := Lib.hid (ownk_next HO.out hb1); clear hb1)
              | (go_at_call 114; refine (hbg.out _).mono ?_; rintro e w2 ⟨rfl, hb2⟩; have y1 : w2.cell? ⟨w1.heap.size, 1, none⟩ = some (.int .i64 pb) := (hb2.cell (p := ⟨w1.heap.size, 1, none⟩) (by simp)).trans (by go_simp); have HB2 := Lib.hid (below_next (HB1.out.alloc HB1.out.size _) hb2); have HO2 := Lib.hid (ownk_next (HO1.out.alloc _) hb2); clear hb2))
            clear y1
            go_wp2_with (at_builtin; refine wpList_append_own _ rfl _ _ 52 rfl w.heap.size 3 i0 (.int .i64 0) 1 8 Tryz.underlying52 hi hz0 hz1 hz2 rfl (by decide) _ F.length (I64 F) rfl (HO2.out.alloc _) ⟨w2.heap.size, 0, none⟩ 1 1 [.int .i64 q] rfl rfl (cell_one_new _ _ _) (by intro x hx; simp at hx; subst hx; rfl) (by first | (unfold maxLen; omega) | (unfold maxLen; simp; done)) (by first | omega | (simp; done)) (by have := HB2.out.size; simp; omega) ?_; intro v' wz hown1 hgrow1 _)
            have hbz : Below w.heap.size w wz := (HB2.out.alloc HB2.out.size _).grown hgrow1 (by have := HB2.out.size; simp; omega) (fun j e => (HO2.out.lt j e).1)
            have HO4 := Lib.hid hown1
            have HB4 := Lib.hid hbz
            clear hown1 hgrow1 hbz
            go_roundw
            case rel => exact ⟨k + 1, (F ++ [q]), m, by omega, by go_num, rfl, HS2, Lib.hid (by simpa [I64, List.length_append] using HO4.out), HB4⟩
            case measure => simp [intOf]; omega
    · obtain rfl : k = n := by omega
      have hlk : xs.take k = xs := List.take_of_length_le (by have := HL.out; omega)
      rw [hlk] at HF
      have hi0 : ¬ ((k : Int) < (k : Int)) := by omega
      obtain ⟨A', c', rfl, hcc, hj'⟩ := own_jrc HO.out
      have HCC := Lib.hid hcc
      clear hcc
      have HJ' := Lib.hid hj'
      clear hj' HO hlk
      go_wp2
      go_ret2
      rw [HF.out]
      exact ⟨A', c', rfl, HCC.out, HJ'.out, HBK.out⟩
end Go.Proofs.YtahnnaagpeinkaaGreatDoor

