/- P18.1: of bidders with unlike addresses just one is not lost: the best; walked. -/
import Derived.Test.YtgodmfacelfhaaaBe
import Derived.Test.YtgodmfacelfhaaaRg
import Derived.Deep.RegionHeld3
import Derived.BigQuiet
namespace Go.Proofs.Ytgodmfacelfhaaa
open Go.ChangeShapes Go.WideShapes Go.ChangeAt Go.RowKit
theorem elemBd : Elem Try.prog 22 30 CBd 2 16 := ⟨Try.underlying22, (by obtain ⟨i, hi, hz, hs, hb⟩ := info_parts (show (Try.prog.info? 30).map (fun i => (i.zero, i.size, i.bytes)) = some (some (.agg #[.int .i64 0, .int .u32 0]), 2, 16) by kernel_rfl); exact ⟨i, _, hi, hz, hs, hb, rfl⟩), fun _ => rfl, fun x u hu => by simp [CBd] at hu; rcases hu with rfl | rfl <;> rfl, by omega, by omega⟩
def Unlike (xs : List Bd) (i : Nat) : Prop := ∀ p q x y, p < q → q < i → xs[p]? = some x → xs[q]? = some y → x.2 ≠ y.2
/-- all but the one at place i -/
def butAt (xs : List Bd) (i : Nat) : List Bd := xs.take i ++ xs.drop (i + 1)
theorem butAt_any {xs : List Bd} {n i : Nat} {x : Bd} (hl : xs.length = n) (hi : i < n) (hx : xs[i]? = some x) (hu : Unlike xs n) : ((butAt xs i).any fun y => cheaper y x) = !decide (i = leastB xs n) := by
  have hK := leastB_bd xs (show 0 < n by omega)
  obtain ⟨z, hz⟩ : ∃ z, xs[leastB xs n]? = some z := ⟨_, List.getElem?_eq_getElem (by omega)⟩
  have hmax : ∀ j y, xs[j]? = some y → cheaper y z = false := fun j y hy => by
    have h := leastB_max xs n j (by have := (List.getElem?_eq_some_iff.1 hy).1; omega)
    rw [List.getD_eq_getElem?_getD, List.getD_eq_getElem?_getD, hy, hz] at h
    exact h
  by_cases e : i = leastB xs n
  · have : z = x := by rw [← e, hx] at hz; cases hz; rfl
    subst this
    simp only [e, decide_true, Bool.not_true]
    rw [List.any_eq_false]
    intro y hy
    have : y ∈ xs := by
      unfold butAt at hy
      rcases List.mem_append.1 hy with h | h
      · exact List.mem_of_mem_take h
      · exact List.mem_of_mem_drop h
    obtain ⟨j, hj⟩ := List.mem_iff_getElem?.1 this
    simp [hmax j y hj]
  · simp only [e, decide_false, Bool.not_false]
    rw [List.any_eq_true]
    refine ⟨z, ?_, ?_⟩
    · unfold butAt
      rw [List.mem_append]
      rcases Nat.lt_or_ge (leastB xs n) i with h | h
      · exact .inl (List.mem_of_getElem? (i := leastB xs n) (by rw [List.getElem?_take, if_pos h]; exact hz))
      · exact .inr (List.mem_of_getElem? (i := leastB xs n - (i + 1)) (by rw [List.getElem?_drop, show i + 1 + (leastB xs n - (i + 1)) = leastB xs n by omega]; exact hz))
    · cases hc : cheaper z x with
      | true => rfl
      | false =>
        have := cheaper_tot hc (hmax i x hx)
        subst this
        rcases Nat.lt_or_ge (leastB xs n) i with h | h
        · exact absurd rfl (hu _ _ _ _ h hi hz hx)
        · exact absurd rfl (hu _ _ _ _ (show i < leastB xs n by omega) hK hx hz)
def wonP (blk : Bool) (K i : Nat) : Int := if blk = false ∧ K < i then 1 else 0
def wonAt (blk : Bool) (K i : Nat) : Int := if blk = false ∧ K < i then (K : Int) else -1
set_option maxRecDepth 100000 in
set_option maxHeartbeats 4000000 in
theorem law_bone (A : Option Addr) (n c : Nat) (xs : List Bd) (B : Option Addr) (m d : Nat) (ex : Bool) (w : World) (h : RI CBd 2 w A n xs) (hcap : n ≤ c) :
    Calls Try.prog 5 #[.slice A n c, .slice B m d, .bool ex] w fun e w' => e = .returned (.bool true) ∧ Below w.heap.size w w' := by
  have H1 := Lib.hid (first18_any w)
  by_cases hbig : 20 < n
  · have hd : decide ((20 : Int) < (n : Int)) = true := by simp; omega
    go_enter Try.func5, Try.ntmps5
    go_wp2_with (go_at_call 7; refine H1.out.mono ?_; rintro e w1 ⟨rfl, hb1⟩)
    go_ret
    exact ⟨rfl, hb1⟩
  have hd : decide ((20 : Int) < (n : Int)) = false := by simp; omega
  have hd' : ¬ (20 : Int) < (n : Int) := by omega
  by_cases hz : n = 0
  · subst hz
    go_enter Try.func5, Try.ntmps5
    go_wp2_with (go_at_call 7; refine H1.out.mono ?_; rintro e w1 ⟨rfl, hb1⟩)
    go_ret
    exact ⟨rfl, hb1⟩
  have hz1 : ((n : Int) == 0) = false := by simp; omega
  have hz2 : decide ((n : Int) = 0) = false := by simp; omega
  by_cases hbig2 : 20 < m
  · have hd2 : decide ((20 : Int) < (m : Int)) = true := by simp; omega
    go_enter Try.func5, Try.ntmps5
    go_wp2_with (go_at_call 7; refine H1.out.mono ?_; rintro e w1 ⟨rfl, hb1⟩)
    go_ret
    exact ⟨rfl, hb1⟩
  have hd2 : decide ((20 : Int) < (m : Int)) = false := by simp; omega
  have hd2' : ¬ (20 : Int) < (m : Int) := by omega
  have HR : Hid (∀ W, Below w.heap.size w W → RI CBd 2 W A n xs) := Lib.hid fun W hW => h.next hW
  have HLEN := Lib.hid h.len
  have HN : Hid (0 < n ∧ n ≤ 20 ∧ n ≤ c) := Lib.hid ⟨by omega, by omega, hcap⟩
  obtain ⟨b6, o6, _, rfl, hbl, _, _⟩ := h.at_ (show 0 < n by omega)
  clear h hcap hbl
  go_enter Try.func5, Try.ntmps5
  go_upto_region 6 with (go_at_call 7; refine H1.out.mono ?_; rintro e w1 ⟨rfl, hb1⟩)
  have HB1 := Lib.hid hb1
  clear hb1
  go_wp2_with fail
  go_loopw [8] (fun iv wr => ∃ i : Nat, i ≤ n ∧ iv = .int .i64 i ∧ Hid (Unlike xs i) ∧ Below w.heap.size w wr) (fun iv _ => n - (intOf iv).toNat)
  case atStart => exact ⟨0, by omega, rfl, Lib.hid fun p q x y _ hq => absurd hq (by omega), HB1.out⟩
  case round =>
    obtain ⟨i, hi, rfl, HU, hb⟩ := hrel
    have HB := Lib.hid hb
    clear hb
    generalize wr = w7 at *
    rcases Nat.lt_or_ge i n with hlt | hge
    · have hlt' : (i : Int) < (n : Int) := by omega
      obtain ⟨bb, oo, ⟨x1, x2⟩, ex1, hbl, hx, hc⟩ := (HR.out w7 HB.out).at_ hlt
      obtain ⟨rfl, rfl⟩ : b6 = bb ∧ o6 = oo := by cases ex1; exact ⟨rfl, rfl⟩
      have HX := Lib.hid hx
      have C1 := Lib.hid fun W (hW : Below w7.heap.size w7 W) => (hW.cell (p := ⟨b6, o6 + i * 2 + 1, none⟩) hbl).trans (hc 1 _ rfl)
      clear hc hx hbl ex1
      go_wp2_with fail
      go_loopw [9] (fun kv wr => ∃ k : Nat, k ≤ i ∧ kv = .int .i64 k ∧ Hid (∀ p x, p < k → xs[p]? = some x → x.2 ≠ x2) ∧ Below w7.heap.size w7 wr) (fun kv _ => i - (intOf kv).toNat)
      case atStart => exact ⟨0, by omega, rfl, Lib.hid fun p x hp => absurd hp (by omega), Below.refl _ _⟩
      case round =>
        obtain ⟨k, hk, rfl, HV, hb8⟩ := hrel
        have HB8 := Lib.hid hb8
        clear hb8
        rcases Nat.lt_or_ge k i with hkl | hkg
        · have hkl' : (k : Int) < (i : Int) := by omega
          have hkn : (k : Int) < (n : Int) := by omega
          obtain ⟨bb, oo, ⟨y1, y2⟩, ex1, hbl, hy, hc⟩ := (HR.out wr (below_next HB.out HB8.out)).at_ (show k < n by omega)
          obtain ⟨rfl, rfl⟩ : b6 = bb ∧ o6 = oo := by cases ex1; exact ⟨rfl, rfl⟩
          have HY := Lib.hid hy
          have d1 : wr.cell? ⟨b6, o6 + k * 2 + 1, none⟩ = some (.int .u32 y2) := hc 1 _ rfl
          have c1 := C1.out wr HB8.out
          have j0 : (0 : Int) ≤ (k : Int) := by omega
          have j1 : (0 : Int) ≤ (i : Int) := by omega
          clear hc hy hbl ex1
          go_upto_region 12 with fail
          by_cases he : x2 = y2
          · have he1 : (x2 == y2) = true := by simpa using he
            have HBX := Lib.hid (below_next HB.out HB8.out)
            clear he
            go_quiet (fail)
            go_wp2
            go_ret
            exact ⟨rfl, below_drewN HBX.out _⟩
          · have he1 : (x2 == y2) = false := by simpa using he
            have HE : Hid (y2 ≠ x2) := Lib.hid fun e => he e.symm
            clear he
            go_quiet (fail)
            go_wp2_with fail
            go_roundw
            case rel => exact ⟨k + 1, by omega, by go_num, (show Hid _ from fun p x hp hpx => by
              by_cases e : p = k
              · subst e; rw [HY.out] at hpx; cases hpx; exact HE.out
              · exact HV.out p x (by omega) hpx), below_drewN HB8.out _⟩
            case measure => simp [intOf]; omega
        · obtain rfl : k = i := by omega
          have hkl' : decide ((k : Int) < (k : Int)) = false := by simp
          go_wp2_with fail
          go_roundw
          case rel => exact ⟨k + 1, by omega, by go_num, (show Hid _ from fun p q x y hp hq hpx hqy => by
            by_cases e : q = k
            · subst e; rw [HX.out] at hqy; cases hqy; exact HV.out p x hp hpx
            · exact HU.out p q x y hp (by omega) hpx hqy), below_next HB.out HB8.out⟩
          case measure => simp [intOf]; omega
    · obtain rfl : i = n := by omega
      have hlt' : decide ((i : Int) < (i : Int)) = false := by simp
      obtain ⟨blk, hblk⟩ : ∃ blk : Bool, blk = (!ex && decide (0 < m)) := ⟨_, rfl⟩
      obtain ⟨K, hK⟩ : ∃ K, K = leastB xs i := ⟨_, rfl⟩
      have HKI : Hid (K < i) := Lib.hid (by rw [hK]; exact leastB_bd xs HN.out.1)
      have HBE := Lib.hid fun W hW => bbest_any (some ⟨b6, o6, none⟩) i c xs W (HR.out W hW) (by have := HN.out; omega)
      rw [← hK] at HBE
      have HL : Hid (∀ W A' c' j x, Below w.heap.size w W → j < i → xs[j]? = some x → RI CBd 2 W A' (i - 1) (butAt xs j) → Calls Try.prog 9 #[.agg #[.int .i64 x.1, .int .u32 x.2], .bool ex, .slice A' (i - 1) c', .slice B m d] W fun e w' => e = .returned (.bool (blk || !decide (j = K))) ∧ Below W.heap.size W w') := Lib.hid fun W A' c' j x hW hj hx hr => by
        have h1 := lost_any x.1 x.2 ex A' (i - 1) c' (butAt xs j) B m d W hr (by have := HN.out; omega)
        unfold lostP at h1
        rw [butAt_any HLEN.out hj hx HU.out, ← hK, ← hblk] at h1
        exact h1
      have HBLK := Lib.hid hblk
      clear hK hblk
      go_wp2_with fail
      go_loopw [10, 11, 12] (fun wv av iv wr => ∃ j : Nat, j ≤ i ∧ wv = .int .i64 (wonP blk K j) ∧ av = .int .i64 (wonAt blk K j) ∧ iv = .int .i64 j ∧ Below w.heap.size w wr) (fun _ _ iv _ => i - (intOf iv).toNat)
      case atStart => exact ⟨0, by omega, by unfold wonP; rw [if_neg (by omega)], by unfold wonAt; rw [if_neg (by omega)], rfl, HB.out⟩
      case round =>
        obtain ⟨j, hj, rfl, rfl, rfl, hb9⟩ := hrel
        have HB9 := Lib.hid hb9
        clear hb9
        have hn20 : (i : Int) ≤ 20 := by have := HN.out; omega
        have hic : (i : Int) ≤ (c : Int) := by have := HN.out; omega
        rcases Nat.lt_or_ge j i with hlt | hge
        · have hlt2 : (j : Int) < (i : Int) := by omega
          obtain ⟨bb, oo, x, ex1, hbl, hx, hc⟩ := (HR.out wr HB9.out).at_ hlt
          obtain ⟨rfl, rfl⟩ : b6 = bb ∧ o6 = oo := by cases ex1; exact ⟨rfl, rfl⟩
          have HX := Lib.hid hx
          have C0 := Lib.hid fun W (hW : Below wr.heap.size wr W) => (hW.cell (p := ⟨b6, o6 + j * 2, none⟩) hbl).trans (hc 0 _ rfl)
          have C1 := Lib.hid fun W (hW : Below wr.heap.size wr W) => (hW.cell (p := ⟨b6, o6 + j * 2 + 1, none⟩) hbl).trans (hc 1 _ rfl)
          have HRR := Lib.hid fun W (hW : Below wr.heap.size wr W) => HR.out W (below_next HB9.out hW)
          have HLL := Lib.hid fun W A' c' (hW : Below wr.heap.size wr W) hr => HL.out W A' c' j x (below_next HB9.out hW) hlt HX.out hr
          clear hc hx hbl ex1
          have j0 : (0 : Int) ≤ (j : Int) := by omega
          have j1 : (j : Int) ≤ (c : Int) := by omega
          have j2 : (j : Int) + 1 ≤ (i : Int) := by omega
          have j3 : (j : Int) + 1 ≤ (c : Int) := by omega
          have j4 : j ≤ c := by omega
          have j5 : j + 1 ≤ i := by omega
          have j6 : j + 1 ≤ c := by omega
          have j7 : i ≤ c := by omega
          have j8 : IntKind.i64.wrap ((j : Int) + 1) = (j : Int) + 1 := IntWalk.i64_in _ (by omega)
          have j9 : (0 : Int) ≤ (j : Int) + 1 := by omega
          have hjl : j ≤ i := by omega
          have hn1 : i ≤ 20 := by omega
          obtain ⟨x1, x2⟩ := x
          have hwon : ∃ l : Bool, (blk || !decide (j = K)) = l ∧ ((l = true ∧ wonP blk K (j + 1) = wonP blk K j ∧ wonAt blk K (j + 1) = wonAt blk K j) ∨ (l = false ∧ wonP blk K j = 0 ∧ wonP blk K (j + 1) = 1 ∧ wonAt blk K (j + 1) = (j : Int))) := by
            refine ⟨_, rfl, ?_⟩
            unfold wonP wonAt
            cases blk with
            | true => left; simp
            | false =>
              by_cases e : j = K
              · subst e; right; simp
              · left
                have e2 : (K < j + 1) = (K < j) := by apply propext; omega
                simp [e, e2]
          obtain ⟨l, hl, hcase⟩ := hwon
          rw [hl] at HLL
          have HCASE := Lib.hid hcase
          clear hl hcase
          go_upto_region 19 with fail
          have hne : c = j + 1 ∨ ¬ c = j + 1 := by omega
          rcases hne with hne | hne
          · obtain rfl : i = j + 1 := by omega
            obtain rfl : c = j + 1 := hne
            have HLL2 := Lib.hid fun W A' c' (hW : Below wr.heap.size wr W) (hr : RI CBd 2 W A' j (butAt xs j)) => HLL.out W A' c' hW hr
            clear HLL
            have j10 : (j : Int) ≤ (j : Int) + 1 := by omega
            have j11 : j ≤ j + 1 := by omega
            go_region_held3 (fun w' => Below wr.heap.size wr w')
              (first | assumption | exact (Below.refl _ _).drew | exact Below.refl _ _ | exact ((Below.refl _ _).alloc (Nat.le_refl _) _).drew | exact (Below.refl _ _).alloc (Nat.le_refl _) _ | exact hb4 | exact hb5)
              (first
              | (refine step_items elemBd (by rfl) _ _ (by rfl) wr.heap.size _ 0 [] (by rfl) (by first | exact World.ownsRow_lit wr #[] 0 (Nat.le_refl _) (by decide) rfl | exact (World.ownsRow_lit wr #[] 0 (Nat.le_refl _) (by decide) rfl).drew) _ j _ (xs.take j) (by rfl) (RI.take (HRR.out _ (by assumption)) hjl) (by decide) (by omega) (by first | exact Nat.le_refl _ | (simp; done) | (simp; omega)) ?_
                 intro v4 w4 hown4 hb4x hg4; clear hg4; have hb4 : Below wr.heap.size wr w4 := Below.trans (by assumption) hb4x; clear hb4x)
              | (refine step_items elemBd (by rfl) _ _ (by rfl) wr.heap.size v4 (0 + j) ([] ++ xs.take j) (by rfl) hown4 _ 0 _ [] (by rfl) (RI.none_ _ _ _ _) (by omega) (by omega) hb4.size ?_
                 intro v5 w5 hown5 hb5x hg5; clear hg5; have hb5 : Below wr.heap.size wr w5 := Below.trans hb4 hb5x; clear hb5x))
            all_goals
              have HB5 := Lib.hid hb5
              rw [show 0 + j + 0 = j by omega, show ([] ++ xs.take j ++ [] : List Bd) = butAt xs j by unfold butAt; rw [List.drop_of_length_le (by rw [HLEN.out]; omega)]; simp] at hown5
              obtain ⟨A5, c5, rfl, hc5, hr5⟩ := RI.of_own (enc := CBd) (xs := butAt xs j) (fun _ => rfl) (by
                have hbl : (butAt xs j).length = j := by unfold butAt; rw [List.length_append, List.length_take, List.length_drop, HLEN.out]; omega
                rw [hbl]; exact hown5)
              have hbl5 : (butAt xs j).length = j := by unfold butAt; rw [List.length_append, List.length_take, List.length_drop, HLEN.out]; omega
              rw [hbl5] at hr5 ⊢
              have HLO := Lib.hid (show Calls Try.prog 9 #[.agg #[.int .i64 x1, .int .u32 x2], .bool ex, .slice A5 j c5, .slice B m d] w5 _ from HLL2.out w5 A5 c5 hb5 hr5)
              have d0 := C0.out w5 hb5
              have d1 := C1.out w5 hb5
              have HBZ := Lib.hid (below_next HB9.out hb5)
              clear hown4 hown5 hr5 hb4 hb5 hc5 hbl5
              rcases HCASE.out with ⟨rfl, q1, q2⟩ | ⟨rfl, q1, q2, q3⟩
              · rw [← q1, ← q2]
                clear q1 q2
                go_wp2_with (go_at_call 9; (with_reducible refine HLO.out.mono ?_); rintro e w6 ⟨rfl, hb6⟩; have HB6 := Lib.hid (below_next HBZ.out hb6); clear hb6)
                rw [show ((j : Int) + 1) = ((j + 1 : Nat) : Int) by simp]
                go_roundw
                case rel => exact ⟨j + 1, by omega, rfl, rfl, by go_num, HB6.out⟩
                case measure => first | (simp [intOf]; done) | (simp [intOf]; omega)
              · rw [q1]
                have HQ2 := Lib.hid q2
                have HQ3 := Lib.hid q3
                clear q1 q2 q3
                go_wp2_with (go_at_call 9; (with_reducible refine HLO.out.mono ?_); rintro e w6 ⟨rfl, hb6⟩; have HB6 := Lib.hid (below_next HBZ.out hb6); clear hb6)
                rw [show ((j : Int) + 1) = ((j + 1 : Nat) : Int) by simp]
                go_roundw
                case rel => exact ⟨j + 1, by omega, by rw [HQ2.out], by rw [HQ3.out], by go_num, HB6.out⟩
                case measure => first | (simp [intOf]; done) | (simp [intOf]; omega)
          · have j10 : (j : Int) ≤ (j : Int) + 1 := by omega
            have j11 : j ≤ j + 1 := by omega
            go_region_held3 (fun w' => Below wr.heap.size wr w')
              (first | assumption | exact (Below.refl _ _).drew | exact Below.refl _ _ | exact ((Below.refl _ _).alloc (Nat.le_refl _) _).drew | exact (Below.refl _ _).alloc (Nat.le_refl _) _ | exact hb4 | exact hb5)
              (first
              | (refine step_items elemBd (by rfl) _ _ (by rfl) wr.heap.size _ 0 [] (by rfl) (by first | exact World.ownsRow_lit wr #[] 0 (Nat.le_refl _) (by decide) rfl | exact (World.ownsRow_lit wr #[] 0 (Nat.le_refl _) (by decide) rfl).drew) _ j _ (xs.take j) (by rfl) (RI.take (HRR.out _ (by assumption)) hjl) (by decide) (by omega) (by first | exact Nat.le_refl _ | (simp; done) | (simp; omega)) ?_
                 intro v4 w4 hown4 hb4x hg4; clear hg4; have hb4 : Below wr.heap.size wr w4 := Below.trans (by assumption) hb4x; clear hb4x)
              | (refine step_items elemBd (by rfl) _ _ (by rfl) wr.heap.size v4 (0 + j) ([] ++ xs.take j) (by rfl) hown4 _ (i - (j + 1)) _ (xs.drop (j + 1)) (by rfl) (RI.drop (HRR.out _ hb4) j5 (fun h => by first | rfl | omega | rw [Option.map_some, add_plain])) (by omega) (by omega) hb4.size ?_
                 intro v5 w5 hown5 hb5x hg5; clear hg5; have hb5 : Below wr.heap.size wr w5 := Below.trans hb4 hb5x; clear hb5x))
            all_goals
              have HB5 := Lib.hid hb5
              rw [show 0 + j + (i - (j + 1)) = i - 1 by omega] at hown5
              obtain ⟨A5, c5, rfl, hc5, hr5⟩ := RI.of_own (enc := CBd) (xs := butAt xs j) (fun _ => rfl) (by
                have hbl : (butAt xs j).length = i - 1 := by unfold butAt; rw [List.length_append, List.length_take, List.length_drop, HLEN.out]; omega
                rw [hbl]; exact hown5)
              have hbl5 : (butAt xs j).length = i - 1 := by unfold butAt; rw [List.length_append, List.length_take, List.length_drop, HLEN.out]; omega
              rw [hbl5] at hr5 ⊢
              have HLO := Lib.hid (show Calls Try.prog 9 #[.agg #[.int .i64 x1, .int .u32 x2], .bool ex, .slice A5 (i - 1) c5, .slice B m d] w5 _ from HLL.out w5 A5 c5 hb5 hr5)
              have d0 := C0.out w5 hb5
              have d1 := C1.out w5 hb5
              have HBZ := Lib.hid (below_next HB9.out hb5)
              clear hown4 hown5 hr5 hb4 hb5 hc5 hbl5
              rcases HCASE.out with ⟨rfl, q1, q2⟩ | ⟨rfl, q1, q2, q3⟩
              · rw [← q1, ← q2]
                clear q1 q2
                go_wp2_with (go_at_call 9; (with_reducible refine HLO.out.mono ?_); rintro e w6 ⟨rfl, hb6⟩; have HB6 := Lib.hid (below_next HBZ.out hb6); clear hb6)
                go_roundw
                case rel => exact ⟨j + 1, by omega, rfl, rfl, by go_num, HB6.out⟩
                case measure => simp [intOf]; omega
              · rw [q1]
                have HQ2 := Lib.hid q2
                have HQ3 := Lib.hid q3
                clear q1 q2 q3
                go_wp2_with (go_at_call 9; (with_reducible refine HLO.out.mono ?_); rintro e w6 ⟨rfl, hb6⟩; have HB6 := Lib.hid (below_next HBZ.out hb6); clear hb6)
                go_roundw
                case rel => exact ⟨j + 1, by omega, by rw [HQ2.out], by rw [HQ3.out], by go_num, HB6.out⟩
                case measure => simp [intOf]; omega
        · obtain rfl : j = i := by omega
          have hlt2 : decide ((j : Int) < (j : Int)) = false := by simp
          have hki := HKI.out
          have hblk := HBLK.out
          clear HBLK
          cases blk with
          | true =>
            have hex : ex = false ∧ 0 < m := by
              cases ex with
              | true => simp at hblk
              | false => exact ⟨rfl, by simpa using hblk.symm⟩
            obtain ⟨rfl, hm⟩ := hex
            have hm1 : (0 : Int) < (m : Int) := by omega
            have hm2 : decide ((0 : Int) < (m : Int)) = true := by simpa using hm1
            rw [show wonP true K j = 0 from rfl]
            clear hblk
            go_wp2_with fail
            go_ret
            exact ⟨rfl, HB9.out⟩
          | false =>
            rw [show wonP false K j = 1 by unfold wonP; rw [if_pos ⟨rfl, hki⟩], show wonAt false K j = (K : Int) by unfold wonAt; rw [if_pos ⟨rfl, hki⟩]]
            have hp : 0 < j := by omega
            have hp1 : decide (0 < j) = true := by simpa using hp
            rw [hp1] at HBE
            generalize leastB xs j = K2 at *
            cases ex with
            | true =>
              clear hblk
              go_wp2_with (go_at_call 8; (with_reducible refine (HBE.out _ HB9.out).mono ?_); rintro e w6 ⟨rfl, hb6⟩; have HB6 := Lib.hid (below_next HB9.out hb6); clear hb6)
              go_ret
              exact ⟨rfl, HB6.out⟩
            | false =>
              have hm : ¬ 0 < m := by simp at hblk; omega
              have hm1 : ¬ (0 : Int) < (m : Int) := by omega
              have hm2 : decide ((0 : Int) < (m : Int)) = false := by simpa using hm1
              clear hblk
              go_wp2_with (go_at_call 8; (with_reducible refine (HBE.out _ HB9.out).mono ?_); rintro e w6 ⟨rfl, hb6⟩; have HB6 := Lib.hid (below_next HB9.out hb6); clear hb6)
              go_ret
              exact ⟨rfl, HB6.out⟩
end Go.Proofs.Ytgodmfacelfhaaa

