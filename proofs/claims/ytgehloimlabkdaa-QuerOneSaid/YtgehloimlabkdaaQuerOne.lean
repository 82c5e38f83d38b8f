/- The statement on routers on a link that hear one another, walked. -/
import Derived.Test.YtgehloimlabkdaaQr
import Derived.Test.YtgehloimlabkdaaAppA
namespace Go.Proofs.Ytgehloimlabkdaa
open Go.RowKit Sm
abbrev Tn := Int × Int
def CTn : Tn → List Value := fun p => [.int .i64 p.1, .int .i64 p.2]
def tcells (us : List Tn) : Array Value := (us.flatMap CTn).toArray
theorem tl_at : ∀ (us : List Tn) (k : Nat) (p : Tn), us[k]? = some p → (us.flatMap CTn)[k * 2]? = some (.int .i64 p.1) ∧ (us.flatMap CTn)[k * 2 + 1]? = some (.int .i64 p.2)
  | [], k, p, h => by simp at h
  | u :: us, 0, p, h => by
    simp only [List.getElem?_cons_zero, Option.some.injEq] at h
    subst h
    exact ⟨rfl, rfl⟩
  | u :: us, k + 1, p, h => by
    simp only [List.getElem?_cons_succ] at h
    have := tl_at us k p h
    rw [List.flatMap_cons, show (k + 1) * 2 = k * 2 + 1 + 1 by omega]
    exact this
theorem tl_set : ∀ (us : List Tn) (k : Nat) (a b : Int), k < us.length → ((us.flatMap CTn).set (k * 2) (.int .i64 a)).set (k * 2 + 1) (.int .i64 b) = (us.set k (a, b)).flatMap CTn
  | [], k, a, b, h => by simp at h
  | u :: us, 0, a, b, h => rfl
  | u :: us, k + 1, a, b, h => by
    have := tl_set us k a b (by simpa using h)
    rw [List.set_cons_succ, List.flatMap_cons, List.flatMap_cons, ← this, show (k + 1) * 2 = k * 2 + 1 + 1 by omega]
    rfl
theorem tc_len (us : List Tn) : (tcells us).size = us.length * 2 := by
  unfold tcells
  induction us with
  | nil => rfl
  | cons u us ih => simp only [List.flatMap_cons, List.size_toArray, List.length_append, List.length_cons] at *; rw [ih]; simp [CTn]; omega
/-- the turns of some routers, as they lie -/
def TB (w : World) (g : Nat) (us : List Tn) : Prop := Blk w g 31 (tcells us)
theorem TB.at_ {w : World} {g : Nat} {us : List Tn} (h : TB w g us) {k : Nat} {p : Tn} (hk : us[k]? = some p) : w.cell? ⟨g, k * 2, none⟩ = some (.int .i64 p.1) ∧ w.cell? ⟨g, k * 2 + 1, none⟩ = some (.int .i64 p.2) := by
  have := tl_at us k p hk
  unfold TB at h
  rw [h.cell, h.cell]
  simpa [tcells] using this
theorem TB.put {w : World} {g : Nat} {us : List Tn} (h : TB w g us) {k : Nat} (hk : k < us.length) (a b : Int) : TB ((w.setCell ⟨g, k * 2, none⟩ (.int .i64 a)).setCell ⟨g, k * 2 + 1, none⟩ (.int .i64 b)) g (us.set k (a, b)) := by
  have h1 := (Blk.set_ h (k * 2) (.int .i64 a)).set_ (k * 2 + 1) (.int .i64 b)
  unfold TB
  have e : ((tcells us).setIfInBounds (k * 2) (.int .i64 a)).setIfInBounds (k * 2 + 1) (.int .i64 b) = tcells (us.set k (a, b)) := by
    unfold tcells
    rw [← tl_set us k a b hk]
    simp
  rw [← e]
  exact h1
theorem TB.next {w w' : World} {g : Nat} {us : List Tn} (h : TB w g us) (hb : Below w.heap.size w w') : TB w' g us := Blk.next h hb
theorem TB.below {w w' : World} {g B : Nat} {us : List Tn} (h : TB w g us) (hb : Below B w w') (hg : g < B) : TB w' g us := Blk.below h hb hg
theorem tb_of_make {w : World} {base g n : Nat} {us : List Tn} (h : w.ownsRow base 31 2 (.slice (some ⟨g, 0, none⟩) n n) n (us.flatMap CTn)) : TB w g us := by
  rcases h.2 with ⟨e, _⟩ | ⟨g', cap, cur, e, _, hh, _, _, hsz, ht⟩
  · cases e
  · cases e
    unfold TB Blk
    rw [hh]
    have : cur = tcells us := by
      unfold tcells
      rw [← ht, List.take_of_length_le (by simp; omega)]
    rw [this]
theorem made_turns : ∀ n, n < 8 → (madeCells (Value.agg #[.int .i64 0, .int .i64 0]).cells (n * 2)).toList = (List.replicate n ((0 : Int), (0 : Int))).flatMap CTn
  | 0, _ => by kernel_rfl
  | 1, _ => by kernel_rfl
  | 2, _ => by kernel_rfl
  | 3, _ => by kernel_rfl
  | 4, _ => by kernel_rfl
  | 5, _ => by kernel_rfl
  | 6, _ => by kernel_rfl
  | 7, _ => by kernel_rfl
  | n + 8, h => by omega
/-- what the call owns, beside a store elsewhere -/
theorem own_far {w : World} {base n : Nat} {e : TypeId} {v : Value} {ys : List Value} (h : w.ownsRow base e 1 v n ys) {p : Addr} (hp : p.block < base) (u : Value) : (w.setCell p u).ownsRow base e 1 v n ys := by
  refine ⟨h.1, ?_⟩
  rcases h.2 with hn | ⟨g, cap, cur, rfl, hbg, hh, rest⟩
  · exact .inl hn
  · exact .inr ⟨g, cap, cur, rfl, hbg, (Below.heap_setCell w p u g (by omega)).trans hh, rest⟩
def adP (n s k : Nat) : Int := 10 + (((k + s) % n : Nat) : Int)
def heardP (n s : Nat) (us : List Tn) : Nat → List Int
  | 0 => []
  | k + 1 => if (us.getD k (0, 0)).1 = 1 then heardP n s us k ++ [adP n s k] else heardP n s us k
def stepsP (n s : Nat) (hs : List Int) (us : List Tn) : Nat → List Tn
  | 0 => us
  | k + 1 => (stepsP n s hs us k).set k (stepP ((stepsP n s hs us k).getD k (0, 0)).2 (adP n s k) hs)
def tickP (n s : Nat) (us : List Tn) : List Tn := stepsP n s (heardP n s us n) us n
def playP (n s : Nat) : Nat → List Tn
  | 0 => List.replicate n (0, 0)
  | t + 1 => tickP n s (playP n s t)
theorem stepP_bd (o own : Int) (hs : List Int) (h : o ≤ 3) : 0 ≤ (stepP o own hs).2 ∧ (stepP o own hs).2 ≤ 3 := by
  unfold stepP
  split
  · exact ⟨by decide, by decide⟩
  · split
    · exact ⟨by simp only; omega, by simp only; omega⟩
    · exact ⟨by decide, by decide⟩
theorem wrap_ten (s : Nat) (h : s ≤ 100) : wrap64 (10 + (s : Int)) % 4294967296 = 10 + (s : Int) := by unfold wrap64; omega
def OKu (us : List Tn) : Prop := ∀ p ∈ us, 0 ≤ p.2 ∧ p.2 ≤ 3
theorem OKu.getD {us : List Tn} (h : OKu us) (k : Nat) : 0 ≤ (us.getD k (0, 0)).2 ∧ (us.getD k (0, 0)).2 ≤ 3 := by
  rw [List.getD_eq_getElem?_getD]
  cases hk : us[k]? with
  | none => decide
  | some p => exact h p (List.mem_of_getElem? hk)
theorem stepsP_ok (n s : Nat) (hs : List Int) (us : List Tn) (h : OKu us) : ∀ k, OKu (stepsP n s hs us k) ∧ (stepsP n s hs us k).length = us.length
  | 0 => ⟨h, rfl⟩
  | k + 1 => by
    have ih := stepsP_ok n s hs us h k
    refine ⟨fun p hp => ?_, ?_⟩
    · rcases List.mem_or_eq_of_mem_set hp with hp | rfl
      · exact ih.1 p hp
      · exact stepP_bd _ _ _ (ih.1.getD k).2
    · unfold stepsP
      rw [List.length_set]
      exact ih.2
theorem playP_ok (n s : Nat) : ∀ t, OKu (playP n s t) ∧ (playP n s t).length = n
  | 0 => ⟨fun p hp => by rw [(List.mem_replicate.1 hp).2]; decide, List.length_replicate⟩
  | t + 1 => by
    have ih := playP_ok n s t
    have := stepsP_ok n s (heardP n s (playP n s t) n) _ ih.1 n
    exact ⟨this.1, this.2.trans ih.2⟩
theorem heardP_len (n s : Nat) (us : List Tn) : ∀ k, (heardP n s us k).length ≤ k
  | 0 => Nat.le_refl _
  | k + 1 => by
    have := heardP_len n s us k
    unfold heardP
    split
    · rw [List.length_append]; simp; omega
    · omega
theorem adP_is (n s k : Nat) (h : n ≤ 1000) (h0 : 0 < n) : isA (adP n s k) := by
  have := Nat.mod_lt (k + s) h0
  unfold adP isA
  omega
theorem adP_wrap (n s k : Nat) (h : n ≤ 1000) (h0 : 0 < n) : wrap64 (10 + ((k : Int) + (s : Int)) % (n : Int)) % 4294967296 = adP n s k := by
  have hm := Nat.mod_lt (k + s) h0
  have e : ((k : Int) + (s : Int)) % (n : Int) = (((k + s) % n : Nat) : Int) := by rw [Int.natCast_emod, Int.natCast_add]
  rw [e]
  unfold adP wrap64
  omega
theorem adP_wrap2 (n s k : Nat) (h : n ≤ 1000) (h0 : 0 < n) : IntKind.u32.wrap (IntKind.i64.wrap (10 + ((k : Int) + (s : Int)) % (n : Int))) = adP n s k := by
  have hm := Nat.mod_lt (k + s) h0
  have e : ((k : Int) + (s : Int)) % (n : Int) = (((k + s) % n : Nat) : Int) := by rw [Int.natCast_emod, Int.natCast_add]
  rw [e, IntWalk.i64_left, IntKind.wrap_u32]
  unfold adP wrap64
  omega
theorem rem_is (n s k : Nat) : (((k : Int) + (s : Int)) % (n : Int) == 0) = decide ((k + s) % n = 0) := by
  rw [show ((k : Int) + (s : Int)) % (n : Int) = (((k + s) % n : Nat) : Int) by rw [Int.natCast_emod, Int.natCast_add]]
  generalize (k + s) % n = r
  cases r with
  | zero => rfl
  | succ r =>
    have h1 : (((r + 1 : Nat) : Int) == 0) = false := by rw [beq_eq_false_iff_ne]; omega
    rw [h1]
    simp
theorem ar_three {w : World} {g : Nat} {t : TypeId} {x y z : Int} (h : Blk w g t #[.int .u32 x, .int .u32 y, .int .u32 z]) (hx : isA x) (hy : isA y) (hz : isA z) : AR w (some ⟨g, 0, none⟩) 3 [x, y, z] :=
  ⟨rfl, fun v hv => by simp at hv; rcases hv with rfl | rfl | rfl <;> assumption, fun _ => ⟨g, 0, rfl, h.lt, fun i hi => by
    have e : i = 0 ∨ i = 1 ∨ i = 2 := by omega
    rcases e with rfl | rfl | rfl
    · simpa using h.cell 0
    · simpa using h.cell 1
    · simpa using h.cell 2⟩⟩
theorem least_three (s : Nat) : leastP [10 + (s : Int), 10, 11] 3 = if 0 < s then 1 else 0 := by
  by_cases h : 0 < s
  · rw [if_pos h]
    have h1 : (10 : Int) < 10 + (s : Int) := by omega
    simp [leastP, h1]
  · rw [if_neg h]
    obtain rfl : s = 0 := by omega
    decide
theorem least3_any (s : Nat) (h : s ≤ 100) (W : World) (g : Nat) (hW : Blk W g 24 #[.int .u32 (10 + (s : Int)), .int .u32 10, .int .u32 11]) :
    Calls Try.prog 7 #[.slice (some ⟨g, 0, none⟩) 3 3] W fun e w' => e = .returned (.tuple #[.int .i64 ((if 0 < s then 1 else 0 : Nat) : Int), .bool true]) ∧ Below W.heap.size W w' := by
  have h1 : isA (10 + (s : Int)) := ⟨by omega, by omega⟩
  have := least_any (some ⟨g, 0, none⟩) 3 3 [10 + (s : Int), 10, 11] W (ar_three hW h1 ⟨by decide, by decide⟩ ⟨by decide, by decide⟩) (by decide)
  rw [least_three] at this
  exact this
theorem heardP_as (n s : Nat) (us : List Tn) (h : n ≤ 1000) (h0 : 0 < n) : ∀ k, IsAs (heardP n s us k)
  | 0 => fun y hy => by cases hy
  | k + 1 => by
    have ih := heardP_as n s us h h0 k
    unfold heardP
    split
    · intro y hy
      rcases List.mem_append.1 hy with hy | hy
      · exact ih y hy
      · simp at hy; subst hy; exact adP_is n s k h h0
    · exact ih
/-- behind two ticks the one of the least address alone asks -/
theorem play_one : ∀ n : Fin 7, ∀ s : Fin 7, s.1 < n.1 + 1 → ∀ t : Fin 8, ∀ i : Fin 7, i.1 < n.1 + 1 → (((playP (n.1 + 1) s.1 (t.1 + 2)).getD i.1 (0, 0)).1 == 1) = decide ((i.1 + s.1) % (n.1 + 1) = 0) := by decide +kernel
theorem info_turn : (Try.prog.info? 31).map (fun i => (i.zero, i.size, i.bytes)) = some (some (.agg #[.int .i64 0, .int .i64 0]), 2, 16) := by kernel_rfl
theorem info_turn' : ∃ i, Try.prog.info? 31 = some i ∧ i.zero = some (.agg #[.int .i64 0, .int .i64 0]) ∧ i.size = 2 ∧ i.bytes = 16 := by
  have h := info_turn
  cases hi : Try.prog.info? 31 with
  | none => rw [hi] at h; cases h
  | some i => rw [hi] at h; simp at h; exact ⟨i, rfl, h.1, h.2.1, h.2.2⟩
set_option maxRecDepth 100000 in
set_option maxHeartbeats 4000000 in
theorem law_qone (a b c : Int) (w : World) :
    Calls Try.prog 5 #[.int .i64 a, .int .i64 b, .int .i64 c] w fun e w' => e = .returned (.bool true) ∧ Below w.heap.size w w' := by
  obtain ⟨n, hn, hn1, hn6⟩ : ∃ n : Nat, a % 6 + 1 = (n : Int) ∧ 1 ≤ n ∧ n ≤ 6 := ⟨(a % 6 + 1).toNat, by omega, by omega, by omega⟩
  obtain ⟨T, hT, hT2, hT9⟩ : ∃ T : Nat, c % 8 + 2 = (T : Int) ∧ 2 ≤ T ∧ T ≤ 9 := ⟨(c % 8 + 2).toNat, by omega, by omega, by omega⟩
  obtain ⟨s, hs, hsn⟩ : ∃ s : Nat, b % (n : Int) = (s : Int) ∧ s < n := ⟨(b % (n : Int)).toNat, by have := Int.emod_nonneg b (show (n : Int) ≠ 0 by omega); omega, by have := Int.emod_lt_of_pos b (show (0 : Int) < n by omega); have := Int.emod_nonneg b (show (n : Int) ≠ 0 by omega); omega⟩
  have hn0 : (0 : Int) < (n : Int) := by omega
  obtain ⟨i0, hi, hz0, hz1, hz2⟩ := info_turn'
  go_enter Try.func5, Try.ntmps5
  go_upto_region 5 with (first
    | (go_at_call 6; refine (first13_any _).mono ?_; rintro e w1 ⟨rfl, hb1⟩; have HB1 := Lib.hid hb1; clear hb1)
    | (go_at_call 8; refine (number_any _ _ _ (by decide) (by decide)).mono ?_; rintro e w2 ⟨rfl, hw2⟩; obtain rfl := hw2.symm))
  go_upto_region 6 with (go_at_call 8; refine (number_any _ _ _ (by decide) (by decide)).mono ?_; rintro e w3 ⟨rfl, hw2⟩; obtain rfl := hw2.symm)
  go_upto_region 7 with (go_at_call 8; refine (number_any _ _ _ hn0 (by omega)).mono ?_; rintro e w4 ⟨rfl, hw2⟩; obtain rfl := hw2.symm)
  go_upto_region 9 with (at_make; refine wpList_make_full _ rfl _ _ 34 rfl w4.heap.size 31 i0 (.agg #[.int .i64 0, .int .i64 0]) 2 Try.underlying34 hi hz0 hz1 .i64 .i64 (n : Int) (n : Int) n rfl rfl rfl rfl (by rw [hz2]; omega) (by unfold maxLen; omega) (Nat.le_refl _) ?_; intro w5 hown hgrow)
  have hb5 : Below w4.heap.size w4 w5 := (Below.refl _ _).grown hgrow (Nat.le_refl _) (by intro j hj; cases hj)
  rw [made_turns n (by omega)] at hown
  have HT5 : Hid (TB w5 w4.heap.size (playP n s 0)) := Lib.hid (tb_of_make hown)
  have HB5 := Lib.hid (below_next HB1.out hb5)
  have hg : w.heap.size ≤ w4.heap.size := HB1.out.size
  generalize w4.heap.size = g at *
  clear hown hgrow hb5 hi hz0 hz1 hz2
  have hz : ∀ k : Nat, wrap64 (10 + ((k : Int) + (s : Int)) % (n : Int)) % 4294967296 = adP n s k ∧ isA (adP n s k) ∧ IntKind.u32.wrap (IntKind.i64.wrap (10 + ((k : Int) + (s : Int)) % (n : Int))) = adP n s k := fun k => ⟨adP_wrap n s k (by omega) (by omega), adP_is n s k (by omega) (by omega), adP_wrap2 n s k (by omega) (by omega)⟩
  have HZ := Lib.hid hz
  clear hz
  go_loopw [9] (fun tv wr => ∃ t : Nat, t ≤ T ∧ tv = .int .i64 t ∧ Hid (TB wr g (playP n s t)) ∧ Hid (Below w.heap.size w wr)) (fun tv _ => T - (intOf tv).toNat)
  case atStart => exact ⟨0, by omega, rfl, HT5, HB5⟩
  case round =>
    obtain ⟨t, ht, rfl, HT, HB⟩ := hrel
    have HOK := Lib.hid (playP_ok n s t)
    rcases Nat.lt_or_ge t T with hlt | hge
    · have hti : (t : Int) < (T : Int) := by omega
      have HE : Hid (playP n s (t + 1) = stepsP n s (heardP n s (playP n s t) n) (playP n s t) n) := Lib.hid rfl
      generalize playP n s t = us at *
      generalize wr = w7 at *
      have hgB : g < w7.heap.size := Blk.lt HT.out
      go_wp2_with fail
      go_loopw [10, 11] (fun hv iv wk => ∃ (k : Nat) (A : Option Addr) (cc : Nat), k ≤ n ∧ iv = .int .i64 k ∧ hv = .slice A (heardP n s us k).length cc ∧ Hid (wk.ownsRow w7.heap.size 24 1 (.slice A (heardP n s us k).length cc) (heardP n s us k).length (A32 (heardP n s us k))) ∧ Hid (TB wk g us) ∧ Hid (Below w7.heap.size w7 wk)) (fun _ iv _ => n - (intOf iv).toNat)
      case atStart => exact ⟨0, none, 0, by omega, rfl, rfl, Lib.hid (World.ownsRow_nil _ _ _ _), HT, Lib.hid (Below.refl _ _)⟩
      case round =>
        obtain ⟨k, A, cc, hk, rfl, rfl, HO, HTk, HBk⟩ := hrel
        rcases Nat.lt_or_ge k n with hkn | hkn
        · have hki : (k : Int) < (n : Int) := by omega
          have hk0 : (0 : Int) ≤ (k : Int) := by omega
          obtain ⟨p, hp⟩ : ∃ p, us[k]? = some p := ⟨us[k]'(by have := HOK.out.2; omega), List.getElem?_eq_getElem _⟩
          have c0 := (HTk.out.at_ hp).1
          have HH : Hid (heardP n s us (k + 1) = if p.1 = 1 then heardP n s us k ++ [adP n s k] else heardP n s us k) := Lib.hid (by
            show (if (us.getD k (0, 0)).1 = 1 then _ else _) = _
            rw [List.getD_eq_getElem?_getD, hp]
            rfl)
          have HLK := Lib.hid (heardP_len n s us k)
          have HIS := Lib.hid (heardP_as n s us (by omega) (by omega) (k + 1))
          by_cases hp1 : p.1 = 1
          · rw [if_pos hp1] at HH
            rw [hp1] at c0
            obtain ⟨hz1, hz2, _⟩ := HZ.out k
            have HI := Lib.hid hz2
            clear hz2
            generalize adP n s k = x at *
            go_wp2_with (at_builtin; (with_reducible refine wpList_appA rfl _ _ rfl w7.heap.size _ (heardP n s us k).length (heardP n s us k) rfl (HO.out.alloc _) _ 1 1 [x] rfl (ar_lit (Blk.new _ _ _) HI.out) (by have := HLK.out; omega) (by decide) (by have := HBk.out.size; rw [sz_alloc]; omega) ?_); intro v6 w6 hown6 hb6)
            have hown7 : w6.ownsRow w7.heap.size 24 1 v6 (heardP n s us (k + 1)).length (A32 (heardP n s us (k + 1))) := by rw [HH.out]; simpa using hown6
            have HT6 : Hid (TB w6 g us) := Lib.hid (HTk.out.below (((Below.refl w7.heap.size wr).alloc HBk.out.size _).trans hb6) hgB)
            obtain ⟨A6, c6, rfl, _, _, _⟩ := own_forma hown7 HIS.out
            have HO7 := Lib.hid hown7
            have HB6 := Lib.hid (HBk.out.trans ((((Below.refl w7.heap.size wr).alloc HBk.out.size _)).trans hb6))
            clear hown6 hown7 hb6
            go_roundw
            case rel => exact ⟨k + 1, A6, c6, by omega, by go_num, rfl, HO7, HT6, HB6⟩
            case measure => simp [intOf]; omega
          · rw [if_neg hp1] at HH
            have e1 : (p.1 == 1) = false := by simpa using hp1
            go_wp2
            go_roundw
            case rel => exact ⟨k + 1, A, cc, by omega, by go_num, by rw [HH.out], by rw [HH.out]; exact HO, HTk, HBk⟩
            case measure => simp [intOf]; omega
        · obtain rfl : n = k := by omega
          have hki : decide ((n : Int) < (n : Int)) = false := by simp
          have HIS := Lib.hid (heardP_as n s us (by omega) (by omega) n)
          have HHL := Lib.hid (heardP_len n s us n)
          have HSO := Lib.hid (stepsP_ok n s (heardP n s us n) us HOK.out.1)
          have HU2 := Lib.hid HOK.out.2
          have HS9 : Hid (∀ k, stepsP n s (heardP n s us n) us (k + 1) = (stepsP n s (heardP n s us n) us k).set k (stepP ((stepsP n s (heardP n s us n) us k).getD k (0, 0)).2 (adP n s k) (heardP n s us n))) := Lib.hid fun _ => rfl
          have HT0 : Hid (TB wr g (stepsP n s (heardP n s us n) us 0)) := HTk
          have HB0 := Lib.hid (HB.out.trans (HBk.out.mono HB.out.size))
          generalize heardP n s us n = hl at *
          clear HT HTk HBk HB
          go_wp2_with fail
          go_loopw [12] (fun iv wk => ∃ k : Nat, k ≤ n ∧ iv = .int .i64 k ∧ Hid (wk.ownsRow w7.heap.size 24 1 (.slice A hl.length cc) hl.length (A32 hl)) ∧ Hid (TB wk g (stepsP n s hl us k)) ∧ Hid (Below w.heap.size w wk)) (fun iv _ => n - (intOf iv).toNat)
          case atStart => exact ⟨0, by omega, rfl, HO, HT0, HB0⟩
          case round =>
            obtain ⟨k, hk, rfl, HOk, HTk, HBk⟩ := hrel
            rcases Nat.lt_or_ge k n with hkn | hkn
            · have hki : (k : Int) < (n : Int) := by omega
              have hk0 : (0 : Int) ≤ (k : Int) := by omega
              have HL := Lib.hid ((HSO.out k).2.trans HU2.out)
              have HS1 := Lib.hid (HS9.out k)
              obtain ⟨p, hp⟩ : ∃ p, (stepsP n s hl us k)[k]? = some p := ⟨(stepsP n s hl us k)[k]'(by have := HL.out; omega), List.getElem?_eq_getElem _⟩
              have hpb := (HSO.out k).1 p (List.mem_of_getElem? hp)
              rw [List.getD_eq_getElem?_getD, hp] at HS1
              obtain ⟨c0, c1⟩ := HTk.out.at_ hp
              obtain ⟨_, _, hz3⟩ := HZ.out k
              have HZ3 := Lib.hid hz3
              clear hz3
              have HAR := (own_forma HOk.out HIS.out)
              obtain ⟨A8, c8, e8, _, har, _⟩ := HAR
              obtain ⟨rfl, rfl⟩ : A = A8 ∧ cc = c8 := by cases e8; exact ⟨rfl, rfl⟩
              have HAR := Lib.hid (har.next ((Below.refl wr.heap.size wr).drew))
              have HST := Lib.hid fun W hW => step_any p.1 p.2 (adP n s k) A hl.length cc hl W hW (by have := HHL.out; omega) (by omega)
              have HST1 : Hid (stepP p.2 (adP n s k) hl = stepP p.2 (adP n s k) hl) := Lib.hid rfl
              generalize stepsP n s hl us k = us1 at *
              simp only [Option.getD_some] at HS1
              generalize stepP p.2 (adP n s k) hl = q at *
              generalize adP n s k = x at *
              clear e8 har HST1
              go_upto_region 20 with fail
              go_region_with (go_at_call 9; rw [HZ3.out]; (with_reducible refine (HST.out _ HAR.out).mono ?_); rintro e w8 ⟨rfl, hb8⟩; have HT8 := Lib.hid (HTk.out.next (w' := w8) (((Below.refl wr.heap.size wr).drew).trans (hb8.mono (Nat.le_refl _)))); have HO8 := Lib.hid (own_next HOk.out (((Below.refl wr.heap.size wr).drew).trans (hb8.mono (Nat.le_refl _)))); have HB8 := Lib.hid (HBk.out.trans ((((Below.refl wr.heap.size wr).drew).trans (hb8.mono (Nat.le_refl _))).mono HBk.out.size)); obtain ⟨d0, d1⟩ := HT8.out.at_ hp; have z0 := Blk.frozen HT8.out (k * 2); have z1 := Blk.frozen HT8.out (k * 2 + 1))
              all_goals
                have HT9 := Lib.hid (TB.put HT8.out (k := k) (by have := HL.out; omega) q.1 q.2)
                have HO9 := Lib.hid (own_far (own_far HO8.out (p := ⟨g, k * 2, none⟩) hgB (.int .i64 q.1)) (p := ⟨g, k * 2 + 1, none⟩) hgB (.int .i64 q.2))
                have HB9 := Lib.hid ((HB8.out.setCell (p := ⟨g, k * 2, none⟩) (by simpa using hg) (.int .i64 q.1)).setCell (p := ⟨g, k * 2 + 1, none⟩) (by simpa using hg) (.int .i64 q.2))
                clear hb8 d0 d1 z0 z1 c0 c1
                generalize (w8.setCell ⟨g, k * 2, none⟩ (.int .i64 q.1)).setCell ⟨g, k * 2 + 1, none⟩ (.int .i64 q.2) = w9 at *
                go_wp2
                go_roundw
                case rel => exact ⟨k + 1, by omega, by go_num, HO9, by rw [show stepsP n s hl us (k + 1) = us1.set k (q.1, q.2) from HS1.out]; exact HT9, HB9⟩
                case measure => simp [intOf]; omega
            · obtain rfl : n = k := by omega
              have hki : decide ((n : Int) < (n : Int)) = false := by simp
              have HE2 := Lib.hid HE.out
              go_wp2
              go_roundw
              case rel => exact ⟨t + 1, by omega, by go_num, by rw [HE.out]; exact HTk, HBk⟩
              case measure => simp [intOf]; omega
    · obtain rfl : t = T := by omega
      have hti : decide ((t : Int) < (t : Int)) = false := by simp
      have HPO : Hid (∀ k : Nat, k < n → (((playP n s t).getD k (0, 0)).1 == 1) = decide ((k + s) % n = 0)) := Lib.hid fun k hk => by
        obtain ⟨n', rfl⟩ : ∃ m, n = m + 1 := ⟨n - 1, by omega⟩
        obtain ⟨t', rfl⟩ : ∃ m, t = m + 2 := ⟨t - 2, by omega⟩
        exact play_one ⟨n', by omega⟩ ⟨s, by omega⟩ hsn ⟨t', by omega⟩ ⟨k, by omega⟩ hk
      generalize playP n s t = us at *
      go_wp2_with fail
      generalize wr = w7 at *
      go_loopw [13] (fun iv wk => ∃ k : Nat, k ≤ n ∧ iv = .int .i64 k ∧ Hid (Below w7.heap.size w7 wk)) (fun iv _ => n - (intOf iv).toNat)
      case atStart => exact ⟨0, by omega, rfl, Lib.hid (Below.refl _ _)⟩
      case round =>
        obtain ⟨k, hk, rfl, HBk⟩ := hrel
        rcases Nat.lt_or_ge k n with hkn | hkn
        · have hki : (k : Int) < (n : Int) := by omega
          have hk0 : (0 : Int) ≤ (k : Int) := by omega
          obtain ⟨p, hp⟩ : ∃ p, us[k]? = some p := ⟨us[k]'(by have := HOK.out.2; omega), List.getElem?_eq_getElem _⟩
          have hv := HPO.out k hkn
          rw [List.getD_eq_getElem?_getD, hp, Option.getD_some] at hv
          have c0 := Snc.all fun W (hW : Below wr.heap.size wr W) => ((HT.out.next (below_next HBk.out hW)).at_ hp).1
          have hrem := rem_is n s k
          cases hV : decide ((k + s) % n = 0) with
          | true =>
            rw [hV] at hv hrem
            go_upto_region 24 with fail
            refine wp_region_since (by kernel_rfl) (by kernel_rfl) ?_
            repeat (go_big_quiet_step (fail))
            refine wpQuiet_nil ?_
            rintro w5 ⟨P5, rfl⟩
            have HB5 := Lib.hid (below_next HBk.out P5.b)
            clear c0
            go_wp2
            go_roundw
            case rel => exact ⟨k + 1, by omega, by go_num, HB5⟩
            case measure => simp [intOf]; omega
          | false =>
            rw [hV] at hv hrem
            go_upto_region 24 with fail
            refine wp_region_since (by kernel_rfl) (by kernel_rfl) ?_
            repeat (go_big_quiet_step (fail))
            refine wpQuiet_nil ?_
            rintro w5 ⟨P5, rfl⟩
            have HB5 := Lib.hid (below_next HBk.out P5.b)
            clear c0
            go_wp2
            go_roundw
            case rel => exact ⟨k + 1, by omega, by go_num, HB5⟩
            case measure => simp [intOf]; omega
        · obtain rfl : n = k := by omega
          have hki : decide ((n : Int) < (n : Int)) = false := by simp
          have hs1 : s ≤ 100 := by omega
          have HL3 := Lib.hid (least3_any s hs1)
          have HB9 := Lib.hid (below_next HB.out HBk.out)
          have HK3 : ∃ V : Bool, decide ((0 : Int) < (s : Int)) = V ∧ decide (0 < s) = V ∧ ((((if 0 < s then 1 else 0 : Nat) : Int) == 1) = V) := by
            by_cases h0 : 0 < s
            · exact ⟨true, by simpa using h0, by simpa using h0, by rw [if_pos h0]; rfl⟩
            · exact ⟨false, by simpa using h0, by simpa using h0, by rw [if_neg h0]; rfl⟩
          obtain ⟨V, hV1, hV3, hV2⟩ := HK3
          generalize (if 0 < s then 1 else 0 : Nat) = m at *
          clear HPO HT HOK HT5 hg HZ hT hn hs
          have hc := wrap_ten s hs1
          go_upto_region 27 with (go_at_call 7; (with_reducible refine (HL3.out _ _ (Blk.new _ _ _)).mono ?_); rintro e w8 ⟨rfl, hb8⟩)
          have HBA := Lib.hid (below_next (HB9.out.alloc HB9.out.size _) hb8)
          clear hb8 HL3
          cases V with
          | true =>
            go_wp2
            go_ret
            exact ⟨rfl, HBA.out⟩
          | false =>
            go_wp2
            go_ret
            exact ⟨rfl, HBA.out⟩
end Go.Proofs.Ytgehloimlabkdaa

