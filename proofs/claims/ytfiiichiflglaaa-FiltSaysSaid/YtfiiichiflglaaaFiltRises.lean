/- P14.1: what a link listens to rises, each source once; members that come twice change nothing; walked. -/
import Derived.Test.YtfiiichiflglaaaFiltKeys
import Derived.Test.YtfiiichiflglaaaApI
import Derived.Test.YtfiiichiflglaaaEb
import Derived.Test.YtfiiichiflglaaaBytes
namespace Go.Proofs.Ytfiiichiflglaaa
open Go.ChangeShapes Go.WideShapes Go.ChangeAt Go.RowKit Sm Go.Maps
theorem twice_any (ms : List Mb) (k : Nat) : anyM (ms ++ ms.take k) = anyM ms := by
  unfold anyM
  rw [decide_eq_decide, but_pos, but_pos]
  constructor
  · rintro ⟨m, hm, ho⟩
    rcases List.mem_append.1 hm with h | h
    · exact ⟨m, h, ho⟩
    · exact ⟨m, List.mem_of_mem_take h, ho⟩
  · rintro ⟨m, hm, ho⟩
    exact ⟨m, List.mem_append_left _ hm, ho⟩
theorem twice_of (ms : List Mb) (k : Nat) : ofL (ms ++ ms.take k) = ofL ms := by
  refine of_ext (twice_any ms k) fun a => ?_
  unfold admP
  rw [List.any_append]
  cases h : ms.any (fun m => m.xs.contains a == m.o) with
  | true => rfl
  | false =>
    rw [Bool.false_or, List.any_eq_false]
    intro m hm
    exact List.any_eq_false.1 h m (List.mem_of_mem_take hm)
theorem mod_nat (x : Int) (n : Nat) : ∃ k : Nat, x % ((n : Int) + 1) = (k : Int) ∧ k ≤ n := by
  have h0 : 0 ≤ x % ((n : Int) + 1) := Int.emod_nonneg _ (by omega)
  have h1 : x % ((n : Int) + 1) < (n : Int) + 1 := Int.emod_lt_of_pos _ (by omega)
  exact ⟨(x % ((n : Int) + 1)).toNat, by omega, by omega⟩
theorem ar_store {W : World} {A : Option Addr} {n i g : Nat} {xs : List Int} {t : TypeId} {y : Bool} {B : Option Addr} {m c : Nat} (h : AR W A n xs) (hb : Blk W g t #[.bool y, .slice B m c]) (hi : i < 2) (u : Value) : AR (W.setCell ⟨g, i, none⟩ u) A n xs :=
  ⟨h.1, h.2.1, fun hn => by
    obtain ⟨b, o, e, hl, hc⟩ := h.2.2 hn
    refine ⟨b, o, e, by simpa using hl, fun j hj => ?_⟩
    have h1 := hc j hj
    rw [World.cell?_setCell_other W ⟨g, i, none⟩ ⟨b, o + j, none⟩ u (fun e => ?_)]
    · exact h1
    · have h2 := hb.cell i
      first | rw [e] at h2 | rw [← e] at h2
      rw [h1] at h2
      match i, hi, h2 with
      | 0, _, h2 => simp at h2
      | 1, _, h2 => simp at h2⟩
/-- a variable that holds a filter, stored into -/
theorem flt_store {w0 W : World} {g : Nat} {t : TypeId} {b : Bool} {A : Option Addr} {n c : Nat} {xs : List Int} (hT : Below w0.heap.size w0 W) (hb : Blk W g t #[.bool false, .slice none 0 0]) (hg : w0.heap.size ≤ g) (h : AR W A n xs) :
    ∃ W2, (W.setCell ⟨g, 0, none⟩ (.bool b)).setCell ⟨g, 1, none⟩ (.slice A n c) = W2 ∧ Below w0.heap.size w0 W2 ∧ Blk W2 g t #[.bool b, .slice A n c] ∧ AR W2 A n xs := by
  have h1 : Blk (W.setCell ⟨g, 0, none⟩ (.bool b)) g t #[.bool b, .slice none 0 0] := hb.set_to 0 _ rfl
  exact ⟨_, rfl, (hT.setCell (p := ⟨g, 0, none⟩) hg _).setCell (p := ⟨g, 1, none⟩) hg _, h1.set_to 1 _ rfl, ar_store (ar_store h hb (by decide) _) h1 (by decide) _⟩
set_option maxRecDepth 100000 in
set_option maxHeartbeats 4000000 in
theorem law_rises (A : Option Addr) (n c : Nat) (ms : List Mb) (x : Int) (w : World) (h : MR w A n ms) (hn : n ≤ 9223372036854775807) (hc : n ≤ c) :
    Calls Try.prog 7 #[.slice A n c, .int .i64 x] w fun e w' => e = .returned (.bool true) ∧ Below w.heap.size w w' := by
  have H := Lib.hid h
  clear h
  go_enter Try.func7, Try.ntmps7
  go_upto_region 4 with (go_at_call 8; (with_reducible refine (first14_any w).mono ?_); rintro e w1 ⟨rfl, hb1⟩)
  have HM := Lib.hid (H.out.next hb1)
  have HB := Lib.hid hb1
  clear hb1 H
  have HLT := Lib.hid (light_any A n c ms w1 HM.out hn)
  generalize hN : w.heap.size = N at *
  cases hl : ltP ms with
  | false =>
    rw [hl] at HLT
    go_wp2_with (go_at_call 9; (with_reducible refine HLT.out.mono ?_); rintro e w2 ⟨rfl, rfl⟩)
    go_ret
    exact ⟨rfl, by rw [hN]; exact HB.out⟩
  | true =>
    rw [hl] at HLT
    obtain ⟨hn12, hms⟩ := all_small HM.out hl
    by_cases h6 : 6 < n
    · have d6 : decide ((6 : Int) < (n : Int)) = true := by simp; omega
      go_wp2_with (go_at_call 9; (with_reducible refine HLT.out.mono ?_); rintro e w2 ⟨rfl, rfl⟩)
      go_ret
      exact ⟨rfl, by rw [hN]; exact HB.out⟩
    have d6 : decide ((6 : Int) < (n : Int)) = false := by simp; omega
    go_upto_region 6 with (go_at_call 9; (with_reducible refine HLT.out.mono ?_); rintro e w2 ⟨rfl, rfl⟩)
    clear HLT hl hn d6
    have HO := Lib.hid (of_any' A n c ms w1 HM.out (by omega) (fun m hm => by have := hms m hm; omega))
    have HS : Hid ((ofL ms).length ≤ 1000) := Lib.hid (of_small (by rw [HM.out.r.len]; exact hn12) (fun m hm => by rw [(HM.out.a m hm).len]; exact hms m hm))
    have HT := Lib.hid (of_lt ms)
    have HZ : Hid (N ≤ w1.heap.size) := Lib.hid (by rw [← hN]; exact hN ▸ HB.out.size)
    have HMS := Lib.hid hms
    clear hms
    obtain ⟨b, hb⟩ : ∃ b, anyM ms = b := ⟨_, rfl⟩
    obtain ⟨xs, hxs⟩ : ∃ xs, ofL ms = xs := ⟨_, rfl⟩
    have HBX := Lib.hid (And.intro hb hxs)
    rw [hb, hxs] at HO
    rw [hxs] at HS HT
    clear hb hxs
    go_upto_region 7 with (go_at_call 10; (with_reducible refine HO.out.mono ?_); rintro e w6 ⟨A8, c8, rfl, har8, hb6⟩)
    have hB7 := Lib.hid ((HB.out.trans (hb6.mono HZ.out)).alloc (Nat.le_trans HZ.out hb6.size) (.cells #[.bool b, .slice A8 xs.length c8] 25))
    have K8 := Lib.hid (Blk.new w6 25 #[.bool b, .slice A8 xs.length c8])
    have R8 := Lib.hid (har8.next ((Below.refl w6.heap.size w6).alloc (Nat.le_refl _) (.cells #[.bool b, .slice A8 xs.length c8] 25)))
    replace HM := Lib.hid ((HM.out.next hb6).next ((Below.refl w6.heap.size w6).alloc (Nat.le_refl _) (.cells #[.bool b, .slice A8 xs.length c8] 25)))
    have HZ7 : Hid (N ≤ w6.heap.size + 1) := Lib.hid (Nat.le_trans HZ.out (Nat.le_trans hb6.size (Nat.le_succ _)))
    rw [← sz_alloc w6 (.cells #[.bool b, .slice A8 xs.length c8] 25)] at HZ7
    clear HB hb6 HO har8 HZ
    generalize w6.alloc (.cells #[.bool b, .slice A8 xs.length c8] 25) = w7 at *
    generalize w6.heap.size = N8 at *
    clear w6
    have hxl := HS.out
    go_wp2
    go_loopw [7] (fun iv wr => ∃ k : Nat, (k + 1 ≤ xs.length ∨ k = 0) ∧ iv = .int .i64 ((k : Int) + 1) ∧ Hid (Below w7.heap.size w7 wr)) (fun iv _ => xs.length + 1 - (intOf iv).toNat)
    case atStart => exact ⟨0, .inr rfl, rfl, Lib.hid (Below.refl _ _)⟩
    case round =>
      obtain ⟨k, hk, rfl, HP⟩ := hrel
      rcases Nat.lt_or_ge (k + 1) xs.length with hlt | hge
      · have hi0 : (k : Int) + 1 < (xs.length : Int) := by omega
        have i0 : (k : Int) < (xs.length : Int) := by omega
        have i2 : (0 : Int) ≤ (k : Int) := by omega
        have i3 : ((k + 1 : Nat) : Int) = (k : Int) + 1 := by omega
        obtain ⟨b9, o9, rfl, hb9, hcc⟩ := R8.out.2.2 (by omega)
        obtain ⟨y, hY⟩ : ∃ y, xs.getD k 0 = y := ⟨_, rfl⟩
        obtain ⟨z, hZ⟩ : ∃ z, xs.getD (k + 1) 0 = z := ⟨_, rfl⟩
        have hgy : xs[k]? = some y := by rw [← hY, List.getD_eq_getElem?_getD, List.getElem?_eq_getElem (by omega)]; rfl
        have hgz : xs[k + 1]? = some z := by rw [← hZ, List.getD_eq_getElem?_getD, List.getElem?_eq_getElem hlt]; rfl
        have hd : y < z := lt_at HT.out hgy hgz
        have hd1 : decide (z ≤ y) = false := by simp; omega
        have c0 : ∀ p : Snc wr, p.W.cell? ⟨b9, o9 + k, none⟩ = some (.int .u32 y) := fun p => ((HP.out.trans (p.b.mono HP.out.size)).cell (p := ⟨b9, o9 + k, none⟩) hb9).trans (by rw [hcc k (by omega), hY])
        have c1 : ∀ p : Snc wr, p.W.cell? ⟨b9, o9 + (k + 1), none⟩ = some (.int .u32 z) := fun p => ((HP.out.trans (p.b.mono HP.out.size)).cell (p := ⟨b9, o9 + (k + 1), none⟩) hb9).trans (by rw [hcc (k + 1) hlt, hZ])
        have k0 : ∀ p : Snc wr, p.W.cell? ⟨N8, 0, none⟩ = some (.bool b) := fun p => ((K8.out.next HP.out).next p.b).cell 0
        have k1 : ∀ p : Snc wr, p.W.cell? ⟨N8, 1, none⟩ = some (.slice (some ⟨b9, o9, none⟩) xs.length c8) := fun p => ((K8.out.next HP.out).next p.b).cell 1
        have k2 := k1 ⟨wr, Below.refl _ _⟩
        clear hcc hY hZ hgy hgz
        go_upto_region 10 with fail
        refine wp_region_since (by kernel_rfl) (by kernel_rfl) ?_
        repeat (go_big_quiet_step (fail))
        refine wpQuiet_nil ?_
        rintro w5 ⟨P5, rfl⟩
        have HP5 := Lib.hid (HP.out.trans (P5.b.mono HP.out.size))
        clear c0 c1 k0 k1 k2 HP
        generalize P5.W = W5 at *
        go_wp2
        go_roundw
        case rel => exact ⟨k + 1, .inl hlt, by go_num, HP5⟩
        case measure => simp [intOf]; omega
      · have q1 : ¬ (k : Int) + 1 < (xs.length : Int) := by omega
        have z1 : wr.cell? ⟨N8, 1, none⟩ = some (.slice A8 xs.length c8) := (K8.out.next HP.out).cell 1
        obtain ⟨K, hK, hKn⟩ := mod_nat x n
        have HN := Lib.hid (number_any x ((n : Int) + 1) wr (by omega) (by omega))
        rw [hK] at HN
        clear hK
        go_upto_region 13 with (go_at_call 21; (with_reducible refine HN.out.mono ?_); rintro e w8 ⟨rfl, rfl⟩)
        clear HN q1 z1 hge hk
        have HMr := Lib.hid fun W (hW : Below wr.heap.size wr W) => (HM.out.next HP.out).next hW
        have hm1 : n ≤ 1048576 := by omega
        have hmK : K ≤ 1048576 := by omega
        have i1 : (K : Int) ≤ (c : Int) := by omega
        have i2 : (0 : Int) ≤ (K : Int) := by omega
        have i3 : K ≤ c := by omega
        obtain ⟨L5, hL5⟩ : ∃ L5, ms ++ ms.take K = L5 := ⟨_, rfl⟩
        have HL5 := Lib.hid hL5
        have HLn : Hid (L5.length = n + K) := Lib.hid (by rw [← hL5]; have := HM.out.r.len; simp; omega)
        have HOf : Hid (∀ (W : World) (A5 : Option Addr) (c5 : Nat), Below wr.heap.size wr W → RI CMember 4 W A5 L5.length L5 → Calls Try.prog 10 #[.slice A5 L5.length c5] W fun e w' => ∃ (A' : Option Addr) (c' : Nat), e = .returned (.agg #[.bool b, .slice A' xs.length c']) ∧ AR w' A' xs.length xs ∧ Below W.heap.size W w') := Lib.hid fun W A5 c5 hW hr => by
          have hmem : ∀ m ∈ L5, m ∈ ms := by
            intro m hm
            rw [← hL5] at hm
            rcases List.mem_append.1 hm with hm | hm
            · exact hm
            · exact List.mem_of_mem_take hm
          have h := of_any' A5 L5.length c5 L5 W ⟨hr, fun m hm => (HMr.out W hW).a m (hmem m hm)⟩ (by have := HLn.out; omega) (fun m hm => by have := HMS.out m (hmem m hm); omega)
          have e1 : ofL L5 = xs := by rw [← hL5, twice_of]; exact HBX.out.2
          have e2 : anyM L5 = b := by rw [← hL5, twice_any]; exact HBX.out.1
          rw [e1, e2] at h
          exact h
        clear hL5
        refine wp_region_held_drew (S := fun _ => True) (by kernel_rfl) trivial (fun _ => ?_)
        refine wpAnyH_eachL (md := .any) (m := 1) (rem := [0, 1, 2, 3, 4, 5, 6, 7, 8]) (tail := [9]) (deps := fun i => match i with | 2 => [0, 1] | 5 => [3, 4] | 6 => [2, 5] | 7 => [6, 2] | _ => []) (fun _ W => Below wr.heap.size wr W) (fun ix W _ W' => KP wr 25 6 ix W W')
          (fun ix l ds v W => match ix with | 0 => ∃ g, v = .slice (some ⟨g, 0, none⟩) 0 0 ∧ (2 ∉ l → W.ownsRow wr.heap.size 38 4 v 0 []) | 1 => v = .slice A n c | 2 => 6 ∉ l → W.ownsRow wr.heap.size 38 4 v n (ms.flatMap CMember) | 3 => v = .slice A n c | 4 => v = .int .i64 (K : Int) | 5 => v = .slice A K c | 6 => ∃ A5 c5, v = .slice A5 L5.length c5 ∧ RI CMember 4 W A5 L5.length L5 | 7 => ∃ A' c', v = .agg #[.bool b, .slice A' xs.length c'] ∧ AR W A' xs.length xs | 8 => ∃ g, v = .pointer (some ⟨g, 0, none⟩) ∧ Blk W g 25 #[.bool false, .slice none 0 0] ∧ wr.heap.size ≤ g | _ => True) (eachB_spec (by kernel_rfl)) (fun i hi l hl w v w' hT hK => hK.b) (fun _ _ _ => trivial) ?_ (fun _ _ _ _ => True) (fun _ _ _ _ _ _ _ _ _ _ _ _ _ _ => ⟨trivial, trivial⟩) ?_ ?_ (Below.refl _ _).drew
        · intro i hi j hj hij hjd ds v u l W W' hil hjl hdj hcl _ hk h
          simp only [List.mem_cons, List.not_mem_nil, or_false] at hi
          rcases hi with rfl | rfl | rfl | rfl | rfl | rfl | rfl | rfl | rfl
          · obtain ⟨g, e, ho⟩ := h
            refine ⟨g, e, fun h2 => ?_⟩
            rw [List.mem_append, not_or] at h2
            refine ownk_next (ho h2.1) (hk.s fun e6 => ?_)
            subst e6
            exact h2.1 (hdj 2 (by simp))
          · exact h
          · intro h6
            rw [List.mem_append, not_or] at h6
            exact ownk_next (h h6.1) (hk.s fun e6 => h6.2 (by rw [e6]; simp))
          · exact h
          · exact h
          · exact h
          · obtain ⟨A5, c5, e, hr⟩ := h
            exact ⟨A5, c5, e, hr.next (hk.s (Ne.symm hij))⟩
          · obtain ⟨A5, c5, e, hr⟩ := h
            exact ⟨A5, c5, e, hr.next (hk.s fun e6 => hjd (by rw [e6]; simp))⟩
          · obtain ⟨g, e, hb, hg⟩ := h
            exact ⟨g, e, hk.f g _ hb, hg⟩
        · refine AllL.cons [] rfl rfl (fun vs lq W hl hc hT hd => ?_) ?_
          · dsimp only [lay, List.foldl, List.map, dstOf]
            go_wp2
            exact ⟨rfl, _, rfl, KP.of hT ((Below.refl _ _).alloc (Nat.le_refl _) _), ⟨_, rfl⟩, fun _ => World.ownsRow_lit W #[] 0 hT.size (by decide) rfl⟩
          refine AllL.cons [] rfl rfl (fun vs lq W hl hc hT hd => ?_) ?_
          · dsimp only [lay, List.foldl, List.map, dstOf]
            go_wp2
            exact ⟨rfl, _, rfl, KP.same hT, rfl⟩
          refine AllL.cons [0, 1] rfl rfl (fun vs lq W hl hc hT hd => ?_) ?_
          · obtain ⟨g0, e0, ho⟩ := hd 0 (by simp)
            have e1 : vs 1 = .slice A n c := hd 1 (by simp)
            have ho0 := ho hl
            rw [e0] at ho0
            dsimp only [lay, List.foldl, List.map, dstOf]
            rw [e0, e1]
            refine wpList_mbs0 rfl _ _ (by rfl) wr.heap.size g0 (by rfl) ho0 A n c ms (by rfl) (HMr.out _ hT).r (by omega) hT.size ?_
            intro v4 w4 hown4 hb4
            refine wpList_nil ?_
            exact ⟨rfl, _, rfl, KP.of hT hb4, fun _ => hown4⟩
          refine AllL.cons [] rfl rfl (fun vs lq W hl hc hT hd => ?_) ?_
          · dsimp only [lay, List.foldl, List.map, dstOf]
            go_wp2
            exact ⟨rfl, _, rfl, KP.same hT, rfl⟩
          refine AllL.cons [] rfl rfl (fun vs lq W hl hc hT hd => ?_) ?_
          · dsimp only [lay, List.foldl, List.map, dstOf]
            go_wp2
            exact ⟨rfl, _, rfl, KP.same hT, rfl⟩
          refine AllL.cons [3, 4] rfl rfl (fun vs lq W hl hc hT hd => ?_) ?_
          · have e3 : vs 3 = .slice A n c := hd 3 (by simp)
            have e4 : vs 4 = .int .i64 (K : Int) := hd 4 (by simp)
            dsimp only [lay, List.foldl, List.map, dstOf]
            rw [e3, e4]
            go_wp2
            exact ⟨rfl, _, rfl, KP.same hT, rfl⟩
          refine AllL.cons [2, 5] rfl rfl (fun vs lq W hl hc hT hd => ?_) ?_
          · have ho2 := hd 2 (by simp) hl
            have e5 : vs 5 = .slice A K c := hd 5 (by simp)
            dsimp only [lay, List.foldl, List.map, dstOf]
            rw [e5]
            generalize vs 2 = v4 at *
            refine wpList_mbs rfl _ _ (by rfl) wr.heap.size v4 n ms (by rfl) ho2 A K c (ms.take K) (by rfl) ((HMr.out _ hT).r.take hKn) hm1 hmK hT.size ?_
            intro v5 w5 hown5 hb5 hg5
            refine wpList_nil ?_
            rw [HL5.out, ← HLn.out] at hown5
            obtain ⟨A5, c5, rfl, hc5, hr5⟩ := RI.of_own (enc := CMember) (k := 4) (xs := L5) (fun _ => rfl) hown5
            exact ⟨rfl, _, rfl, ⟨hT.trans hb5, fun h => absurd rfl h, fun g cs h => grown_blk ho2 hg5 h (by decide)⟩, A5, c5, rfl, hr5⟩
          refine AllL.cons [6, 2] rfl rfl (fun vs lq W hl hc hT hd => ?_) ?_
          · obtain ⟨A5, c5, e6, hr5⟩ := hd 6 (by simp)
            dsimp only [lay, List.foldl, List.map, dstOf]
            rw [e6]
            generalize vs 2 = v4 at *
            go_wp2_with (go_at_call 10; (with_reducible refine (HOf.out W A5 c5 hT hr5).mono ?_); rintro e w6 ⟨A6, c6, rfl, har6, hb6⟩)
            exact ⟨rfl, _, rfl, KP.of hT hb6, A6, c6, rfl, har6⟩
          refine AllL.cons [] rfl rfl (fun vs lq W hl hc hT hd => ?_) AllL.nil
          · dsimp only [lay, List.foldl, List.map, dstOf]
            go_wp2
            exact ⟨rfl, _, rfl, KP.of hT ((Below.refl _ _).alloc (Nat.le_refl _) _), _, rfl, Blk.new _ _ _, hT.size⟩
        · intro vs lq W hall hT hF _ aE LE ha hL
          obtain ⟨g0, e0, -⟩ := hF 0 (by simp)
          have e1 : vs 1 = .slice A n c := hF 1 (by simp)
          have e3 : vs 3 = .slice A n c := hF 3 (by simp)
          have e4 : vs 4 = .int .i64 (K : Int) := hF 4 (by simp)
          have e5 : vs 5 = .slice A K c := hF 5 (by simp)
          obtain ⟨A5, c5, e6, -⟩ := hF 6 (by simp)
          obtain ⟨A6, c6, e7, har6⟩ := hF 7 (by simp)
          obtain ⟨g9, e8, hb9, hg9⟩ := hF 8 (by simp)
          have hL' : LE = #[true, true, true, true, true, true, true, true, true, false] := hL.trans (by kernel_rfl)
          dsimp only [lay, List.foldl, dstOf] at ha
          rw [e0, e1, e3, e4, e5, e6, e7, e8] at ha
          clear e0 e1 e3 e4 e5 e6 e7 e8 hL hF hall
          generalize vs 2 = v4 at *
          subst ha hL'
          have c90 : W.cell? ⟨g9, 0, none⟩ = some (.bool false) := hb9.cell 0
          have c91 : W.cell? ⟨g9, 1, none⟩ = some (.slice none 0 0) := hb9.cell 1
          have f90 : W.frozen? ⟨g9, 0, none⟩ = false := hb9.frozen _
          have f91 : W.frozen? ⟨g9, 1, none⟩ = false := hb9.frozen _
          refine wpAnyH_ready (rs := [9]) (by kernel_rfl) (by simp) ?_
          refine AllReadyH.cons rfl (fun Kq hK => ?_) AllReadyH.nil
          go_simp
          refine hK.out _ _ trivial (fun _ => ?_)
          clear hK
          refine wpAnyH_done (by kernel_rfl) ?_ _
          obtain ⟨W9, eW, hT9, hk9, hr9⟩ := flt_store (b := b) (c := c6) hT hb9 hg9 har6
          rw [eW]
          clear eW c90 c91 f90 f91 hb9 har6
          have q80 : W9.cell? ⟨N8, 0, none⟩ = some (.bool b) := ((K8.out.next HP.out).next hT9).cell 0
          have q81 : W9.cell? ⟨N8, 1, none⟩ = some (.slice A8 xs.length c8) := ((K8.out.next HP.out).next hT9).cell 1
          have q90 : W9.cell? ⟨g9, 0, none⟩ = some (.bool b) := hk9.cell 0
          have q91 : W9.cell? ⟨g9, 1, none⟩ = some (.slice A6 xs.length c6) := hk9.cell 1
          have HR8 := Lib.hid ((R8.out.next HP.out).next hT9)
          have HR9 := Lib.hid hr9
          have HK8 := Lib.hid ((K8.out.next HP.out).next hT9)
          have HK9 := Lib.hid hk9
          have HBr := Lib.hid (HZ7.out)
          have HB9 := Lib.hid (hB7.out.trans ((HP.out.trans (hT9.mono HP.out.size)).mono HZ7.out))
          have HZ9 : Hid (N ≤ W9.heap.size) := Lib.hid (Nat.le_trans HZ7.out (Nat.le_trans HP.out.size hT9.size))
          have HS1 := Lib.hid (fsame_any b b A8 A6 xs.length c8 xs.length c6 xs xs W9 HR8.out HR9.out (by omega) (by omega))
          rw [show (b == b && decide (xs = xs)) = true by simp] at HS1
          clear hT9 hT hk9 hr9 K8 R8 HP hB7 HOf HMr
          go_wp2_with (first
            | (go_at_call 20; (with_reducible refine HS1.out.mono ?_); rintro e wa ⟨rfl, hba⟩; have q80 := (HK8.out.next hba).cell 0; have q81 := (HK8.out.next hba).cell 1; have q90 := (HK9.out.next hba).cell 0; have q91 := (HK9.out.next hba).cell 1; have HBa := Lib.hid hba; simp at q80 q81 q90 q91; clear hba)
            | (go_at_call 12; (with_reducible refine (sameA_any A8 A6 xs.length xs.length c8 c6 xs xs wa (HR8.out.next HBa.out) (HR9.out.next HBa.out) (by omega) (by omega)).mono ?_); rintro e wb ⟨rfl, hbb⟩; rw [show decide (xs = xs) = true by simp]))
          go_ret
          exact ⟨rfl, by rw [hN]; exact HB9.out.trans ((HBa.out.trans (hbb.mono HBa.out.size)).mono HZ9.out)⟩
end Go.Proofs.Ytfiiichiflglaaa

