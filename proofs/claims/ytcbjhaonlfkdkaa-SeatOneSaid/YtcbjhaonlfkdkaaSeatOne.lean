/- The statement on the best of bids, walked. -/
import Derived.Test.YtcbjhaonlfkdkaaBp
import Derived.Lib.AppendIntMem
import Derived.Deep.RegionHeld3
import Derived.Deep.RegionLaw
import Derived.Deep.DeepAppendRoom
namespace Go.Proofs.Ytcbjhaonlfkdkaa
open Go.ChangeShapes Go.WideShapes Go.ChangeAt Go.RowKit
theorem info_bid : (Try.prog.info? 25).map (fun i => (i.zero, i.size, i.bytes)) = some (some (.agg #[.int .i64 0, .int .u32 0]), 2, 16) := by kernel_rfl
theorem info_two {P : Program} {e : TypeId} {z : Value} {s b : Nat} (h : (P.info? e).map (fun i => (i.zero, i.size, i.bytes)) = some (some z, s, b)) : ∃ i, P.info? e = some i ∧ i.zero = some z ∧ i.size = s ∧ i.bytes = b := by
  cases hi : P.info? e with
  | none => rw [hi] at h; cases h
  | some i => rw [hi] at h; simp at h; exact ⟨i, rfl, h.1, h.2.1, h.2.2⟩
theorem cbd_len (xs : List Bd) : (xs.flatMap CBd).length = xs.length * 2 := by
  induction xs with
  | nil => rfl
  | cons x xs ih => rw [List.flatMap_cons, List.length_append, ih, List.length_cons]; simp [CBd]; omega
theorem ri_news {w : World} {ad : Addr} {m : Nat} {ys : List Bd} (h : RI CBd 2 w (some ad) m ys) : ∀ j u, (ys.flatMap CBd)[j]? = some u → w.cell? (ad.add j) = some u := by
  intro j u hj
  have hl := (List.getElem?_eq_some_iff.1 hj).1
  rw [cbd_len] at hl
  have hm := h.len
  obtain ⟨b, o, e, _, hc⟩ := h.2 (by omega)
  cases e
  have hx : ys[j / 2]? = some (ys[j / 2]'(by omega)) := List.getElem?_eq_getElem _
  generalize ys[j / 2]'(by omega) = x at hx
  have hv : (CBd x)[j % 2]? = some ((CBd x)[j % 2]'(by simp [CBd]; omega)) := List.getElem?_eq_getElem _
  have h2 := flat_at (enc := CBd) (k := 2) (fun _ => rfl) ys (j / 2) x hx hv
  rw [show j / 2 * 2 + j % 2 = j by omega, hj] at h2
  have h3 := hc (j / 2) x hx (j % 2) _ hv
  rw [show o + j / 2 * 2 + j % 2 = o + j by omega] at h3
  cases h2
  rw [add_plain]
  exact h3
theorem blk_new2 (w : World) (o : Obj) (t : TypeId) (cs : Array Value) : Blk ((w.alloc o).alloc (.cells cs t)) (w.heap.size + 1) t cs := by
  have := Blk.new (w.alloc o) t cs
  simpa using this
theorem Blk.grown {w w' : World} {g : Nat} {t : TypeId} {cs : Array Value} {ob : Option Nat} (h : Blk w g t cs) (hg : w.grownBy w' ob) (ne : some g ≠ ob) : Blk w' g t cs := (hg.block g h.lt ne).trans h
theorem own_new2 (w : World) (o : Obj) (t : TypeId) : ((w.alloc o).alloc (.cells #[] t)).drew.ownsRow w.heap.size t 2 (.slice (some ⟨w.heap.size + 1, 0, none⟩) 0 0) 0 [] := by
  have := World.ownsRow_lit (base := w.heap.size) (e := t) (size := 2) (w.alloc o) #[] 0 (by simp) (by decide) rfl
  refine World.ownsRow.drew ?_
  simpa using this
theorem step_bids {w : World} {ops : Array Oper} {o : Oper} {a : Act} {K : Act → World → Prop} {Q : Exit → Act → World → Prop} {E : Prop} (hgd : o.guard = none) (s x : Operand)
    (ho : o.op = .call { callee := .builtin .append, args := #[s, x], argTypes := #[30, 30] })
    (base : Nat) (v : Value) (n : Nat) (xs : List Bd) (hs : a.eval s = v) (hown : w.ownsRow base 25 2 v n (xs.flatMap CBd))
    (A : Option Addr) (m c : Nat) (ys : List Bd) (hx : a.eval x = .slice A m c) (hri : RI CBd 2 w A m ys) (h0 : 0 < m) (hn : n ≤ 1048576) (hm : m ≤ 1048576) (hbase : base ≤ w.heap.size)
    (h : ∀ v' w', w'.ownsRow base 25 2 v' (n + m) ((xs ++ ys).flatMap CBd) → Below base w w' → w.grownBy w' v.ownBlock → K (a.put o.dst v') w') :
    if Region.wanted o (yielded ops a.tmps) = true then Oper.wp Try.prog o a w K Q else E := by
  obtain ⟨b, off, rfl, _, _⟩ := hri.2 h0
  obtain ⟨i, hi, hz, hsz, hby⟩ := info_two info_bid
  rw [if_pos (by simp [Region.wanted, hgd])]
  obtain ⟨v', w', hr, h2, h3, _, _⟩ := run_append_own_at (P := Try.prog) w base 30 o.type 25 i (.agg #[.int .i64 0, .int .u32 0]) 2 16 Try.underlying30 hi hz hsz hby rfl (by decide) v n _ hown ⟨b, off, none⟩ m c (ys.flatMap CBd) (by rw [cbd_len, hri.len]) (ri_news hri)
    (by intro u hu; rw [List.mem_flatMap] at hu; obtain ⟨y, _, hy⟩ := hu; simp [CBd] at hy; rcases hy with rfl | rfl <;> rfl) (by unfold maxLen; omega) (by omega) hbase
  have hk := h v' w' (by rw [List.flatMap_append]; exact h2) ((Below.refl base w).grown h3 hbase (by intro j hj; exact (hown.lt j hj).1)) h3
  simp only [Oper.wp, execOp, ho, resolve, invoke, builtin, Sem.run_bind, Sem.run_pure, Result.andThen_ok, List.map_toArray, List.map_cons, List.map_nil, hs, hx, hr]
  exact hk
theorem bt_v {w0 : World} {a b c d : Int} {V : Bool} (h : beats (a, b) (c, d) = V) (P : Snc w0) : Calls Try.prog 6 #[.agg #[.int .i64 a, .int .u32 b], .agg #[.int .i64 c, .int .u32 d]] P.W fun e w' => e = .returned (.bool V) ∧ ∃ Q : Snc w0, w' = Q.W :=
  Calls.since (by have := better_any (a, b) (c, d) P.W; rw [h] at this; exact this)
set_option maxRecDepth 100000 in
set_option maxHeartbeats 4000000 in
theorem law_one (A : Option Addr) (n c : Nat) (xs : List Bd) (a b : Int) (w : World) (h : RI CBd 2 w A n xs) :
    Calls Try.prog 4 #[.slice A n c, .agg #[.int .i64 a, .int .u32 b]] w fun e w' => e = .returned (.bool true) ∧ Below w.heap.size w w' := by
  have hb0 := (Below.refl w.heap.size w).alloc (Nat.le_refl _) (.cells #[.int .i64 a, .int .u32 b] 25)
  by_cases hbig : 20 < n
  · have hd : decide ((20 : Int) < (n : Int)) = true := by simp; omega
    go_enter Try.func4, Try.ntmps4
    go_wp2_with fail
    refine (first12_any _).mono ?_
    rintro e w1 ⟨rfl, hb1⟩
    go_wp2
    go_ret
    exact ⟨rfl, below_next hb0 hb1⟩
  have hd : decide ((20 : Int) < (n : Int)) = false := by simp; omega
  by_cases hz : n = 0
  · subst hz
    go_enter Try.func4, Try.ntmps4
    go_wp2_with fail
    refine (first12_any _).mono ?_
    rintro e w1 ⟨rfl, hb1⟩
    go_wp2
    go_ret
    exact ⟨rfl, below_next hb0 hb1⟩
  have hz1 : ((n : Int) == 0) = false := by simp; omega
  obtain ⟨b6, o6, _, rfl, _, _, _⟩ := h.at_ (i := 0) (by omega)
  have HR : Hid (∀ W, Below w.heap.size w W → RI CBd 2 W (some ⟨b6, o6, none⟩) n xs) := Lib.hid fun W hW => h.next hW
  have HK : Hid (bestP xs n < n) := Lib.hid (bestP_bd xs (by omega))
  have HM : Hid (∀ j, j < n → beats (xs.getD j (0, 0)) (xs.getD (bestP xs n) (0, 0)) = false) := Lib.hid (bestP_max xs n)
  have HF : Hid (∀ j, j < bestP xs n → xs.getD j (0, 0) ≠ xs.getD (bestP xs n) (0, 0)) := Lib.hid (bestP_first xs n)
  have hlen := h.len
  have HS : Hid (bestP (xs ++ [(a, b)]) (n + 1) = if beats (a, b) (xs.getD (bestP xs n) (0, 0)) then n else bestP xs n) := Lib.hid (by
    have hp : ∀ k, k ≤ n → bestP (xs ++ [(a, b)]) k = bestP xs k := by
      intro k
      induction k with
      | zero => intro _; rfl
      | succ k ih =>
        intro hk
        have hb := bestP_lt xs k
        unfold bestP
        rw [ih (by omega), List.getD_eq_getElem?_getD, List.getD_eq_getElem?_getD, List.getD_eq_getElem?_getD, List.getD_eq_getElem?_getD, List.getElem?_append_left (by omega), List.getElem?_append_left (by omega)]
    have hb := bestP_bd xs (n := n) (by omega)
    conv => lhs; unfold bestP
    rw [hp n (Nat.le_refl _), List.getD_eq_getElem?_getD, List.getD_eq_getElem?_getD, List.getElem?_append_left (i := bestP xs n) (by omega), List.getElem?_append_right (by omega), hlen, Nat.sub_self]
    simp only [List.getElem?_cons_zero, Option.getD_some, List.getD_eq_getElem?_getD])
  have HBE := Lib.hid fun W hW => best_any (some ⟨b6, o6, none⟩) n c xs W (HR.out W hW) (by omega)
  generalize bestP xs n = K at *
  have hk4 := HK.out
  have hk0 : ¬ (K : Int) < 0 := by omega
  have hk1 : decide ((K : Int) < 0) = false := by simp
  have hk2 : ¬ (n : Int) ≤ (K : Int) := by omega
  have hk3 : decide ((n : Int) ≤ (K : Int)) = false := by simp; omega
  have hk5 : decide (0 < n) = true := by simp; omega
  clear h
  go_enter Try.func4, Try.ntmps4
  go_upto_region 1 with fail
  have e0 : (w.alloc (.cells #[.int .i64 a, .int .u32 b] 25)).cell? ⟨w.heap.size, 0, none⟩ = some (.int .i64 a) := by go_simp
  have e1 : (w.alloc (.cells #[.int .i64 a, .int .u32 b] 25)).cell? ⟨w.heap.size, 1, none⟩ = some (.int .u32 b) := by go_simp
  have hl : w.heap.size < (w.alloc (.cells #[.int .i64 a, .int .u32 b] 25)).heap.size := by simp
  generalize w.alloc (.cells #[.int .i64 a, .int .u32 b] 25) = w0 at *
  replace e0 := Lib.hid fun W (hW : Below w0.heap.size w0 W) => (hW.cell (p := ⟨w.heap.size, 0, none⟩) hl).trans e0
  replace e1 := Lib.hid fun W (hW : Below w0.heap.size w0 W) => (hW.cell (p := ⟨w.heap.size, 1, none⟩) hl).trans e1
  have HB0 := Lib.hid hb0
  have hsz := hb0.size
  have HR0 : Hid (∀ W, Below w0.heap.size w0 W → RI CBd 2 W (some ⟨b6, o6, none⟩) n xs) := Lib.hid fun W hW => HR.out W (below_next HB0.out hW)
  clear hb0 hl
  go_upto_region 7 with (first
    | (go_at_call 5; refine (first12_any _).mono ?_; rintro e w1 ⟨rfl, hb1⟩; have HB1 := Lib.hid hb1; clear hb1)
    | (go_at_call 7; (with_reducible refine (HBE.out _ (below_next HB0.out HB1.out)).mono ?_); rintro e w2 ⟨rfl, hb2⟩; have HB2 := Lib.hid (below_next HB1.out hb2); clear hb2))
  go_wp2_with fail
  go_loopw [8] (fun iv wr => ∃ k : Nat, k ≤ n ∧ iv = .int .i64 k ∧ Below w0.heap.size w0 wr) (fun iv _ => n - (intOf iv).toNat)
  case atStart => exact ⟨0, by omega, rfl, HB2.out⟩
  case round =>
    obtain ⟨k, hk, rfl, hb⟩ := hrel
    have HB := Lib.hid hb
    rcases Nat.lt_or_ge k n with hlt | hge
    · obtain ⟨bb, oo, ⟨x1, x2⟩, ey, hbl, hx, hc⟩ := (HR0.out wr hb).at_ hlt
      obtain ⟨rfl, rfl⟩ : b6 = bb ∧ o6 = oo := by cases ey; exact ⟨rfl, rfl⟩
      obtain ⟨b', o', ⟨y1, y2⟩, ez, hbl', hy, hc'⟩ := (HR0.out wr hb).at_ HK.out
      obtain ⟨rfl, rfl⟩ : b6 = b' ∧ o6 = o' := by cases ez; exact ⟨rfl, rfl⟩
      have gx : xs.getD k (0, 0) = (x1, x2) := by rw [List.getD_eq_getElem?_getD, hx]; rfl
      have gy : xs.getD K (0, 0) = (y1, y2) := by rw [List.getD_eq_getElem?_getD, hy]; rfl
      have m1 := HM.out k hlt
      have m2 := HF.out k
      rw [gx, gy] at m1 m2
      have c0 := Snc.all fun W (hW : Below wr.heap.size wr W) => (hW.cell (p := ⟨b6, o6 + k * 2, none⟩) hbl).trans (hc 0 _ rfl)
      have c1 := Snc.all fun W (hW : Below wr.heap.size wr W) => (hW.cell (p := ⟨b6, o6 + k * 2 + 1, none⟩) hbl).trans (hc 1 _ rfl)
      have d0 := Snc.all fun W (hW : Below wr.heap.size wr W) => (hW.cell (p := ⟨b6, o6 + K * 2, none⟩) hbl).trans (hc' 0 _ rfl)
      have d1 := Snc.all fun W (hW : Below wr.heap.size wr W) => (hW.cell (p := ⟨b6, o6 + K * 2 + 1, none⟩) hbl).trans (hc' 1 _ rfl)
      have f0 := Snc.all fun W (hW : Below wr.heap.size wr W) => e0.out W (below_next hb hW)
      have f1 := Snc.all fun W (hW : Below wr.heap.size wr W) => e1.out W (below_next hb hW)
      have R0 := bt_v (w0 := wr) m1
      have hlt' : (k : Int) < (n : Int) := by omega
      have hlt2 : (K : Int) < (n : Int) := by omega
      have j0 : (0 : Int) ≤ (k : Int) := by omega
      have j1 : (0 : Int) ≤ (K : Int) := by omega
      have HBX : ∃ V, beats (x1, x2) (a, b) = V := ⟨_, rfl⟩
      obtain ⟨V, hV⟩ := HBX
      have R1 := bt_v (w0 := wr) hV
      have hV2 : V = true → beats (a, b) (x1, x2) = false := fun e => beats_asym (by rw [hV, e])
      clear hb hc hc' hx hy gx gy m1 ez ey hbl hbl' hV
      have key : (¬ k < K) ∨ (k < K ∧ (x1 == y1) = false) ∨ (k < K ∧ x1 = y1 ∧ (x2 == y2) = false) := by
        by_cases h1 : k < K
        · right
          by_cases h2 : x1 = y1
          · right
            subst h2
            refine ⟨h1, rfl, ?_⟩
            have := m2 h1
            simpa using fun e => this (by rw [e])
          · left; exact ⟨h1, by simpa using h2⟩
        · exact .inl h1
      clear m2
      rcases key with hkK | ⟨hkK, h1⟩ | ⟨hkK, rfl, h1⟩
      · have t1 : ¬ (k : Int) < (K : Int) := by omega
        have t2 : decide (k < K) = false := by simp; omega
        have t3 : decide ((k : Int) < (K : Int)) = false := by simp; omega
        go_upto_region 12 with fail
        cases V with
        | false =>
          clear hV2
          refine wp_region_since (by kernel_rfl) (by kernel_rfl) ?_
          repeat (go_big_quiet_step ((go_at_call 6; (first | with_reducible exact R0 _ | with_reducible exact R1 _ | with_reducible exact R2 _))))
          refine wpQuiet_nil ?_
          rintro w5 ⟨P5, rfl⟩
          have hB5 := below_next HB.out P5.b
          clear c0 c1 d0 d1 f0 f1
          go_wp2
          go_roundw
          case rel => exact ⟨k + 1, by omega, by go_num, hB5⟩
          case measure => simp [intOf]; omega
        | true =>
          have R2 := bt_v (w0 := wr) (hV2 rfl)
          clear hV2
          refine wp_region_since (by kernel_rfl) (by kernel_rfl) ?_
          repeat (go_big_quiet_step ((go_at_call 6; (first | with_reducible exact R0 _ | with_reducible exact R1 _ | with_reducible exact R2 _))))
          refine wpQuiet_nil ?_
          rintro w5 ⟨P5, rfl⟩
          have hB5 := below_next HB.out P5.b
          clear c0 c1 d0 d1 f0 f1
          go_wp2
          go_roundw
          case rel => exact ⟨k + 1, by omega, by go_num, hB5⟩
          case measure => simp [intOf]; omega
      · have t1 : (k : Int) < (K : Int) := by omega
        have t2 : decide (k < K) = true := by simp; omega
        have t3 : decide ((k : Int) < (K : Int)) = true := by simp; omega
        go_upto_region 12 with fail
        cases V with
        | false =>
          clear hV2
          refine wp_region_since (by kernel_rfl) (by kernel_rfl) ?_
          repeat (go_big_quiet_step ((go_at_call 6; (first | with_reducible exact R0 _ | with_reducible exact R1 _ | with_reducible exact R2 _))))
          refine wpQuiet_nil ?_
          rintro w5 ⟨P5, rfl⟩
          have hB5 := below_next HB.out P5.b
          clear c0 c1 d0 d1 f0 f1
          go_wp2
          go_roundw
          case rel => exact ⟨k + 1, by omega, by go_num, hB5⟩
          case measure => simp [intOf]; omega
        | true =>
          have R2 := bt_v (w0 := wr) (hV2 rfl)
          clear hV2
          refine wp_region_since (by kernel_rfl) (by kernel_rfl) ?_
          repeat (go_big_quiet_step ((go_at_call 6; (first | with_reducible exact R0 _ | with_reducible exact R1 _ | with_reducible exact R2 _))))
          refine wpQuiet_nil ?_
          rintro w5 ⟨P5, rfl⟩
          have hB5 := below_next HB.out P5.b
          clear c0 c1 d0 d1 f0 f1
          go_wp2
          go_roundw
          case rel => exact ⟨k + 1, by omega, by go_num, hB5⟩
          case measure => simp [intOf]; omega
      · have t1 : (k : Int) < (K : Int) := by omega
        have t2 : decide (k < K) = true := by simp; omega
        have t3 : decide ((k : Int) < (K : Int)) = true := by simp; omega
        go_upto_region 12 with fail
        cases V with
        | false =>
          clear hV2
          refine wp_region_since (by kernel_rfl) (by kernel_rfl) ?_
          repeat (go_big_quiet_step ((go_at_call 6; (first | with_reducible exact R0 _ | with_reducible exact R1 _ | with_reducible exact R2 _))))
          refine wpQuiet_nil ?_
          rintro w5 ⟨P5, rfl⟩
          have hB5 := below_next HB.out P5.b
          clear c0 c1 d0 d1 f0 f1
          go_wp2
          go_roundw
          case rel => exact ⟨k + 1, by omega, by go_num, hB5⟩
          case measure => simp [intOf]; omega
        | true =>
          have R2 := bt_v (w0 := wr) (hV2 rfl)
          clear hV2
          refine wp_region_since (by kernel_rfl) (by kernel_rfl) ?_
          repeat (go_big_quiet_step ((go_at_call 6; (first | with_reducible exact R0 _ | with_reducible exact R1 _ | with_reducible exact R2 _))))
          refine wpQuiet_nil ?_
          rintro w5 ⟨P5, rfl⟩
          have hB5 := below_next HB.out P5.b
          clear c0 c1 d0 d1 f0 f1
          go_wp2
          go_roundw
          case rel => exact ⟨k + 1, by omega, by go_num, hB5⟩
          case measure => simp [intOf]; omega
    · obtain rfl : k = n := by omega
      have hlt' : decide ((k : Int) < (k : Int)) = false := by simp
      go_upto_region 14 with fail
      have ea : ∀ W, Below wr.heap.size wr W → W.cell? ⟨w.heap.size, 0, none⟩ = some (.int .i64 a) := fun W hW => e0.out W (below_next hb hW)
      have eb : ∀ W, Below wr.heap.size wr W → W.cell? ⟨w.heap.size, 1, none⟩ = some (.int .u32 b) := fun W hW => e1.out W (below_next hb hW)
      have HAp : Hid (∀ W, Below wr.heap.size wr W → RI CBd 2 W (some ⟨b6, o6, none⟩) k xs) := Lib.hid fun W hW => HR0.out W (below_next HB.out hW)
      have hk1m : k ≤ 1048576 := by omega
      have hk0p : 0 < k := by omega
      obtain ⟨b7, o7, ⟨y1, y2⟩, ez, hbl6, hy6, hc6⟩ := (HAp.out wr (Below.refl _ _)).at_ HK.out
      obtain ⟨rfl, rfl⟩ : b6 = b7 ∧ o6 = o7 := by cases ez; exact ⟨rfl, rfl⟩
      have gy : xs.getD K (0, 0) = (y1, y2) := by rw [List.getD_eq_getElem?_getD, hy6]; rfl
      have HSM : ∃ (M : Nat) (V : Bool), bestP (xs ++ [(a, b)]) (k + 1) = M ∧ beats (a, b) (y1, y2) = V ∧ ((V = true ∧ M = k) ∨ (V = false ∧ M = K)) := by
        refine ⟨_, _, rfl, rfl, ?_⟩
        have := HS.out
        rw [gy] at this
        rw [this]
        cases beats (a, b) (y1, y2) with
        | true => exact .inl ⟨rfl, if_pos rfl⟩
        | false => exact .inr ⟨rfl, if_neg (by decide)⟩
      obtain ⟨M, V, hM, hV, hMV⟩ := HSM
      have HMV := Lib.hid hMV
      have HV := Lib.hid hV
      have D0 := Lib.hid fun W (hW : Below wr.heap.size wr W) => (hW.cell (p := ⟨b6, o6 + K * 2, none⟩) hbl6).trans (hc6 0 _ rfl)
      have D1 := Lib.hid fun W (hW : Below wr.heap.size wr W) => (hW.cell (p := ⟨b6, o6 + K * 2 + 1, none⟩) hbl6).trans (hc6 1 _ rfl)
      have HE0 := e0
      have HE1 := e1
      clear hb e0 e1 hMV hV gy hy6 hc6 hbl6 ez
      go_region_held3 (fun w' => Below wr.heap.size wr w')
        (first | assumption | exact (Below.refl _ _).drew | exact ((Below.refl _ _).alloc (Nat.le_refl _) _).drew | exact (((Below.refl _ _).alloc (Nat.le_refl _) _).alloc (by simp) _).drew | exact hb5 | exact hb4 | exact hb4.alloc hb4.size _)
        (first
        | (refine step_bids (by rfl) _ _ (by rfl) wr.heap.size _ 0 [] (by rfl) (by first | exact World.ownsRow_lit wr #[] 0 (Nat.le_refl _) (by decide) rfl | exact (World.ownsRow_lit wr #[] 0 (Nat.le_refl _) (by decide) rfl).alloc _ | exact own_new2 wr _ _) _ k c xs (by rfl) (HAp.out _ (by assumption)) hk0p (by decide) hk1m (by first | exact Nat.le_refl _ | (simp; done) | (simp; omega)) ?_
           intro v4 w4 hown4 hb4x hg4; have hb4 := Below.trans (by assumption) hb4x; (first | have hli := Blk.grown (g := wr.heap.size + 1) (t := 25) (cs := #[.int .i64 a, .int .u32 b]) (Blk.drew (blk_new2 wr _ _ _)) hg4 (show some (wr.heap.size + 1) ≠ some wr.heap.size by simp) | have hli := Blk.grown (g := wr.heap.size) (t := 25) (cs := #[.int .i64 a, .int .u32 b]) (Blk.drew ((Blk.new wr _ _).alloc _)) hg4 (show some wr.heap.size ≠ some (wr.heap.size + 1) by simp) | skip); clear hg4)
        | (refine step_bids (by rfl) _ _ (by rfl) wr.heap.size v4 (0 + k) ([] ++ xs) (by rfl) (by first | exact hown4 | exact hown4.alloc _) _ 1 1 [(a, b)] (by rfl) (by first | exact RI.of_blk (fun _ => rfl) (Blk.new _ _ #[.int .i64 a, .int .u32 b]) rfl rfl | exact RI.of_blk (fun _ => rfl) hli rfl rfl) (by decide) (by omega) (by decide) (by first | exact hb4.size | exact (hb4.alloc hb4.size _).size) ?_
           intro v5 w5 hown5 hb5x hg5; clear hg5; have hb5 := Below.trans (by assumption) hb5x; obtain ⟨A5, c5, rfl, hc5, hr5⟩ := RI.of_own (enc := CBd) (xs := [] ++ xs ++ [(a, b)]) (fun _ => rfl) (by simpa [hlen, Nat.add_comm] using hown5))
        | (go_at_call 7; refine (best_any A5 (k + 1) c5 (xs ++ [(a, b)]) w5 (by simpa [hlen] using hr5) (by omega)).mono ?_; rintro e w6 ⟨rfl, hb6x⟩; rw [hM]; have HB6 := Lib.hid (below_next hb5 hb6x)))
      all_goals
        clear hr5 hown5 hown4 hb4x hb5x hb4 hb5 hb6x ea eb
        have hB6 := below_next HB.out HB6.out
        have d0 := Snc.all fun W (hW : Below w6.heap.size w6 W) => D0.out W (below_next HB6.out hW)
        have d1 := Snc.all fun W (hW : Below w6.heap.size w6 W) => D1.out W (below_next HB6.out hW)
        have f0 := Snc.all fun W (hW : Below w6.heap.size w6 W) => HE0.out W (below_next hB6 hW)
        have f1 := Snc.all fun W (hW : Below w6.heap.size w6 W) => HE1.out W (below_next hB6 hW)
        have R0 := bt_v (w0 := w6) HV.out
        have R1 := bt_v (w0 := w6) (beats_irr (a, b))
        have R3 : ∀ p : Snc w6, Calls Try.prog 8 #[.int .i64 1, .int .i64 2] p.W fun e w' => e = .returned (.int .i64 1) ∧ ∃ Q : Snc w6, w' = Q.W := fun p => Calls.since_same (number_any 1 2 p.W (by decide) (by decide))
        have hlt2 : (K : Int) < (k : Int) := by omega
        have j1 : (0 : Int) ≤ (K : Int) := by omega
        go_upto_region 15 with fail
        rcases HMV.out with ⟨rfl, rfl⟩ | ⟨rfl, rfl⟩
        · have q1 : ((M : Int) == (M : Int)) = true := by simp
          refine wp_region_since (by kernel_rfl) (by kernel_rfl) ?_
          repeat (go_big_quiet_step (first | (go_at_call 6; (first | with_reducible exact R0 _ | with_reducible exact R1 _)) | (go_at_call 8; exact R3 _)))
          refine wpQuiet_nil ?_
          rintro w7 ⟨P7, rfl⟩
          have hB7 := below_next hB6 P7.b
          clear d0 d1 f0 f1 R0 R1 R3
          go_wp2
          go_ret
          exact ⟨rfl, below_next HB0.out hB7⟩
        · have q1 : ((M : Int) == (k : Int)) = false := by simp; omega
          have q2 : (M == k) = false := by simp; omega
          refine wp_region_since (by kernel_rfl) (by kernel_rfl) ?_
          repeat (go_big_quiet_step (first | (go_at_call 6; (first | with_reducible exact R0 _ | with_reducible exact R1 _)) | (go_at_call 8; exact R3 _)))
          refine wpQuiet_nil ?_
          rintro w7 ⟨P7, rfl⟩
          have hB7 := below_next hB6 P7.b
          clear d0 d1 f0 f1 R0 R1 R3
          go_wp2
          go_ret
          exact ⟨rfl, below_next HB0.out hB7⟩
end Go.Proofs.Ytcbjhaonlfkdkaa

