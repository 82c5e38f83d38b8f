/- The statement on pairs of bytes in another order, walked. -/
import Derived.Test.YtfdckfbnfccmaaaLaw2
namespace Go.Proofs.Ytfdckfbnfccmaaa
open Go.RowKit Sm
theorem BR.upto {w : World} {A : Option Addr} {n : Nat} {xs : List Int} (h : BR w A n xs) {m : Nat} (hm : m ≤ n) : BR w A m (xs.take m) :=
  ⟨by have := h.len; simp; omega, h.isB.take m, fun h0 => by
    obtain ⟨b, o, e, hlt, hc⟩ := h.2.2 (by omega)
    exact ⟨b, o, e, hlt, fun i hi => by rw [hc i (by omega)]; simp [List.getD, hi]⟩⟩
theorem BR.from_ {w : World} {g : Nat} {n cap : Nat} {xs : List Int} (h : BR w (some ⟨g, 0, none⟩) n xs) {k : Nat} (hk : k ≤ n) (hc : n ≤ cap) : BR w (if cap = k then some ⟨g, 0, none⟩ else some ⟨g, k, none⟩) (n - k) (xs.drop k) :=
  ⟨by have := h.len; simp; omega, h.isB.drop k, fun h0 => by
    obtain ⟨b, o, e, hlt, hc⟩ := h.2.2 (by omega)
    cases e
    refine ⟨g, k, by rw [if_neg (by omega)], hlt, fun i hi => ?_⟩
    have := hc (k + i) (by omega)
    rw [Nat.zero_add] at this
    rw [this]; simp [List.getD]⟩
/-- append as a step of a region that draws -/
theorem step_app {P : Program} (w : World) {ops : Array Oper} {o : Oper} {a : Act} {K : Act → World → Prop} {Q : Exit → Act → World → Prop} {E : Prop} (hgd : o.guard = none) (s x : Operand) (t : TypeId)
    (ho : o.op = .call { callee := .builtin .append, args := #[s, x], argTypes := #[t, t] })
    (base : Nat) (e : TypeId) (i : TypeInfo) (z : Value) (size bytes : Nat) (ht : P.underlying t = some (.slice e)) (hi : P.info? e = some i) (hz : i.zero = some z)
    (hsize : i.size = size) (hby : i.bytes = bytes) (hzs : z.cells.size = size) (hsz : 0 < size)
    (v : Value) (n : Nat) (xs : List Value) (hs : a.eval s = v) (hown : w.ownsRow base e size v n xs)
    (ad : Addr) (m c : Nat) (news : List Value) (hx : a.eval x = .slice (some ad) m c) (hl : news.length = m * size) (hnews : ∀ j u, news[j]? = some u → w.cell? (ad.add j) = some u) (h1 : ∀ u ∈ news, u.oneCell' = true)
    (h63 : n + m ≤ maxLen) (hbytes : (n + m) * bytes ≤ 140737488355328) (hbase : base ≤ w.heap.size)
    (h : ∀ v' w', w'.ownsRow base e size v' (n + m) (xs ++ news) → w.grownBy w' v.ownBlock → K (a.put o.dst v') w') :
    if Region.wanted o (yielded ops a.tmps) = true then Oper.wp P o a w K Q else E := by
  rw [if_pos (by simp [Region.wanted, hgd])]
  obtain ⟨v', w', hr, h2, h3, _, _⟩ := run_append_own_at (P := P) w base t o.type e i z size bytes ht hi hz hsize hby hzs hsz v n xs hown ad m c news hl hnews h1 h63 hbytes hbase
  have hk := h v' w' h2 h3
  simp only [Oper.wp, execOp, ho, resolve, invoke, builtin, Sem.run_bind, Sem.run_pure, Result.andThen_ok, List.map_toArray, List.map_cons, List.map_nil, hs, hx, hr]
  exact hk
/-- append behind a guard that holds -/
theorem wpList_app_g {P : Program} (w : World) {ops : Array Oper} {rest : List Oper} {o : Oper} {a : Act} {Q : Exit → Act → World → Prop} (hgd : Region.wanted o (yielded ops a.tmps) = true) (s x : Operand) (t : TypeId)
    (ho : o.op = .call { callee := .builtin .append, args := #[s, x], argTypes := #[t, t] })
    (base : Nat) (e : TypeId) (i : TypeInfo) (z : Value) (size bytes : Nat) (ht : P.underlying t = some (.slice e)) (hi : P.info? e = some i) (hz : i.zero = some z)
    (hsize : i.size = size) (hby : i.bytes = bytes) (hzs : z.cells.size = size) (hsz : 0 < size)
    (v : Value) (n : Nat) (xs : List Value) (hs : a.eval s = v) (hown : w.ownsRow base e size v n xs)
    (ad : Addr) (m c : Nat) (news : List Value) (hx : a.eval x = .slice (some ad) m c) (hl : news.length = m * size) (hnews : ∀ j u, news[j]? = some u → w.cell? (ad.add j) = some u) (h1 : ∀ u ∈ news, u.oneCell' = true)
    (h63 : n + m ≤ maxLen) (hbytes : (n + m) * bytes ≤ 140737488355328) (hbase : base ≤ w.heap.size)
    (h : ∀ v' w', w'.ownsRow base e size v' (n + m) (xs ++ news) → w.grownBy w' v.ownBlock → wpList P ops Q rest (a.put o.dst v') w') : wpList P ops Q (o :: rest) a w := by
  unfold wpList
  rw [if_pos hgd]
  exact .inl (wp_append_own w s x t ho base e i z size bytes ht hi hz hsize hby hzs hsz v n xs hs hown ad m c news hx hl hnews h1 h63 hbytes hbase fun v' w' h2 h3 _ => h v' w' h2 h3)
theorem own_base {w : World} {base : Nat} {e : TypeId} {g n c : Nat} {ys : List Value} (h : w.ownsRow base e 1 (.slice (some ⟨g, 0, none⟩) n c) n ys) : base ≤ g := by
  exact (h.lt g rfl).1
theorem news_of {w : World} {g m : Nat} {xs : List Int} (h : BR w (some ⟨g, 0, none⟩) m xs) : ∀ j u, (B8 xs)[j]? = some u → w.cell? ((⟨g, 0, none⟩ : Addr).add j) = some u := fun j u hj => by
  have hjm : j < m := by
    have := (List.getElem?_eq_some_iff.1 hj).1
    rw [B8_len, h.len] at this
    exact this
  obtain ⟨b, o, e, _, hc⟩ := h.2.2 (by omega)
  cases e
  rw [WideShapes.add_plain, hc j hjm, ← hj, B8_at (by rw [h.len]; exact hjm)]
set_option maxRecDepth 100000 in
set_option maxHeartbeats 1000000 in
theorem moves_any (A : Option Addr) (n c : Nat) (xs : List Int) (a : Int) (w : World) (h : BR w A n xs) (hnc : n ≤ c) :
    Calls Try.prog 5 #[.slice A n c, .int .i64 a] w fun e w' => e = .returned (.bool true) ∧ Below w.heap.size w w' := by
  rcases Nat.lt_or_ge 200 n with hn | hn
  · have hd : decide ((200 : Int) < (n : Int)) = true := by simp; omega
    go_enter Try.func5, Try.ntmps5
    go_wp2_with fail
    refine (first_any w).mono ?_
    rintro e w1 ⟨rfl, hb⟩
    go_wp2
    go_ret
    exact ⟨rfl, hb⟩
  have hd : decide ((200 : Int) < (n : Int)) = false := by simp; omega
  rcases Nat.lt_or_ge n 2 with hn2 | hn2
  · have hd2 : decide ((n : Int) < 2) = true := by simp; omega
    go_enter Try.func5, Try.ntmps5
    go_wp2_with fail
    refine (first_any w).mono ?_
    rintro e w1 ⟨rfl, hb⟩
    go_wp2
    go_ret
    exact ⟨rfl, hb⟩
  have hd2 : decide ((n : Int) < 2) = false := by simp; omega
  obtain ⟨m, hm, hmn, hm2, hmp⟩ : ∃ m : Nat, (n : Int) / 2 * 2 = m ∧ m ≤ n ∧ m % 2 = 0 ∧ 2 ≤ m := ⟨n / 2 * 2, by omega, by omega, by omega, by omega⟩
  have hmc : m ≤ c := by omega
  obtain ⟨p, hp, hpn⟩ : ∃ p : Nat, a % ((m : Int) / 2) = p ∧ 2 * p + 2 ≤ m := by
    have e0 := Int.emod_nonneg a (show (m : Int) / 2 ≠ 0 by omega)
    have e1 := Int.emod_lt_of_pos a (show 0 < (m : Int) / 2 by omega)
    exact ⟨(a % ((m : Int) / 2)).toNat, by omega, by omega⟩
  have N1 := fun W => number_any a ((m : Int) / 2) W (by omega) (by omega)
  rw [hp] at N1
  clear hp
  go_enter Try.func5, Try.ntmps5
  go_wp2_with fail
  refine (first_any w).mono ?_
  rintro e w1 ⟨rfl, hb1⟩
  have h1 := (h.next hb1).upto hmn
  have hX := h1.isB
  have hXl := h1.len
  generalize xs.take m = X at *
  clear h
  go_wp2_with fail
  refine (rbytes_any A m c X w1 h1 (by omega)).mono ?_
  rintro e w2 ⟨g, c2, rfl, hown, hb2⟩
  have hB2 := below_next hb1 hb2
  obtain ⟨_, _, he, hnc2, hr, hf⟩ := own_form hown hX
  simp only [Value.slice.injEq, true_and] at he
  obtain ⟨rfl, rfl⟩ := he
  clear h1 hown hf hb1 hb2
  go_wp2_with fail
  refine (N1 w2).mono ?_
  rintro e w3 ⟨rfl, rfl⟩
  obtain ⟨k, hk, hkm, hk2, hkc, hne⟩ : ∃ k : Nat, 2 * (p : Int) = k ∧ k ≤ m ∧ k % 2 = 0 ∧ k ≤ c2 ∧ ¬ c2 = k := ⟨2 * p, by omega, by omega, by omega, by omega, by omega⟩
  go_wp2_with fail
  have j0 : (0 : Int) ≤ (k : Int) := by omega
  have i1 : (k : Int) ≤ (m : Int) := by omega
  have i2 : (k : Int) ≤ (c2 : Int) := by omega
  obtain ⟨i0, hi, hz0, hz1, hz2⟩ := info_parts info_u8
  have HX := Lib.hid hr
  have HBy : ∀ W, Below w2.heap.size w2 W → Calls Try.prog 16 #[.slice (some ⟨g, k, none⟩) (m - k) (c2 - k)] W fun e w' => ∃ g3 c3, e = .returned (.slice (some ⟨g3, 0, none⟩) (m - k) c3) ∧ w'.ownsRow w2.heap.size 5 1 (.slice (some ⟨g3, 0, none⟩) (m - k) c3) (m - k) (B8 (X.drop k)) ∧ Below w2.heap.size w2 w' := fun W hW => by
    have hk := (HX.out.next hW).from_ hkm hnc2
    rw [if_neg hne] at hk
    refine (rbytes_any _ (m - k) (c2 - k) _ W hk (by omega)).mono ?_
    rintro e w' ⟨g3, c3, h1, h2, h3⟩
    exact ⟨g3, c3, h1, own_up h2 hW.size, below_next hW h3⟩
  have HAp : ∀ W, Below w2.heap.size w2 W → ∀ j u, (B8 (X.take k))[j]? = some u → W.cell? ((⟨g, 0, none⟩ : Addr).add j) = some u := fun W hW => news_of ((HX.out.next hW).upto hkm)
  have hTl : (B8 (X.take k)).length = k * 1 := by rw [B8_len, List.length_take, hXl]; omega
  clear hr
  go_region_held3 (fun w' => Below w2.heap.size w2 w')
    (first | exact (Below.refl _ _).drew | assumption | exact hb4)
    (first
    | (go_at_call 16; refine (HBy _ (by assumption)).mono ?_; rintro e w3 ⟨g3, c3, rfl, hown3, hb3⟩)
    | (refine step_app _ (by rfl) _ _ _ (by rfl) w2.heap.size 5 i0 _ 1 1 Try.underlying22 hi hz0 hz1 hz2 rfl (by omega) _ (m - k) _ (by rfl) hown3 ⟨g, 0, none⟩ k c2 _ (by rfl) hTl (HAp _ hb3) (B8_one _) (by unfold maxLen; omega) (by omega) hb3.size ?_; intro v4 w4 hown4 hgrow4; have hb4 := hb3.grown hgrow4 hb3.size (by intro j hj; cases hj; exact own_base hown3)))
  rw [← B8_app, Nat.sub_add_cancel hkm] at hown4
  have hYb : IsB (X.drop k ++ X.take k) := (hX.drop k).append (hX.take k)
  have hYt : tot (X.drop k ++ X.take k) = tot X := tot_rot X k hk2 (by omega) (by omega)
  have hYs : sum (X.drop k ++ X.take k) = sum X := by unfold sum; rw [hYt]
  generalize X.drop k ++ X.take k = Y at *
  obtain ⟨A4, c4, rfl, _, hY4, _⟩ := own_form hown4 hYb
  have hX4 := HX.out.next hb4
  have hB4 := below_next hB2 hb4
  clear HX HBy HAp hown4 hgrow4 hown3 hb3 hb4
  go_wp2_with fail
  refine (rbytes_any _ m c2 X _ hX4 (by omega)).mono ?_
  rintro e w5 ⟨g5, c5, rfl, hown5, hb5⟩
  go_wp2_with (at_builtin; refine wpList_append_own _ rfl _ _ 22 rfl w4.heap.size 5 i0 (.int .u8 0) 1 1 Try.underlying22 hi hz0 hz1 hz2 rfl (by decide) _ m _ rfl (hown5.alloc _) ⟨w5.heap.size, 0, none⟩ 2 2 (B8 [0, 0]) rfl rfl (World.news_of_block (cs := #[.int .u8 0, .int .u8 0]) (t := 5) (fr := (0, 0)) (heap_alloc_new w5 _)) (B8_one _) (by unfold maxLen; omega) (by omega) (by have := hb5.size; simp; omega) ?_; intro v6 w6 hown6 hgrow6 hnil6)
  have hb6 : Below w4.heap.size w4 w6 := (hb5.alloc hb5.size _).grown hgrow6 (by have := hb5.size; simp; omega) (by intro j hj; cases hj; exact own_base hown5)
  have hX6 := hX4.next hb6
  have hY6 := hY4.next hb6
  have hB6 := below_next hB4 hb6
  rw [← B8_app] at hown6
  have hZt : tot (X ++ [0, 0]) = tot X := tot_00 X (by omega)
  have hZs : sum (X ++ [0, 0]) = sum X := by unfold sum; rw [hZt]
  obtain ⟨A6, c6, rfl, _, hZ6, _⟩ := own_form hown6 (hX.append (by intro x hx; simp at hx; omega))
  generalize X ++ [0, 0] = Z at *
  clear hb5 hb6 hown5 hown6 hgrow6 hX4 hY4 hB4 hnil6
  refine (of_any _ m c2 X w6 hX6 (by omega)).mono ?_
  rintro e w7 ⟨rfl, hb7⟩
  have hB7 := below_next hB6 hb7
  have hX7 := hX6.next hb7
  have hY7 := hY6.next hb7
  have hZ7 := hZ6.next hb7
  clear hX6 hY6 hZ6 hb7 hB6
  go_wp2_with fail
  refine (of_any _ m c4 Y w7 hY7 (by omega)).mono ?_
  rintro e w8 ⟨rfl, hb8⟩
  rw [hYs]
  have hB8 := below_next hB7 hb8
  have hX8 := hX7.next hb8
  have hZ8 := hZ7.next hb8
  clear hX7 hY7 hZ7 hb8 hB7
  go_wp2_with fail
  refine (of_any _ m c2 X w8 hX8 (by omega)).mono ?_
  rintro e w9 ⟨rfl, hb9⟩
  have hB9 := below_next hB8 hb9
  have hZ9 := hZ8.next hb9
  clear hX8 hZ8 hb9 hB8
  go_wp2_with fail
  refine (of_any _ (m + 2) c6 Z w9 hZ9 (by omega)).mono ?_
  rintro e w10 ⟨rfl, hb10⟩
  rw [hZs]
  go_wp2
  go_ret
  exact ⟨ret_bool (by simp), below_next hB9 hb10⟩
end Go.Proofs.Ytfdckfbnfccmaaa
