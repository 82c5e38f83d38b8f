/- Contract of the document's own header bytes, over the seat's program. -/
import Derived.Test.YtgjpclmkjoghiaaDoorIpR
namespace Go.Proofs.YtgjpclmkjoghiaaDoor
open Go.RowKit Sm
theorem BR_lit {w : World} {t : TypeId} (xs : List Int) (hb : IsB xs) (cs : Array Value) (hcs : cs.toList = B8 xs) (H n : Nat) (hH : H = w.heap.size) (hn : xs.length = n) : BR (w.alloc (.cells cs t)) (some ⟨H, 0, none⟩) n xs := by
  subst hH
  refine ⟨hn, hb, fun h0 => ⟨w.heap.size, 0, rfl, by simp, fun i hi => ?_⟩⟩
  rw [Nat.zero_add, (Blk.new w t cs).cell i, ← Array.getElem?_toList, hcs, B8_at (by omega)]
theorem own_br {w : World} {base : Nat} {e : TypeId} {A : Option Addr} {n c : Nat} {xs : List Int} (h : w.ownsRow base e 1 (.slice A n c) n (B8 xs)) (hb : IsB xs) : BR w A n xs ∧ n ≤ c := by
  obtain ⟨_, _, he, hnc, hr, _⟩ := own_form h hb
  simp only [Value.slice.injEq, true_and] at he
  obtain ⟨rfl, rfl⟩ := he
  exact ⟨hr, hnc⟩
theorem own_ptr {w : World} {base : Nat} {e : TypeId} {A : Option Addr} {n c : Nat} {xs : List Int} (h : w.ownsRow base e 1 (.slice A n c) n (B8 xs)) (hb : IsB xs) (hn : 0 < n) : ∃ g, A = some ⟨g, 0, none⟩ ∧ base ≤ g := by
  obtain ⟨_, _, he, _, _, hf⟩ := own_form h hb
  simp only [Value.slice.injEq, true_and] at he
  obtain ⟨rfl, rfl⟩ := he
  obtain ⟨g, e, hb, _⟩ := hf hn
  exact ⟨g, e, hb⟩
theorem own_from {B : Nat} {w w1 w2 : World} {e : TypeId} {v : Value} {n : Nat} {ys : List Value} (h : Below B w w1) (hw : B = w.heap.size) (ho : w2.ownsRow w1.heap.size e 1 v n ys) : w2.ownsRow B e 1 v n ys := own_up ho (by rw [hw]; exact h.size)
theorem isB4 {v : Int} (h : isA v) : IsB [v / 16777216, v / 65536 % 256, v / 256 % 256, v % 256] := by
  obtain ⟨h0, h1⟩ := h
  intro x hx; simp only [List.mem_cons, List.not_mem_nil, or_false] at hx; omega
theorem isB2 {a b : Int} (ha : 0 ≤ a ∧ a ≤ 255) (hb : 0 ≤ b ∧ b ≤ 255) : IsB [a, b] := by intro x hx; simp at hx; omega
def rhz : Value := .agg #[.int .i64 0, .int .i64 0, .int .i64 0, .int .i64 0, .int .u32 0, .int .u32 0]
set_option maxHeartbeats 1000000 in
theorem rbytes_no (l i t p f o : Int) (w : World) (h : hfit l i t p = false) :
    Calls Tryd.prog 9 #[hv l i t p f o] w fun e w' => e = .returned (.tuple #[.slice none 0 0, .int .i64 103]) ∧ Below w.heap.size w w' := by
  have hc : decide (l < 20) = true ∨ decide (l < 20) = false ∧ (decide (65535 < l) = true ∨ decide (65535 < l) = false ∧ (decide (i < 0) = true ∨ decide (i < 0) = false ∧ (decide (65535 < i) = true ∨ decide (65535 < i) = false ∧ (decide (t < 0) = true ∨ decide (t < 0) = false ∧ (decide (255 < t) = true ∨ decide (255 < t) = false ∧ (decide (p < 0) = true ∨ decide (p < 0) = false ∧ decide (255 < p) = true)))))) := by
    simp only [hfit, decide_eq_false_iff_not, decide_eq_true_eq] at h ⊢
    omega
  clear h
  unfold hv
  rcases hc with h1 | ⟨h1, h2 | ⟨h2, h3 | ⟨h3, h4 | ⟨h4, h5 | ⟨h5, h6 | ⟨h6, h7 | ⟨h7, h8⟩⟩⟩⟩⟩⟩⟩
  all_goals
    go_enter Tryd.func9, Tryd.ntmps9
    go_wp2
    go_ret2
    exact ⟨rfl, (Below.refl _ _).alloc (Nat.le_refl _) _⟩
set_option maxHeartbeats 1000000 in
theorem rbytes_yes (l i t p f o : Int) (w : World) (h : hfit l i t p = true) (hf : isA f) (ho : isA o) :
    Calls Tryd.prog 9 #[hv l i t p f o] w fun e w' => ∃ A c, e = .returned (.tuple #[.slice A 20 c, .int .i64 0]) ∧ w'.ownsRow w.heap.size 5 1 (.slice A 20 c) 20 (B8 (hbs l i t p f o)) ∧ Below w.heap.size w w' := by
  have HH := Lib.hid h
  simp only [hfit, decide_eq_true_eq] at h
  obtain ⟨h0, h1, h2, h3, h4, h5, h6, h7⟩ := h
  have d0 : decide (l < 20) = false := by simp; omega
  have d1 : decide (65535 < l) = false := by simp; omega
  have d2 : decide (i < 0) = false := by simp; omega
  have d3 : decide (65535 < i) = false := by simp; omega
  have d4 : decide (t < 0) = false := by simp; omega
  have d5 : decide (255 < t) = false := by simp; omega
  have d6 : decide (p < 0) = false := by simp; omega
  have d7 : decide (255 < p) = false := by simp; omega
  have Hf := Lib.hid hf
  have Ho := Lib.hid ho
  clear hf ho
  obtain ⟨i0, hi, hz0, hz1, hz2⟩ := info_parts info_u8
  unfold hv
  have hk := Blk.new w 34 #[.int .i64 l, .int .i64 i, .int .i64 t, .int .i64 p, .int .u32 f, .int .u32 o]
  have hB0 : Below w.heap.size w (w.alloc (.cells #[.int .i64 l, .int .i64 i, .int .i64 t, .int .i64 p, .int .u32 f, .int .u32 o] 34)) := (Below.refl _ _).alloc (Nat.le_refl _) _
  go_enter Tryd.func9, Tryd.ntmps9
  go_wp2_with fail
  generalize hW0 : w.alloc (.cells #[.int .i64 l, .int .i64 i, .int .i64 t, .int .i64 p, .int .u32 f, .int .u32 o] 34) = W0 at *
  have c0 := fun W hW => keepc (w' := W) (w := W0) (hk.cell 0) hW
  have c1 := fun W hW => keepc (w' := W) (w := W0) (hk.cell 1) hW
  go_region_held3 (fun w' => Below W0.heap.size W0 w')
    (first | with_reducible assumption | exact (Below.refl _ _).drew | exact ((Below.refl _ _).drew).alloc (by simp) _)
    (first
    | (go_at_call 24; refine (two_any _ _ _ _ _ _ (by first | with_reducible assumption | exact BR_lit [69, 0] (by intro x hx; simp at hx; omega) _ (by rfl) _ 2 (by simp) (by rfl)) (by omega) (by omega) (by omega)).mono ?_; rintro e w3 ⟨A3, c3, rfl, hown3, hb3⟩; have hbr3 := (own_br hown3 (by intro x hx; simp at hx; omega)).1; have ho3 := own_from (B := W0.heap.size) (w := W0) (by with_reducible assumption) rfl hown3; have hb4 := below_next (by with_reducible assumption) hb3))
  clear c0 c1
  have hX : IsB ([69, 0] ++ [l / 256, l % 256] ++ [i / 256, i % 256]) := hbr3.isB
  obtain ⟨g3, rfl, hg3⟩ := own_ptr ho3 hX (by omega)
  have k2 : w3.cell? ⟨w.heap.size, 2, none⟩ = some (.int .i64 t) := keepc (hk.cell 2) hb4
  have k3 : w3.cell? ⟨w.heap.size, 3, none⟩ = some (.int .i64 p) := keepc (hk.cell 3) hb4
  have HO3 := Lib.hid ho3
  have HB4 := Lib.hid hb4
  clear ho3 hb4 hbr3 hown3 hb3 
  go_wp2_with (at_builtin; refine wpList_append_own _ rfl _ _ 26 rfl W0.heap.size 5 i0 (.int .u8 0) 1 1 Tryd.underlying26 hi hz0 hz1 hz2 rfl (by decide) _ 6 _ rfl (HO3.out.alloc _) ⟨w3.heap.size, 0, none⟩ 6 6 (B8 [0, 0, t, p, 0, 0]) rfl rfl (World.news_of_block (cs := #[.int .u8 0, .int .u8 0, .int .u8 t, .int .u8 p, .int .u8 0, .int .u8 0]) (t := 5) (fr := (0, 0)) (heap_alloc_new w3 _)) (B8_one _) (by unfold maxLen; omega) (by omega) (by have := HB4.out.size; simp; omega) ?_; intro v6 w6 hown6 hgrow6 hnil6)
  rw [← B8_app] at hown6
  have hb6 : Below W0.heap.size W0 w6 := (HB4.out.alloc HB4.out.size _).grown hgrow6 (by have := HB4.out.size; simp; omega) (by intro j hj; cases hj; exact hg3)
  have hXX : IsB ([69, 0] ++ [l / 256, l % 256] ++ [i / 256, i % 256] ++ [0, 0, t, p, 0, 0]) := hX.append (by intro x hx; simp at hx; omega)
  generalize hXe : [69, 0] ++ [l / 256, l % 256] ++ [i / 256, i % 256] ++ [0, 0, t, p, 0, 0] = X at *
  have HXe := Lib.hid hXe
  obtain ⟨A6, c6, rfl⟩ : ∃ A c, v6 = .slice A (6 + 6) c := by
    rcases hown6.2 with ⟨rfl, h0⟩ | ⟨g6, c6, cur, rfl, _⟩
    · omega
    · exact ⟨_, _, rfl⟩
  have hbr6 := (own_br hown6 hXX).1
  have k4 := fun W hW => keepc (w' := W) (w := w6) (keepc (hk.cell 4) hb6) hW
  have k5 := fun W hW => keepc (w' := W) (w := w6) (keepc (hk.cell 5) hb6) hW
  have HB6 := Lib.hid hb6
  clear hb6 hgrow6 hnil6 hown6 k2 k3 hX hXe
  have hf0 := Hf.out
  have ho0 := Ho.out
  go_region_held3 (fun w' => Below w6.heap.size w6 w')
    (first | with_reducible assumption | exact (Below.refl _ _).drew)
    (first
    | (go_at_call 26; refine (four_any _ _ _ _ _ _ (by first | with_reducible assumption | exact hbr6.next (by with_reducible assumption)) (by omega) (by with_reducible assumption)).mono ?_; rintro e w3 ⟨A3, c3, rfl, hown3, hb3⟩; have hbr3 := (own_br hown3 (IsB.append (BR.isB (by with_reducible assumption)) (isB4 (by with_reducible assumption)))).1; have hb4 := below_next (by with_reducible assumption) hb3)
    | (go_at_call 25; refine (rput_any _ 20 _ _ 10 _ (by with_reducible assumption) (by omega)).mono ?_; rintro e w3 ⟨A3, c3, rfl, hown3, hb3⟩; have ho3 := own_from (B := w6.heap.size) (w := w6) (by with_reducible assumption) rfl hown3; have hb4 := below_next (by with_reducible assumption) hb3))
  have eX : X ++ [f / 16777216, f / 65536 % 256, f / 256 % 256, f % 256] ++ [o / 16777216, o / 65536 % 256, o / 256 % 256, o % 256] = hdr l i t p f o := by rw [← HXe.out]; rfl
  rw [eX] at ho3
  have hB6 := below_next hB0 HB6.out
  have HO := Lib.hid ho3
  have HB := Lib.hid (below_next hB6 hb4)
  go_wp2
  go_ret2
  exact ⟨A3, c3, rfl, own_up HO.out hB6.size, HB.out⟩
end Go.Proofs.YtgjpclmkjoghiaaDoor
