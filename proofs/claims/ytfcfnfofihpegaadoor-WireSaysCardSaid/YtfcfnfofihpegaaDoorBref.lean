/- Contracts of addr's bytes and of the document's own helpers for bytes (two, four, At), over the seat's program. -/
import Derived.Test.YtfcfnfofihpegaaDoorSlip
import Derived.Test.YtfcfnfofihpegaaDoorRefS
import Derived.Test.YtfcfnfofihpegaaDoorAd
namespace Go.Proofs.YtfcfnfofihpegaaDoor
open Go.RowKit Sm
theorem abytes_any (a : Int) (w : World) (_h : isA a) :
    Calls Tryd.prog 46 #[.int .u32 a] w fun e w' => e = .returned (.agg #[.int .u8 (a / 16777216), .int .u8 (a / 65536 % 256), .int .u8 (a / 256 % 256), .int .u8 (a % 256)]) ∧ Below w.heap.size w w' := by
  obtain ⟨_h0, _h1⟩ := _h
  go_enter Tryd.func46, Tryd.ntmps46
  go_wp2
  exact bodyPost_ret (v := .agg #[.int .u8 (a / 16777216), .int .u8 (a / 65536 % 256), .int .u8 (a / 256 % 256), .int .u8 (a % 256)]) (by simp [results, Tryd.results46, go_sem]) rfl ⟨rfl, (Below.refl _ _).alloc (Nat.le_refl _) _⟩
theorem aof_any (a b c d : Int) (w : World) (ha0 : 0 ≤ a) (ha : a ≤ 255) (hb0 : 0 ≤ b) (hb : b ≤ 255) (hc0 : 0 ≤ c) (hc : c ≤ 255) (hd0 : 0 ≤ d) (hd : d ≤ 255) :
    Calls Tryd.prog 63 #[.agg #[.int .u8 a, .int .u8 b, .int .u8 c, .int .u8 d]] w fun e w' => e = .returned (.int .u32 (a * 16777216 + b * 65536 + c * 256 + d)) ∧ Below w.heap.size w w' := by
  have H := Lib.hid (Ad.of_bytes a b c d ha0 ha hb0 hb hc0 hc hd0 hd)
  clear ha0 ha hb0 hb hc0 hc hd0 hd
  go_enter Tryd.func63, Tryd.ntmps63
  go_wp2
  go_ret
  exact ⟨ret_int H.out, (Below.refl _ _).alloc (Nat.le_refl _) _⟩
theorem two_any (A : Option Addr) (n c : Nat) (xs : List Int) (v : Int) (w : World) (h : BR w A n xs) (hn : n ≤ 1000000) (hv0 : 0 ≤ v) (hv1 : v ≤ 65535) :
    Calls Tryd.prog 39 #[.slice A n c, .int .i64 v] w fun e w' => ∃ A' c', e = .returned (.slice A' (n + 2) c') ∧ w'.ownsRow w.heap.size 5 1 (.slice A' (n + 2) c') (n + 2) (B8 (xs ++ [v / 256, v % 256])) ∧ Below w.heap.size w w' := by
  obtain ⟨i0, hi, hz0, hz1, hz2⟩ := info_parts info_u8
  have hl := h.len
  have HC := rbytes_any A n c xs w h (by omega)
  clear h
  go_enter Tryd.func39, Tryd.ntmps39
  go_wp2_with (first
    | (go_at_call 21; refine HC.mono ?_; rintro e w2 ⟨g, c2, rfl, hown, hb2⟩)
    | (at_builtin; refine wpList_append_own _ rfl _ _ 29 rfl w.heap.size 5 i0 (.int .u8 0) 1 1 Tryd.underlying29 hi hz0 hz1 hz2 rfl (by decide) _ n _ rfl (hown.alloc _) ⟨w2.heap.size, 0, none⟩ 2 2 (B8 [v / 256, v % 256]) rfl rfl (World.news_of_block (cs := #[.int .u8 (v / 256), .int .u8 (v % 256)]) (t := 5) (fr := (0, 0)) (heap_alloc_new w2 _)) (B8_one _) (by unfold maxLen; omega) (by omega) (by have := hb2.size; simp; omega) ?_; intro v6 w6 hown6 hgrow6 hnil6))
  have hb6 : Below w.heap.size w w6 := (hb2.alloc hb2.size _).grown hgrow6 (by have := hb2.size; simp; omega) (by intro j hj; cases hj; exact own_base hown)
  rw [← B8_app] at hown6
  obtain ⟨c6, hc6⟩ : ∃ A c, v6 = .slice A (n + 2) c := by
    rcases hown6.2 with ⟨rfl, h0⟩ | ⟨g6, c6, cur, rfl, _⟩
    · omega
    · exact ⟨_, _, rfl⟩
  obtain ⟨c7, rfl⟩ := hc6
  go_ret
  exact ⟨c6, c7, rfl, hown6, hb6⟩
theorem four_any (A : Option Addr) (n c : Nat) (xs : List Int) (v : Int) (w : World) (h : BR w A n xs) (hn : n ≤ 1000000) (hv : isA v) :
    Calls Tryd.prog 38 #[.slice A n c, .int .u32 v] w fun e w' => ∃ A' c', e = .returned (.slice A' (n + 4) c') ∧ w'.ownsRow w.heap.size 5 1 (.slice A' (n + 4) c') (n + 4) (B8 (xs ++ [v / 16777216, v / 65536 % 256, v / 256 % 256, v % 256])) ∧ Below w.heap.size w w' := by
  obtain ⟨i0, hi, hz0, hz1, hz2⟩ := info_parts info_u8
  have hl := h.len
  have HC := rbytes_any A n c xs w h (by omega)
  obtain ⟨hv0, hv1⟩ := hv
  clear h
  go_enter Tryd.func38, Tryd.ntmps38
  go_wp2_with (first
    | (go_at_call 21; refine HC.mono ?_; rintro e w2 ⟨g, c2, rfl, hown, hb2⟩)
    | (at_builtin; refine wpList_append_own _ rfl _ _ 29 rfl w.heap.size 5 i0 (.int .u8 0) 1 1 Tryd.underlying29 hi hz0 hz1 hz2 rfl (by decide) _ n _ rfl (hown.alloc _) ⟨w2.heap.size, 0, none⟩ 4 4 (B8 [v / 16777216, v / 65536 % 256, v / 256 % 256, v % 256]) rfl rfl (World.news_of_block (cs := #[.int .u8 (v / 16777216), .int .u8 (v / 65536 % 256), .int .u8 (v / 256 % 256), .int .u8 (v % 256)]) (t := 5) (fr := (0, 0)) (heap_alloc_new w2 _)) (B8_one _) (by unfold maxLen; omega) (by omega) (by have := hb2.size; simp; omega) ?_; intro v6 w6 hown6 hgrow6 hnil6))
  have hb6 : Below w.heap.size w w6 := (hb2.alloc hb2.size _).grown hgrow6 (by have := hb2.size; simp; omega) (by intro j hj; cases hj; exact own_base hown)
  rw [← B8_app] at hown6
  obtain ⟨c6, hc6⟩ : ∃ A c, v6 = .slice A (n + 4) c := by
    rcases hown6.2 with ⟨rfl, h0⟩ | ⟨g6, c6, cur, rfl, _⟩
    · omega
    · exact ⟨_, _, rfl⟩
  obtain ⟨c7, rfl⟩ := hc6
  go_ret
  exact ⟨c6, c7, rfl, hown6, hb6⟩
set_option maxHeartbeats 1000000 in
theorem at_any (A : Option Addr) (n c k : Nat) (xs : List Int) (w : World) (h : BR w A n xs) (hk : k + 4 ≤ n) (hn : n ≤ 1048576) :
    Calls Tryd.prog 45 #[.slice A n c, .int .i64 k] w fun e w' => e = .returned (.int .u32 (ra xs k)) ∧ Below w.heap.size w w' := by
  obtain ⟨b, o, rfl, _, hc⟩ := h.2.2 (by omega)
  have c0 := hc k (by omega)
  have c1 := hc (k + 1) (by omega)
  have c2 := hc (k + 2) (by omega)
  have c3 := hc (k + 3) (by omega)
  have B0 := h.isB.at_ k
  have B1 := h.isB.at_ (k + 1)
  have B2 := h.isB.at_ (k + 2)
  have B3 := h.isB.at_ (k + 3)
  have H := Lib.hid (Ad.of_bytes _ _ _ _ B0.1 B0.2 B1.1 B1.2 B2.1 B2.2 B3.1 B3.2)
  unfold ra
  clear hc h B0 B1 B2 B3
  generalize xs.getD k 0 = u0 at *
  generalize xs.getD (k + 1) 0 = u1 at *
  generalize xs.getD (k + 2) 0 = u2 at *
  generalize xs.getD (k + 3) 0 = u3 at *
  have e1 : IntKind.i64.wrap ((k : Int) + 1) = ((k + 1 : Nat) : Int) := (IntWalk.i64_in _ (by omega)).trans (by omega)
  have e2 : IntKind.i64.wrap ((k : Int) + 2) = ((k + 2 : Nat) : Int) := (IntWalk.i64_in _ (by omega)).trans (by omega)
  have e3 : IntKind.i64.wrap ((k : Int) + 3) = ((k + 3 : Nat) : Int) := (IntWalk.i64_in _ (by omega)).trans (by omega)
  have i0 : (k : Int) < n := by omega
  have i1 : ((k + 1 : Nat) : Int) < n := by omega
  have i2 : ((k + 2 : Nat) : Int) < n := by omega
  have i3 : ((k + 3 : Nat) : Int) < n := by omega
  go_enter Tryd.func45, Tryd.ntmps45
  go_wp2_with fail
  go_quiet (fail)
  go_wp2
  go_ret
  exact ⟨ret_int H.out, below_drewN (Below.refl _ _) _⟩
theorem K12 : (12 : Int) = ((12 : Nat) : Int) := rfl
theorem K16 : (16 : Int) = ((16 : Nat) : Int) := rfl
theorem at_at (A : Option Addr) (n c : Nat) (xs : List Int) (w : World) (K : Int) (k : Nat) (hK : K = (k : Int)) (h : BR w A n xs) (hk : k + 4 ≤ n) (hn : n ≤ 1048576) :
    Calls Tryd.prog 45 #[.slice A n c, .int .i64 K] w fun e w' => e = .returned (.int .u32 (ra xs k)) ∧ Below w.heap.size w w' := hK ▸ at_any A n c k xs w h hk hn
end Go.Proofs.YtfcfnfofihpegaaDoor
