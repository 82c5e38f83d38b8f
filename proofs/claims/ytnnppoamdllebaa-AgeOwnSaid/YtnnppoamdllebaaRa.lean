/- The document's Addrs: a copy of addresses in new memory; over the seat's program. -/
import Derived.Test.YtnnppoamdllebaaAppA
import Derived.Test.YtnnppoamdllebaaBy
import Derived.WalkKit
import Derived.Deep.DeepAppendRoom
import Derived.Lib.SliceRun
namespace Go.Proofs.Ytnnppoamdllebaa
open Go.RowKit Sm
set_option maxHeartbeats 2000000 in
theorem raddrs_any (A : Option Addr) (n c : Nat) (xs : List Int) (w : World) (h : AR w A n xs) (hn : n ≤ 1000000) :
    Calls Try.prog 22 #[.slice A n c] w fun e w' => ∃ v, e = .returned v ∧ w'.ownsRow w.heap.size 24 1 v n (A32 xs) ∧ Below w.heap.size w w' := by
  obtain ⟨i0, hi, hz0, hz1, hz2⟩ := infoA'
  have hl := h.len
  have H := Lib.hid h
  clear h
  go_enter Try.func22, Try.ntmps22
  go_wp2_with (at_make; refine wpList_make_own _ rfl _ _ 38 rfl w.heap.size 24 i0 (.int .u32 0) 1 Try.underlying38 hi hz0 hz1 .i64 .i64 _ n rfl rfl rfl (by rw [hz2]; omega) (by unfold maxLen; omega) (Nat.le_refl _) ?_; intro w0 hown0 hgrow0)
  have HB0 := Lib.hid ((Below.refl _ _).grown hgrow0 (Nat.le_refl _) (by intro k hk; cases hk))
  have HO0 : Hid (w0.ownsRow w.heap.size 24 1 (.slice (some ⟨w.heap.size, 0, none⟩) 0 n) 0 (A32 (xs.take 0))) := Lib.hid (by simpa [A32] using hown0)
  clear hown0 hgrow0
  go_loopw [3, 4] (fun v iv wr => ∃ k : Nat, k ≤ n ∧ iv = .int .i64 (k : Int) ∧ Hid (wr.ownsRow w.heap.size 24 1 v k (A32 (xs.take k))) ∧ Hid (Below w.heap.size w wr)) (fun _ iv _ => n - (intOf iv).toNat)
  case atStart => exact ⟨0, Nat.zero_le _, rfl, HO0, HB0⟩
  case round =>
    obtain ⟨k, hk, rfl, HO, HB⟩ := hrel
    generalize u3 = v3 at *
    rcases Nat.lt_or_ge k n with hlt | hge
    · obtain ⟨b, o, rfl, hb, hx⟩ := (H.out.next HB.out).at_ hlt
      have hgk : xs[k]? = some (xs.getD k 0) := by rw [List.getD_eq_getElem?_getD, List.getElem?_eq_getElem (by omega)]; rfl
      have hia : isA (xs.getD k 0) := H.out.isAs _ (List.mem_of_getElem? hgk)
      have HT : Hid (xs.take k ++ [xs.getD k 0] = xs.take (k + 1)) := Lib.hid (by rw [List.take_add_one, hgk]; rfl)
      generalize xs.getD k 0 = u at *
      have hi0 : (k : Int) < (n : Int) := by omega
      have HO1 := Lib.hid (HO.out.alloc (.cells #[.int .u32 u] 24))
      have HB1 := Lib.hid (HB.out.alloc HB.out.size (.cells #[.int .u32 u] 24))
      clear HO hgk hb
      go_wp2_with (at_builtin; refine wpList_appA rfl _ _ rfl w.heap.size v3 k (xs.take k) rfl HO1.out _ 1 1 [u] rfl (ar_lit (Blk.new wr _ _) hia) (by omega) (by decide) HB1.out.size ?_; intro v6 w6 hown6 hb6)
      have HO6 : Hid (w6.ownsRow w.heap.size 24 1 v6 (k + 1) (A32 (xs.take (k + 1)))) := Lib.hid (by rw [← HT.out]; exact hown6)
      have HB6 := Lib.hid (HB1.out.trans hb6)
      clear hown6 hb6 HO1 HB1 HB hx
      go_wp2
      go_roundw
      case rel => exact ⟨k + 1, by omega, by go_num, HO6, HB6⟩
      case measure => simp [intOf]; omega
    · obtain rfl : k = n := by omega
      have q1 : ¬ (k : Int) < (k : Int) := by omega
      rw [List.take_of_length_le (by omega)] at HO
      go_wp2
      go_ret
      exact ⟨v3, rfl, HO.out, HB.out⟩
end Go.Proofs.Ytnnppoamdllebaa

