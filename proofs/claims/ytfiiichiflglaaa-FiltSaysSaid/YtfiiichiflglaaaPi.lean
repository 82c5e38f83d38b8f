/- slices.Sort at addresses, of any length: what it makes is the plain insertion sort's; over the seat's program. -/
import Derived.Test.YtfiiichiflglaaaPh
import Derived.Test.YtfiiichiflglaaaSp
namespace Go.Proofs.Ytfiiichiflglaaa
open Go.RowKit Sm

theorem of_sorted {d : Array Int} {xs : List Int} (hp : Sort.PermIn 0 xs.length xs.toArray d) (hs : Sort.SortedIn Sort.ltInt 0 xs.length d) : d.toList = sortA xs := by
  have hz : d.size = xs.length := by have := hp.1; simpa using this
  have hperm : d.toList.Perm xs := by
    have := hp.2.2
    rw [Array.extract_eq_self_of_le (by omega), Array.extract_eq_self_of_le (by simp)] at this
    simpa using this
  refine List.Perm.eq_of_pairwise (le := (· ≤ ·)) (fun a b _ _ h1 h2 => by omega) ?_ (sortA_sorts xs) (hperm.trans (sortA_perm xs).symm)
  rw [List.pairwise_iff_getElem]
  intro i j hi hj hij
  have hj' : j < d.size := by simpa using hj
  have h := hs i j (Nat.zero_le _) hij (by omega)
  have h2 : ¬ d[j]! < d[i]! := by simpa [Sort.ltInt] using h
  rw [← bang, ← bang, List.getD_eq_getElem?_getD, List.getD_eq_getElem?_getD, List.getElem?_eq_getElem hi, List.getElem?_eq_getElem hj] at h2
  simpa using h2
theorem sort_any (base g n c : Nat) (xs : List Int) (w : World) (h : w.ownsRow base 27 1 (.slice (some ⟨g, 0, none⟩) n c) n (A32 xs)) (hn : 0 < n) (hn2 : n ≤ 1000000000) :
    Calls Try.prog 41 #[.slice (some ⟨g, 0, none⟩) n c] w fun e w' => e = .returned (.tuple #[]) ∧ Sr w base g n c (sortA xs) w' := by
  have HL := Lib.hid (fun W => Try.bits_Len (n : Int) W (by omega) (by omega))
  have hp := pow_len n n (Nat.le_refl _) hn (by omega)
  have h40 : Lib.bitLen n ≤ 100 := by
    rcases Nat.lt_or_ge (Lib.bitLen n) 40 with h4 | h4
    · omega
    · have := Nat.pow_le_pow_right (show 0 < 2 by omega) h4
      omega
  have HP := Lib.hid (ppdq_any base g n c hn2 (n - 0) 0 n (Lib.bitLen n) xs.toArray w rfl (Sd.start h) (Nat.zero_le _) (Nat.le_refl _) h40 (.inl rfl))
  have hx : Hid (xs.length = n) := Lib.hid (by have := h.1; rw [A32_len] at this; omega)
  rw [show ((0 : Nat) : Int) = 0 from rfl] at HP
  clear h hp h40
  go_enter Try.func41, Try.ntmps41
  go_wp2_with (first
    | (go_at_call 46; refine (HL.out _).mono ?_; rintro e w1 ⟨rfl, rfl⟩)
    | (go_at_call 45; (with_reducible refine HP.out.mono ?_); rintro e w1 ⟨rfl, hb⟩))
  go_returns
  obtain ⟨d', h1, h2, h3⟩ := hb
  rw [← hx.out] at h2 h3
  exact ⟨rfl, of_sorted h2 h3 ▸ h1.s⟩
end Go.Proofs.Ytfiiichiflglaaa

