/- Contract of the document's own ReadMsg, over the seat's program: all ways. -/
import Derived.Test.YtfcfnfofihpegaaDoorR4
namespace Go.Proofs.YtfcfnfofihpegaaDoor
open Go.RowKit Sm
theorem rread_bad {xs : List Int} {w : World} {cd : Int} (hc : mrc xs = cd) (h0 : cd ≠ 0) {e : Ending} {w' : World} (h : e = .returned (.tuple #[mv mz none 0 0, .int .i64 cd]) ∧ Below w.heap.size w w') : rreadOf xs w e w' := by
  subst hc
  have hm : mres xs = mz := by unfold mres; rw [if_neg h0]
  unfold rreadOf
  rw [hm]
  exact ⟨none, 0, 0, h.1, AR.none_ _ _, h.2⟩
section
variable (A : Option Addr) (n c : Nat) (xs : List Int) (w : World)
theorem mrc_kind (h4 : 4 ≤ xs.length) (ho : oc (tot xs) = 65535) (h1 : xs.getD 1 0 = 0) (hk : kOk (rkind xs) = true) : mrc xs = if xs.length < msz xs then 101 else if msz xs < xs.length ∨ modd xs = true then 102 else mcode (mrd xs) := by
  unfold mrc
  rw [if_neg (by omega), if_neg (fun hh => hh ho), if_neg (fun hh => hh h1), if_neg (by rw [hk]; decide)]
theorem rread_any (h : BR w A n xs) (hn : n ≤ 1048576) (hcap : n ≤ c) :
    Calls Tryd.prog 19 #[.slice A n c] w (rreadOf xs w) := by
  have hl := h.len
  by_cases h4 : n < 4
  · exact (rrd_len A n c xs w h hn hcap h4).mono fun _ _ hh => rread_bad (by unfold mrc; rw [if_pos (by omega)]) (by decide) hh
  by_cases ho : oc (tot xs) = 65535
  case neg => exact (rrd_sum A n c xs w h hn hcap (by omega) ho).mono fun _ _ hh => rread_bad (by unfold mrc; rw [if_neg (by omega), if_pos ho]) (by decide) hh
  by_cases h1 : xs.getD 1 0 = 0
  case neg => exact (rrd_two A n c xs w h hn hcap (by omega) ho h1).mono fun _ _ hh => rread_bad (by unfold mrc; rw [if_neg (by omega), if_neg (fun hh => hh ho), if_pos h1]) (by decide) hh
  cases hk : kOk (rkind xs)
  case false => exact (rrd_kind A n c xs w h hn hcap (by omega) ho h1 hk).mono fun _ _ hh => rread_bad (by unfold mrc; rw [if_neg (by omega), if_neg (fun hh => hh ho), if_neg (fun hh => hh h1), if_pos hk]) (by decide) hh
  have hm := mrc_kind xs (by omega) ho h1 hk
  have h45 : 4 ≤ n := by omega
  have hkk := hk
  simp only [kOk, decide_eq_true_eq] at hkk
  have h5 : rkind xs = 1 ∨ rkind xs = 2 ∨ rkind xs = 3 ∨ rkind xs = 4 ∨ rkind xs = 5 := by omega
  rcases h5 with hK | hK | hK | hK | hK
  · have hz : msz xs = 10 := by unfold msz mszk; rw [hK]; rfl
    have hd : modd xs = false := by unfold modd; rw [hK]; simp
    rw [hz, hd] at hm
    rcases Nat.lt_trichotomy n 10 with hs | hs | hs
    · exact (rrd_short1 A n c xs w h hn hcap ho h1 hK h45 hs).mono fun _ _ hh => rread_bad (by rw [hm, if_pos (by omega)]) (by decide) hh
    · exact rrd_ok1 A n c xs w h hn hcap h45 ho h1 hK hs (by rw [hm, if_neg (by omega), if_neg (by simp; omega)])
    · exact (rrd_long1 A n c xs w h hn hcap ho h1 hK h45 hs).mono fun _ _ hh => rread_bad (by rw [hm, if_neg (by omega), if_pos (.inl (by omega))]) (by decide) hh
  · have hz : msz xs = 20 := by unfold msz mszk; rw [hK]; rfl
    have hd : modd xs = false := by unfold modd; rw [hK]; simp
    rw [hz, hd] at hm
    rcases Nat.lt_trichotomy n 20 with hs | hs | hs
    · exact (rrd_short2 A n c xs w h hn hcap ho h1 hK h45 hs).mono fun _ _ hh => rread_bad (by rw [hm, if_pos (by omega)]) (by decide) hh
    · exact rrd_ok2 A n c xs w h hn hcap h45 ho h1 hK hs (by rw [hm, if_neg (by omega), if_neg (by simp; omega)])
    · exact (rrd_long2 A n c xs w h hn hcap ho h1 hK h45 hs).mono fun _ _ hh => rread_bad (by rw [hm, if_neg (by omega), if_pos (.inl (by omega))]) (by decide) hh
  · have hz : msz xs = 18 := by unfold msz mszk; rw [hK]; rfl
    have hd : modd xs = false := by unfold modd; rw [hK]; simp
    rw [hz, hd] at hm
    rcases Nat.lt_trichotomy n 18 with hs | hs | hs
    · exact (rrd_short3 A n c xs w h hn hcap ho h1 hK h45 hs).mono fun _ _ hh => rread_bad (by rw [hm, if_pos (by omega)]) (by decide) hh
    · exact rrd_ok3 A n c xs w h hn hcap h45 ho h1 hK hs (by rw [hm, if_neg (by omega), if_neg (by simp; omega)])
    · exact (rrd_long3 A n c xs w h hn hcap ho h1 hK h45 hs).mono fun _ _ hh => rread_bad (by rw [hm, if_neg (by omega), if_pos (.inl (by omega))]) (by decide) hh
  · have hz : msz xs = 14 + 4 * (xs.getD 13 0).toNat := by unfold msz mszk; rw [hK]; rfl
    have B13 := h.isB.at_ 13
    rw [hz] at hm
    by_cases hs : n < 14
    · exact (rrd_short4 A n c xs w h hn hcap ho h1 hK h45 hs).mono fun _ _ hh => rread_bad (by rw [hm, if_pos (by omega)]) (by decide) hh
    rcases Int.lt_trichotomy (n : Int) (14 + 4 * xs.getD 13 0) with hq | hq | hq
    · exact (rrd_few4 A n c xs w h hn hcap ho h1 hK (by omega) hq).mono fun _ _ hh => rread_bad (by rw [hm, if_pos (by omega)]) (by decide) hh
    · by_cases h12 : 1 < xs.getD 12 0
      · have hd : modd xs = true := by unfold modd; rw [hK]; simp; exact h12
        exact (rrd_odd4 A n c xs w h hn hcap ho h1 hK (by omega) hq h12).mono fun _ _ hh => rread_bad (by rw [hm, if_neg (by omega), if_pos (.inr hd)]) (by decide) hh
      · have hd : ¬ modd xs = true := by unfold modd; rw [decide_eq_true_eq]; exact fun hh => h12 hh.2
        exact rrd_ok4 A n c xs w h hn hcap h45 ho h1 hK (by omega) (by omega) (by rw [hm, if_neg (by omega), if_neg (by rintro (h | h); omega; exact hd h)])
    · exact (rrd_long4 A n c xs w h hn hcap ho h1 hK (by omega) hq).mono fun _ _ hh => rread_bad (by rw [hm, if_neg (by omega), if_pos (.inl (by omega))]) (by decide) hh
  · have hz : msz xs = 12 := by unfold msz mszk; rw [hK]; rfl
    have hd : modd xs = false := by unfold modd; rw [hK]; simp
    rw [hz, hd] at hm
    rcases Nat.lt_trichotomy n 12 with hs | hs | hs
    · exact (rrd_short5 A n c xs w h hn hcap ho h1 hK h45 hs).mono fun _ _ hh => rread_bad (by rw [hm, if_pos (by omega)]) (by decide) hh
    · exact rrd_ok5 A n c xs w h hn hcap h45 ho h1 hK hs (by rw [hm, if_neg (by omega), if_neg (by simp; omega)])
    · exact (rrd_long5 A n c xs w h hn hcap ho h1 hK h45 hs).mono fun _ _ hh => rread_bad (by rw [hm, if_neg (by omega), if_pos (.inl (by omega))]) (by decide) hh
end
end Go.Proofs.YtfcfnfofihpegaaDoor
