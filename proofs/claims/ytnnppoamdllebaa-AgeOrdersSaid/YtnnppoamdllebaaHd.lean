/- Plain headers of packets: their bytes, what bytes say as one. No program is imported. -/
import Derived.Test.YtnnppoamdllebaaSm
namespace Go.Proofs.Ytnnppoamdllebaa
namespace Sm
def hdr (l i t p f o : Int) : List Int := [69, 0, l / 256, l % 256, i / 256, i % 256, 0, 0, t, p, 0, 0, f / 16777216, f / 65536 % 256, f / 256 % 256, f % 256, o / 16777216, o / 65536 % 256, o / 256 % 256, o % 256]
def hfit (l i t p : Int) : Bool := decide (20 ≤ l ∧ l ≤ 65535 ∧ 0 ≤ i ∧ i ≤ 65535 ∧ 0 ≤ t ∧ t ≤ 255 ∧ 0 ≤ p ∧ p ≤ 255)
def isA (f : Int) : Prop := 0 ≤ f ∧ f ≤ 4294967295
def hbs (l i t p f o : Int) : List Int := put (hdr l i t p f o) 10
theorem hbs_eq (l i t p f o : Int) : ∃ s, hbs l i t p f o = [69, 0, l / 256, l % 256, i / 256, i % 256, 0, 0, t, p, s / 256, s % 256, f / 16777216, f / 65536 % 256, f / 256 % 256, f % 256, o / 16777216, o / 65536 % 256, o / 256 % 256, o % 256] :=
  ⟨sum (hdr l i t p f o), by unfold hbs put; rw [if_pos (by rfl)]; rfl⟩
theorem hdr_b {l i t p f o : Int} (h : hfit l i t p = true) (hf : isA f) (ho : isA o) : IsB (hdr l i t p f o) := by
  simp only [hfit, decide_eq_true_eq] at h
  unfold isA at hf ho
  intro x hx
  simp only [hdr, List.mem_cons, List.not_mem_nil, or_false] at hx
  omega
theorem hbs_len (l i t p f o : Int) : (hbs l i t p f o).length = 20 := put_len _ _
theorem hbs_b {l i t p f o : Int} (h : hfit l i t p = true) (hf : isA f) (ho : isA o) : IsB (hbs l i t p f o) := put_b (hdr_b h hf ho) _
theorem hbs_sum {l i t p f o : Int} (h : hfit l i t p = true) (hf : isA f) (ho : isA o) : oc (tot (hbs l i t p f o)) = 65535 := sum_put (hdr_b h hf ho) (by rfl)
/- what bytes say -/
def rsh (xs : List Int) : Bool := decide (xs.getD 0 0 = 69 ∧ xs.getD 1 0 = 0 ∧ xs.getD 6 0 = 0 ∧ xs.getD 7 0 = 0)
def rn (xs : List Int) (k : Nat) : Int := xs.getD k 0 * 256 + xs.getD (k + 1) 0
def ra (xs : List Int) (k : Nat) : Int := xs.getD k 0 * 16777216 + xs.getD (k + 1) 0 * 65536 + xs.getD (k + 2) 0 * 256 + xs.getD (k + 3) 0
def rcode (xs : List Int) : Int :=
  if xs.length < 20 then 101 else if rsh xs = false then 102 else if oc (tot (xs.take 20)) ≠ 65535 then 105 else if rn xs 2 < 20 then 103 else 0
theorem getD_take {xs : List Int} {k n : Nat} (h : k < n) : (xs.take n).getD k 0 = xs.getD k 0 := by simp [List.getD, h]
theorem rcode_cases (xs : List Int) : rcode xs = 101 ∨ rcode xs = 102 ∨ rcode xs = 105 ∨ rcode xs = 103 ∨ rcode xs = 0 := by
  unfold rcode; repeat' split
  all_goals simp
theorem rcode_ok {xs : List Int} (h : rcode xs = 0) : 20 ≤ xs.length ∧ rsh xs = true ∧ oc (tot (xs.take 20)) = 65535 ∧ 20 ≤ rn xs 2 := by
  unfold rcode at h
  repeat' split at h
  all_goals first | omega | skip
  rename_i h1 h2 h3 h4
  exact ⟨by omega, by simpa using h2, by simpa using h3, by omega⟩
theorem rn_bd {xs : List Int} (h : IsB xs) (k : Nat) : 0 ≤ rn xs k ∧ rn xs k ≤ 65535 := by
  have h0 := h.at_ k
  have h1 := h.at_ (k + 1)
  unfold rn; omega
theorem ra_bd {xs : List Int} (h : IsB xs) (k : Nat) : isA (ra xs k) := by
  have h0 := h.at_ k
  have h1 := h.at_ (k + 1)
  have h2 := h.at_ (k + 2)
  have h3 := h.at_ (k + 3)
  unfold ra isA; omega
theorem rfit {xs : List Int} (hb : IsB xs) (h : rcode xs = 0) : hfit (rn xs 2) (rn xs 4) (xs.getD 8 0) (xs.getD 9 0) = true := by
  have h2 := rn_bd hb 2
  have h4 := rn_bd hb 4
  have h8 := hb.at_ 8
  have h9 := hb.at_ 9
  have := (rcode_ok h).2.2.2
  simp only [hfit, decide_eq_true_eq]
  omega
/-- a header's bytes are read as it -/
theorem rback {l i t p f o : Int} (h : hfit l i t p = true) (hf : isA f) (ho : isA o) (ys : List Int) :
    rcode (hbs l i t p f o ++ ys) = 0 ∧ rn (hbs l i t p f o ++ ys) 2 = l ∧ rn (hbs l i t p f o ++ ys) 4 = i ∧ (hbs l i t p f o ++ ys).getD 8 0 = t ∧ (hbs l i t p f o ++ ys).getD 9 0 = p ∧ ra (hbs l i t p f o ++ ys) 12 = f ∧ ra (hbs l i t p f o ++ ys) 16 = o := by
  have hs := hbs_sum h hf ho
  have hl := hbs_len l i t p f o
  have ht : (hbs l i t p f o ++ ys).take 20 = hbs l i t p f o := by rw [List.take_append_of_le_length (by omega), List.take_of_length_le (by omega)]
  obtain ⟨s, e⟩ := hbs_eq l i t p f o
  have e2 : rn (hbs l i t p f o ++ ys) 2 = l := by rw [e]; simp [rn, List.getD]; omega
  simp only [hfit, decide_eq_true_eq] at h
  unfold isA at hf ho
  refine ⟨?_, e2, ?_, ?_, ?_, ?_, ?_⟩
  · unfold rcode
    rw [if_neg (by simp; omega), if_neg (by rw [e]; simp [rsh, List.getD]), if_neg (by rw [ht, hs]; simp), if_neg (by omega)]
  all_goals rw [e]; simp [rn, ra, List.getD]; try omega
theorem hbs_inj {l i t p f o l' i' t' p' f' o' : Int} (h : hfit l i t p = true) (hf : isA f) (ho : isA o) (h' : hfit l' i' t' p' = true) (hf' : isA f') (ho' : isA o') (e : hbs l i t p f o = hbs l' i' t' p' f' o') : l = l' ∧ i = i' ∧ t = t' ∧ p = p' ∧ f = f' ∧ o = o' := by
  obtain ⟨_, a1, a2, a3, a4, a5, a6⟩ := rback h hf ho []
  obtain ⟨_, b1, b2, b3, b4, b5, b6⟩ := rback h' hf' ho' []
  rw [e] at a1 a2 a3 a4 a5 a6
  exact ⟨a1.symm.trans b1, a2.symm.trans b2, a3.symm.trans b3, a4.symm.trans b4, a5.symm.trans b5, a6.symm.trans b6⟩
/-- a hop less -/
def hcode (xs : List Int) : Int := if rcode xs = 0 then if xs.getD 8 0 = 0 then 103 else 0 else rcode xs
def hops (xs : List Int) : List Int := if hcode xs = 0 then hbs (rn xs 2) (rn xs 4) (xs.getD 8 0 - 1) (xs.getD 9 0) (ra xs 12) (ra xs 16) else []
theorem rfit1 {xs : List Int} (hb : IsB xs) (h : rcode xs = 0) (h8 : xs.getD 8 0 ≠ 0) : hfit (rn xs 2) (rn xs 4) (xs.getD 8 0 - 1) (xs.getD 9 0) = true := by
  have h1 := rfit hb h
  have h8 := hb.at_ 8
  simp only [hfit, decide_eq_true_eq] at h1 ⊢
  omega
end Sm
def hv (l i t p f o : Int) : Value := .agg #[.int .i64 l, .int .i64 i, .int .i64 t, .int .i64 p, .int .u32 f, .int .u32 o]
def rv (xs : List Int) : Value := if Sm.rcode xs = 0 then hv (Sm.rn xs 2) (Sm.rn xs 4) (xs.getD 8 0) (xs.getD 9 0) (Sm.ra xs 12) (Sm.ra xs 16) else hv 0 0 0 0 0 0
end Go.Proofs.Ytnnppoamdllebaa

