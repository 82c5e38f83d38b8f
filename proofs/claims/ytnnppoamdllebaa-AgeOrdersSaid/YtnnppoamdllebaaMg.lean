/- Plain messages: which may be, their bytes, what bytes say as one. No program is imported. -/
import Derived.Test.YtnnppoamdllebaaHd
namespace Go.Proofs.Ytnnppoamdllebaa
structure Ms where
  k : Int
  f : Int
  t : Int
  s : Int
  g : Int
  r : Int
  c : Int
  o : Bool
  l : List Int
namespace Sm
def b4 (a : Int) : List Int := [a / 16777216, a / 65536 % 256, a / 256 % 256, a % 256]
def b2 (n : Int) : List Int := [n / 256, n % 256]
def flat : List Int → List Int
  | [] => []
  | a :: r => b4 a ++ flat r
def IsAs (l : List Int) : Prop := ∀ x ∈ l, isA x
def wfm (m : Ms) : Prop := isA m.f ∧ isA m.t ∧ isA m.s ∧ isA m.g ∧ IsAs m.l
def kOk (k : Int) : Bool := decide (1 ≤ k ∧ k ≤ 5)
def cOk (n : Int) : Bool := decide (0 ≤ n ∧ n ≤ 65535)
def gOk (a : Int) : Bool := decide (a / 268435456 = 14)
def owned (m : Ms) : Ms := ⟨m.k, m.f, if m.k = 2 then m.t else 0, if m.k = 2 ∨ m.k = 3 then m.s else 0, if 2 ≤ m.k ∧ m.k ≤ 5 then m.g else 0, if m.k = 1 then m.r else 0, if m.k = 3 then m.c else 0, if m.k = 4 then m.o else false, if m.k = 4 then m.l else []⟩
def sameB (m n : Ms) : Bool := decide (m.k = n.k ∧ m.f = n.f ∧ m.t = n.t ∧ (m.s = n.s ∧ m.g = n.g) ∧ m.r = n.r ∧ m.c = n.c ∧ m.o = n.o ∧ m.l = n.l)
def mcode (m : Ms) : Int :=
  if kOk m.k = false then 113 else if 4 < m.l.length then 104
  else if (cOk m.r && (cOk m.c && ((m.k == 1) || gOk m.g))) = true ∧ sameB m (owned m) = true then 0 else 103
def body (m : Ms) : List Int :=
  if m.k = 1 then b2 m.r else if m.k = 2 then b4 m.t ++ (b4 m.s ++ b4 m.g) else if m.k = 3 then b4 m.s ++ (b4 m.g ++ b2 m.c)
  else if m.k = 4 then b4 m.g ++ ([if m.o then 1 else 0, (m.l.length : Int)] ++ flat m.l) else b4 m.g
def mraw (m : Ms) : List Int := (32 + m.k) :: 0 :: 0 :: 0 :: (b4 m.f ++ body m)
def mbs (m : Ms) : List Int := put (mraw m) 2
def ras (xs : List Int) (p : Nat) : Nat → List Int
  | 0 => []
  | n + 1 => ra xs p :: ras xs (p + 4) n
def rkind (xs : List Int) : Int := xs.getD 0 0 - 32
def mrk (k : Int) (xs : List Int) : Ms :=
  ⟨k, ra xs 4, if k = 2 then ra xs 8 else 0, if k = 2 then ra xs 12 else if k = 3 then ra xs 8 else 0,
   if k = 2 then ra xs 16 else if k = 3 then ra xs 12 else if k = 4 ∨ k = 5 then ra xs 8 else 0,
   if k = 1 then rn xs 8 else 0, if k = 3 then rn xs 16 else 0, if k = 4 then decide (xs.getD 12 0 = 1) else false,
   if k = 4 then ras xs 14 (xs.getD 13 0).toNat else []⟩
def mrd (xs : List Int) : Ms := mrk (rkind xs) xs
def mszk (k : Int) (xs : List Int) : Nat := if k = 1 then 10 else if k = 2 then 20 else if k = 3 then 18 else if k = 4 then 14 + 4 * (xs.getD 13 0).toNat else 12
def msz (xs : List Int) : Nat := mszk (rkind xs) xs
def modd (xs : List Int) : Bool := decide (rkind xs = 4 ∧ 1 < xs.getD 12 0)
def mz : Ms := ⟨0, 0, 0, 0, 0, 0, 0, false, []⟩
def mrc (xs : List Int) : Int :=
  if xs.length < 4 then 101 else if oc (tot xs) ≠ 65535 then 105 else if xs.getD 1 0 ≠ 0 then 102 else if kOk (rkind xs) = false then 113
  else if xs.length < msz xs then 101 else if msz xs < xs.length ∨ modd xs = true then 102 else mcode (mrd xs)
def mres (xs : List Int) : Ms := if mrc xs = 0 then mrd xs else mz
theorem b4_len (a : Int) : (b4 a).length = 4 := rfl
theorem b2_len (a : Int) : (b2 a).length = 2 := rfl
theorem b4_b {v : Int} (h : isA v) : IsB (b4 v) := by
  obtain ⟨h0, h1⟩ := h
  intro x hx; simp only [b4, List.mem_cons, List.not_mem_nil, or_false] at hx; omega
theorem b2_b {v : Int} (h0 : 0 ≤ v) (h1 : v ≤ 65535) : IsB (b2 v) := by
  intro x hx; simp only [b2, List.mem_cons, List.not_mem_nil, or_false] at hx; omega
theorem flat_len : ∀ l : List Int, (flat l).length = 4 * l.length
  | [] => rfl
  | a :: r => by simp [flat, b4_len, flat_len r]; omega
theorem flat_b : ∀ {l : List Int}, IsAs l → IsB (flat l)
  | [], _ => fun x hx => by cases hx
  | a :: r, h => (b4_b (h a (by simp))).append (flat_b fun x hx => h x (by simp [hx]))
theorem flat_append (l k : List Int) : flat (l ++ k) = flat l ++ flat k := by
  induction l with
  | nil => rfl
  | cons a r ih => simp [flat, ih]
theorem IsB.cons {a : Int} {xs : List Int} (h0 : 0 ≤ a) (h1 : a ≤ 255) (h : IsB xs) : IsB (a :: xs) := fun x hx => by
  rcases List.mem_cons.1 hx with rfl | hx
  · exact ⟨h0, h1⟩
  · exact h x hx
theorem ra_b4 {a : Int} (h : isA a) (zs : List Int) : ra (b4 a ++ zs) 0 = a := by
  obtain ⟨h0, h1⟩ := h
  simp [ra, b4, List.getD]; omega
theorem rn_b2 {a : Int} (_h0 : 0 ≤ a) (_h1 : a ≤ 65535) (zs : List Int) : rn (b2 a ++ zs) 0 = a := by
  simp [rn, b2, List.getD]; omega
theorem ra_at {xs : List Int} {p : Nat} {a : Int} {zs : List Int} (h : xs.drop p = b4 a ++ zs) (ha : isA a) : ra xs p = a := by
  have e : ra xs p = ra (xs.drop p) 0 := by unfold ra; simp [List.getD]
  rw [e, h, ra_b4 ha]
theorem rn_at {xs : List Int} {p : Nat} {a : Int} {zs : List Int} (h : xs.drop p = b2 a ++ zs) (h0 : 0 ≤ a) (h1 : a ≤ 65535) : rn xs p = a := by
  have e : rn xs p = rn (xs.drop p) 0 := by unfold rn; simp [List.getD]
  rw [e, h, rn_b2 h0 h1]
theorem drop_next {xs : List Int} {p k : Nat} {us zs : List Int} (h : xs.drop p = us ++ zs) (hk : us.length = k) : xs.drop (p + k) = zs := by
  rw [← List.drop_drop, h, ← hk, List.drop_left]
theorem getD_at {xs : List Int} {p : Nat} {a : Int} {zs : List Int} (h : xs.drop p = a :: zs) : xs.getD p 0 = a := by
  have e : xs.getD p 0 = (xs.drop p).getD 0 0 := by simp [List.getD]
  rw [e, h]; rfl
theorem ras_at : ∀ (l : List Int) (xs : List Int) (p : Nat) (zs : List Int), xs.drop p = flat l ++ zs → IsAs l → ras xs p l.length = l
  | [], _, _, _, _, _ => rfl
  | a :: r, xs, p, zs, h, ha => by
    have h1 : xs.drop p = b4 a ++ (flat r ++ zs) := by rw [h]; simp [flat]
    have h2 := drop_next h1 (b4_len a)
    show ra xs p :: ras xs (p + 4) r.length = a :: r
    rw [ra_at h1 (ha a (by simp)), ras_at r xs (p + 4) zs h2 (fun x hx => ha x (by simp [hx]))]
theorem ras_len (xs : List Int) : ∀ (n p : Nat), (ras xs p n).length = n
  | 0, _ => rfl
  | n + 1, p => by simp [ras, ras_len xs n (p + 4)]
theorem ras_b {xs : List Int} (h : IsB xs) : ∀ (n p : Nat), IsAs (ras xs p n)
  | 0, _ => fun x hx => by cases hx
  | n + 1, p => fun x hx => by
    rcases List.mem_cons.1 hx with rfl | hx
    · exact ra_bd h p
    · exact ras_b h n (p + 4) x hx
theorem mrd_wf {xs : List Int} (h : IsB xs) : wfm (mrd xs) := by
  have z : isA 0 := ⟨by omega, by omega⟩
  refine ⟨ra_bd h 4, ?_, ?_, ?_, ?_⟩
  · show isA (if _ then _ else _); split
    · exact ra_bd h 8
    · exact z
  · show isA (if _ then _ else if _ then _ else _); split
    · exact ra_bd h 12
    · split
      · exact ra_bd h 8
      · exact z
  · show isA (if _ then _ else if _ then _ else if _ then _ else _); split
    · exact ra_bd h 16
    · split
      · exact ra_bd h 12
      · split
        · exact ra_bd h 8
        · exact z
  · show IsAs (if _ then _ else _); split
    · exact ras_b h _ _
    · exact fun x hx => by cases hx
/- what a right message is -/
theorem mcode_ok {m : Ms} (h : mcode m = 0) : 1 ≤ m.k ∧ m.k ≤ 5 ∧ m.l.length ≤ 4 ∧ 0 ≤ m.r ∧ m.r ≤ 65535 ∧ 0 ≤ m.c ∧ m.c ≤ 65535 ∧ (m.k ≠ 1 → gOk m.g = true) ∧ m.t = (owned m).t ∧ m.s = (owned m).s ∧ m.g = (owned m).g ∧ m.r = (owned m).r ∧ m.c = (owned m).c ∧ m.o = (owned m).o ∧ m.l = (owned m).l := by
  unfold mcode at h
  split at h
  · omega
  split at h
  · omega
  split at h
  · rename_i h1 h2 h3
    simp only [kOk, decide_eq_false_iff_not, Decidable.not_not] at h1
    obtain ⟨h3, h4⟩ := h3
    simp only [cOk, Bool.and_eq_true, Bool.or_eq_true, decide_eq_true_eq, beq_iff_eq] at h3
    simp only [sameB, decide_eq_true_eq] at h4
    obtain ⟨h31, h32, h33⟩ := h3
    obtain ⟨_, _, h42, ⟨h43, h44⟩, h45, h46, h47, h48⟩ := h4
    exact ⟨h1.1, h1.2, by omega, h31.1, h31.2, h32.1, h32.2, fun hk => h33.resolve_left hk, h42, h43, h44, h45, h46, h47, h48⟩
  · omega
theorem mcode_cases (m : Ms) : mcode m = 113 ∨ mcode m = 104 ∨ mcode m = 103 ∨ mcode m = 0 := by
  unfold mcode; repeat' split
  all_goals simp
theorem mrc_cases (xs : List Int) : mrc xs = 101 ∨ mrc xs = 105 ∨ mrc xs = 102 ∨ mrc xs = 113 ∨ mrc xs = 104 ∨ mrc xs = 103 ∨ mrc xs = 0 := by
  unfold mrc; repeat' split
  all_goals first | simp; done | skip
  have := mcode_cases (mrd xs)
  omega
theorem body_b {m : Ms} (hw : wfm m) (hc : mcode m = 0) : IsB (body m) := by
  obtain ⟨h1, h2, h3, h4, h5, h6, h7, _⟩ := mcode_ok hc
  obtain ⟨_, w2, w3, w4, w5⟩ := hw
  unfold body
  split
  · exact b2_b h4 h5
  split
  · exact (b4_b w2).append ((b4_b w3).append (b4_b w4))
  split
  · exact (b4_b w3).append ((b4_b w4).append (b2_b h6 h7))
  split
  · refine (b4_b w4).append (IsB.append ?_ (flat_b w5))
    intro x hx
    simp only [List.mem_cons, List.not_mem_nil, or_false] at hx
    rcases hx with rfl | rfl
    · cases m.o <;> simp
    · omega
  · exact b4_b w4
theorem mraw_b {m : Ms} (hw : wfm m) (hc : mcode m = 0) : IsB (mraw m) := by
  have h := mcode_ok hc
  exact IsB.cons (by omega) (by omega) (IsB.cons (by omega) (by omega) (IsB.cons (by omega) (by omega) (IsB.cons (by omega) (by omega) ((b4_b hw.1).append (body_b hw hc)))))
theorem mraw_place (m : Ms) : place (mraw m).length 2 = true := by
  have h : (mraw m).length = (b4 m.f ++ body m).length + 4 := rfl
  rw [h]
  exact decide_eq_true ⟨by omega, by omega, by omega⟩
theorem mbs_b {m : Ms} (hw : wfm m) (hc : mcode m = 0) : IsB (mbs m) := put_b (mraw_b hw hc) _
theorem mbs_sum {m : Ms} (hw : wfm m) (hc : mcode m = 0) : oc (tot (mbs m)) = 65535 := sum_put (mraw_b hw hc) (mraw_place m)
theorem mbs_len (m : Ms) : (mbs m).length = (mraw m).length := put_len _ _
theorem mbs_eq (m : Ms) : ∃ s, mbs m = (32 + m.k) :: 0 :: s / 256 :: s % 256 :: (b4 m.f ++ body m) :=
  ⟨sum (zero2 (mraw m) 2), by unfold mbs put; rw [if_pos (mraw_place m)]; rfl⟩
theorem mraw_len (m : Ms) : (mraw m).length = if m.k = 1 then 10 else if m.k = 2 then 20 else if m.k = 3 then 18 else if m.k = 4 then 14 + 4 * m.l.length else 12 := by
  unfold mraw body
  repeat' split
  all_goals simp [b4_len, b2_len, flat_len]
  all_goals omega
/-- a message's bytes are read as it, whatever is behind -/
theorem mback {m : Ms} (hw : wfm m) (hc : mcode m = 0) (ys : List Int) :
    rkind (mbs m ++ ys) = m.k ∧ (mbs m ++ ys).getD 1 0 = 0 ∧ mrd (mbs m ++ ys) = m ∧ msz (mbs m ++ ys) = (mbs m).length ∧ modd (mbs m ++ ys) = false := by
  obtain ⟨s, e⟩ := mbs_eq m
  obtain ⟨h1, h2, h3, h4, h5, h6, h7, _, h8, h9, h10, h11, h12, h13, h14⟩ := mcode_ok hc
  obtain ⟨w1, w2, w3, w4, w5⟩ := hw
  have hl := mbs_len m
  rw [mraw_len] at hl
  have hk : rkind (mbs m ++ ys) = m.k := by rw [e]; simp [rkind, List.getD]; omega
  have d4 : (mbs m ++ ys).drop 4 = b4 m.f ++ (body m ++ ys) := by rw [e]; simp
  have d8 := drop_next d4 (b4_len _)
  have hf := ra_at d4 w1
  generalize hX : mbs m ++ ys = X at *
  have hX1 : X.getD 1 0 = 0 := by rw [← hX, e]; rfl
  rw [hX1]
  have hK : m.k = 1 ∨ m.k = 2 ∨ m.k = 3 ∨ m.k = 4 ∨ m.k = 5 := by omega
  unfold mrd msz modd
  rw [hk]
  unfold mrk mszk
  rw [hl, hf]
  clear hl hX hc hf e
  obtain ⟨k, f, t, s', g, r, c, o, l⟩ := m
  simp only [owned, body] at *
  rcases hK with rfl | rfl | rfl | rfl | rfl
  · simp at h8 h9 h10 h12 h13 h14 d8
    have e8 := rn_at d8 h4 h5
    subst h8 h9 h10 h12 h13 h14
    simp [e8]
  · simp at h11 h12 h13 h14 d8
    have e8 := ra_at d8 w2
    have d12 := drop_next d8 (b4_len _)
    have e12 := ra_at d12 w3
    have d16 := drop_next d12 (b4_len _)
    have e16 := ra_at d16 w4
    subst h11 h12 h13 h14
    simp [e8, e12, e16]
  · simp at h8 h11 h13 h14 d8
    have e8 := ra_at d8 w3
    have d12 := drop_next d8 (b4_len _)
    have e12 := ra_at d12 w4
    have d16 := drop_next d12 (b4_len _)
    have e16 := rn_at d16 h6 h7
    subst h8 h11 h13 h14
    simp [e8, e12, e16]
  · simp at h8 h9 h11 h12 d8
    have e8 := ra_at d8 w4
    have d12 := drop_next d8 (b4_len _)
    have e12 := getD_at d12
    have d13 : X.drop 13 = (l.length : Int) :: (flat l ++ ys) := drop_next (us := [if o = true then 1 else 0]) (k := 1) d12 rfl
    have e13 := getD_at d13
    have d14 : X.drop 14 = flat l ++ ys := drop_next (us := [(l.length : Int)]) (k := 1) d13 rfl
    have e14 := ras_at l X 14 ys d14 w5
    subst h8 h9 h11 h12
    simp only [e8, e12, e13, Int.toNat_natCast, e14]
    cases o <;> simp
  · simp at h8 h9 h11 h12 h13 h14 d8
    have e8 := ra_at d8 w4
    subst h8 h9 h11 h12 h13 h14
    simp [e8]
theorem mrc_of {m : Ms} (hw : wfm m) (hc : mcode m = 0) : mrc (mbs m) = 0 := by
  obtain ⟨h1, h2, h3, h4, h5⟩ := mback hw hc []
  rw [List.append_nil] at h1 h2 h3 h4 h5
  have hl := mbs_len m
  rw [mraw_len] at hl
  have hk := mcode_ok hc
  have hK : kOk m.k = true := decide_eq_true ⟨hk.1, hk.2.1⟩
  unfold mrc
  rw [mbs_sum hw hc, h1, h2, h3, h4, h5, hK, hc, if_neg, if_neg, if_neg, if_neg, if_neg, if_neg]
  all_goals first | simp; done | skip
  repeat' split at hl
  all_goals omega
theorem mbs_len10 {m : Ms} (_hc : mcode m = 0) : 10 ≤ (mbs m).length ∧ (mbs m).length ≤ 30 := by
  have hl := mbs_len m
  have := mcode_ok _hc
  rw [mraw_len] at hl
  repeat' split at hl
  all_goals omega
/-- more behind a message's bytes is none -/
theorem mrc_more {m : Ms} (hw : wfm m) (hc : mcode m = 0) {ys : List Int} (hy : ys ≠ []) : mrc (mbs m ++ ys) ≠ 0 := by
  obtain ⟨h1, h2, h3, h4, h5⟩ := mback hw hc ys
  have hp : 0 < ys.length := List.length_pos_iff.2 hy
  have hl : (mbs m).length < (mbs m ++ ys).length := by simp; omega
  unfold mrc
  rw [h4]
  repeat' split
  all_goals omega
/-- cut off it is none -/
theorem mrc_cut {m : Ms} (hw : wfm m) (hc : mcode m = 0) {c : Nat} (hlt : c < (mbs m).length) : mrc ((mbs m).take c) ≠ 0 := by
  obtain ⟨h1, _, _, h4, _⟩ := mback hw hc []
  rw [List.append_nil] at h1 h4
  have hl : ((mbs m).take c).length = c := by simp; omega
  have hm : 4 ≤ c → c < msz ((mbs m).take c) := by
    intro h
    have hk : rkind ((mbs m).take c) = m.k := by
      rw [← h1]; unfold rkind; rw [getD_take (by omega)]
    have h13 : ((mbs m).take c).getD 13 0 = if 13 < c then (mbs m).getD 13 0 else 0 := by
      split
      · rw [getD_take (by omega)]
      · unfold List.getD; rw [List.getElem?_eq_none (by omega)]; rfl
    unfold msz mszk at h4 ⊢
    rw [h1] at h4
    rw [hk, h13]
    repeat' split at h4
    all_goals repeat' split
    all_goals first | omega | (simp; omega)
  unfold mrc
  rw [hl]
  by_cases h : c < 4
  · rw [if_pos h]; omega
  · have := hm (by omega)
    rw [if_neg h]
    repeat' split
    all_goals omega
/-- with a sum that does not hold -/
theorem mrc_sum {xs : List Int} (hl : 4 ≤ xs.length) (ho : oc (tot xs) ≠ 65535) : mrc xs = 105 := by
  unfold mrc
  rw [if_neg (by omega), if_pos ho]
/- what bytes say, written again -/
theorem ra_drop4 {xs : List Int} (hb : IsB xs) {p : Nat} (h : p + 4 ≤ xs.length) : b4 (ra xs p) = (xs.drop p).take 4 := by
  have h0 := hb.at_ p
  have h1 := hb.at_ (p + 1)
  have h2 := hb.at_ (p + 2)
  have h3 := hb.at_ (p + 3)
  have e : xs.drop p = xs.getD p 0 :: xs.getD (p + 1) 0 :: xs.getD (p + 2) 0 :: xs.getD (p + 3) 0 :: xs.drop (p + 4) := by
    rw [List.drop_eq_getElem_cons (show p < xs.length by omega), List.drop_eq_getElem_cons (show p + 1 < xs.length by omega), List.drop_eq_getElem_cons (show p + 1 + 1 < xs.length by omega), List.drop_eq_getElem_cons (show p + 1 + 1 + 1 < xs.length by omega)]
    simp [List.getD, show p < xs.length by omega, show p + 1 < xs.length by omega, show p + 2 < xs.length by omega, show p + 3 < xs.length by omega]
  rw [e]
  unfold ra b4
  generalize xs.getD p 0 = a at *
  generalize xs.getD (p + 1) 0 = b at *
  generalize xs.getD (p + 2) 0 = c at *
  generalize xs.getD (p + 3) 0 = d at *
  simp
  omega
theorem rn_drop2 {xs : List Int} (hb : IsB xs) {p : Nat} (h : p + 2 ≤ xs.length) : b2 (rn xs p) = (xs.drop p).take 2 := by
  have h0 := hb.at_ p
  have h1 := hb.at_ (p + 1)
  have e : xs.drop p = xs.getD p 0 :: xs.getD (p + 1) 0 :: xs.drop (p + 2) := by
    rw [List.drop_eq_getElem_cons (show p < xs.length by omega), List.drop_eq_getElem_cons (show p + 1 < xs.length by omega)]
    simp [List.getD, show p < xs.length by omega, show p + 1 < xs.length by omega]
  rw [e]
  unfold rn b2
  generalize xs.getD p 0 = a at *
  generalize xs.getD (p + 1) 0 = b at *
  simp
  omega
theorem seg (xs : List Int) (p a b : Nat) : (xs.drop p).take a ++ (xs.drop (p + a)).take b = (xs.drop p).take (a + b) := by
  rw [← List.drop_drop, List.take_add]
theorem ras_drop {xs : List Int} (hb : IsB xs) : ∀ (n p : Nat), p + 4 * n ≤ xs.length → flat (ras xs p n) = (xs.drop p).take (4 * n)
  | 0, p, _ => by simp [ras, flat]
  | n + 1, p, h => by
    show b4 (ra xs p) ++ flat (ras xs (p + 4) n) = _
    rw [ra_drop4 hb (by omega), ras_drop hb n (p + 4) (by omega), seg]
    congr 1; omega
theorem mrc_ok {xs : List Int} (h : mrc xs = 0) : 4 ≤ xs.length ∧ oc (tot xs) = 65535 ∧ xs.getD 1 0 = 0 ∧ 1 ≤ rkind xs ∧ rkind xs ≤ 5 ∧ xs.length = msz xs ∧ modd xs = false ∧ mcode (mrd xs) = 0 := by
  unfold mrc at h
  repeat' split at h
  all_goals first | omega | skip
  rename_i h1 h2 h3 h4 h5 h6
  simp only [kOk, decide_eq_false_iff_not, Decidable.not_not] at h4
  refine ⟨by omega, by omega, by omega, h4.1, h4.2, by omega, ?_, h⟩
  cases hm : modd xs
  · rfl
  · exact absurd (.inr hm) h6
theorem cut4 {xs : List Int} (h : 4 ≤ xs.length) : xs = xs.getD 0 0 :: xs.getD 1 0 :: xs.getD 2 0 :: xs.getD 3 0 :: xs.drop 4 := by
  match xs, h with
  | a :: b :: c :: d :: r, _ => rfl
theorem body_rd {xs : List Int} (hb : IsB xs) (h : mrc xs = 0) : b4 (mrd xs).f ++ body (mrd xs) = xs.drop 4 := by
  obtain ⟨h1, _, _, h4, h5, h6, h7, h8⟩ := mrc_ok h
  have hl := (mcode_ok h8).2.2.1
  unfold msz mszk at h6
  have hK : rkind xs = 1 ∨ rkind xs = 2 ∨ rkind xs = 3 ∨ rkind xs = 4 ∨ rkind xs = 5 := by omega
  unfold mrd at hl ⊢
  unfold modd at h7
  generalize rkind xs = k at *
  have hlast : ∀ p a, p + a = xs.length → (xs.drop p).take a = xs.drop p := fun p a h => List.take_of_length_le (by simp; omega)
  unfold body mrk at *
  rcases hK with rfl | rfl | rfl | rfl | rfl
  · simp at h6 ⊢
    rw [ra_drop4 hb (by omega), rn_drop2 hb (by omega), seg, hlast _ _ (by omega)]
  · simp at h6 ⊢
    rw [ra_drop4 hb (by omega), ra_drop4 hb (by omega), ra_drop4 hb (by omega), ra_drop4 hb (by omega), seg, seg, seg, hlast _ _ (by omega)]
  · simp at h6 ⊢
    rw [ra_drop4 hb (by omega), ra_drop4 hb (by omega), ra_drop4 hb (by omega), rn_drop2 hb (by omega), seg, seg, seg, hlast _ _ (by omega)]
  · have b12 := hb.at_ 12
    have b13 := hb.at_ 13
    have e1 := rn_drop2 hb (p := 12) 
    unfold rn at e1
    generalize xs.getD 12 0 = u at *
    generalize xs.getD (12 + 1) 0 = v at *
    simp at h6 h7 ⊢
    have e1 := e1 (by omega)
    have e2 : (if u = 1 then (1 : Int) else 0) :: ((ras xs 14 v.toNat).length : Int) :: flat (ras xs 14 v.toNat) = (xs.drop 12).take (2 + 4 * v.toNat) := by
      rw [ras_len, ras_drop hb _ _ (by omega), ← seg, ← e1]
      unfold b2
      simp only [List.cons_append, List.nil_append, List.cons.injEq]
      refine ⟨?_, by omega, trivial⟩
      split <;> omega
    rw [e2, ra_drop4 hb (by omega), ra_drop4 hb (by omega), seg, seg, hlast _ _ (by omega)]
  · simp at h6 ⊢
    rw [ra_drop4 hb (by omega), ra_drop4 hb (by omega), seg, hlast _ _ (by omega)]
/-- what is read, written again, is the same but for the sum -/
theorem mrd_again {xs : List Int} (hb : IsB xs) (h : mrc xs = 0) : (mbs (mrd xs)).length = xs.length ∧ ∀ i, i ≠ 2 → i ≠ 3 → (mbs (mrd xs)).getD i 0 = xs.getD i 0 := by
  obtain ⟨h1, _, h3, _⟩ := mrc_ok h
  obtain ⟨s, e⟩ := mbs_eq (mrd xs)
  rw [body_rd hb h] at e
  have hk : (32 : Int) + (mrd xs).k = xs.getD 0 0 := by show 32 + rkind xs = _; unfold rkind; omega
  have e2 := cut4 h1
  rw [hk] at e
  rw [h3] at e2
  rw [e]
  refine ⟨by simp; omega, fun i i2 i3 => ?_⟩
  match i, i2, i3 with
  | 0, _, _ => rfl
  | 1, _, _ => rw [h3]; rfl
  | j + 4, _, _ => simp [List.getD]; congr 2; omega
theorem mbs_inj {m n : Ms} (hm : wfm m) (hn : wfm n) (cm : mcode m = 0) (cn : mcode n = 0) (h : mbs m = mbs n) : m = n := by
  obtain ⟨_, _, h1, _⟩ := mback hm cm []
  obtain ⟨_, _, h2, _⟩ := mback hn cn []
  rw [h] at h1
  exact h1.symm.trans h2
theorem sameB_eq {m n : Ms} : sameB m n = true ↔ m = n := by
  obtain ⟨k, f, t, s, g, r, c, o, l⟩ := m
  obtain ⟨k', f', t', s', g', r', c', o', l'⟩ := n
  simp [sameB, Ms.mk.injEq, and_assoc]
end Sm
end Go.Proofs.Ytnnppoamdllebaa

