/- Plain facts: an address's text is read as it; so is a valid prefix's. -/
import Derived.Test.YtcnkbhmhbbpmhaaDoorParse
import Derived.Test.YtcnkbhmhbbpmhaaDoorPrefText
namespace Go.Proofs.YtcnkbhmhbbpmhaaDoor
open Go.RowKit
namespace Ad
theorem idx_hit (c : UInt8) (r : List UInt8) : ∀ l : List UInt8, (∀ x ∈ l, x ≠ c) → Lib.index (l ++ c :: r) [c] = l.length
  | [], _ => by simp [Lib.index]
  | b :: l, h => by
    have hb : ¬ c = b := fun e => h b (by simp) e.symm
    have ih := idx_hit c r l (fun x hx => h x (by simp [hx]))
    rw [List.cons_append, Lib.index, ih]
    simp [hb]
theorem idx_miss (c : UInt8) : ∀ l : List UInt8, (∀ x ∈ l, x ≠ c) → Lib.index l [c] = -1
  | [], _ => by simp [Lib.index]
  | b :: l, h => by
    have hb : ¬ c = b := fun e => h b (by simp) e.symm
    have ih := idx_miss c l (fun x hx => h x (by simp [hx]))
    rw [Lib.index, ih]
    simp [hb]
theorem splitK_hit (c : UInt8) (k : Nat) (l r : List UInt8) (h : ∀ x ∈ l, x ≠ c) : Lib.splitK [c] 0 (k + 1) (l ++ c :: r) = l :: Lib.splitK [c] 0 k r := by
  have hne : ¬ (((l.length : Nat) : Int) == -1) = true := by simp
  rw [Lib.splitK, idx_hit c r l h, if_neg hne]
  simp
theorem splitK_miss (c : UInt8) (k : Nat) (l : List UInt8) (h : ∀ x ∈ l, x ≠ c) : Lib.splitK [c] 0 k l = [l] := by
  cases k with
  | zero => rfl
  | succ k => simp [Lib.splitK, idx_miss c l h]
theorem cut_hit (c : UInt8) (l r : List UInt8) (h : ∀ x ∈ l, x ≠ c) : Lib.cut (l ++ c :: r) [c] = (l, r, true) := by
  unfold Lib.cut
  rw [idx_hit c r l h, if_pos (by omega)]
  simp
theorem cut_miss (c : UInt8) (l : List UInt8) (h : ∀ x ∈ l, x ≠ c) : Lib.cut l [c] = (l, [], false) := by
  unfold Lib.cut
  rw [idx_miss c l h, if_neg (by omega)]
theorem dec_step {u : Nat} (h : ¬ u < 10) : Lib.decDigits u = Lib.decDigits (u / 10) ++ [UInt8.ofNat (48 + u % 10)] := by
  rw [Lib.decDigits, dif_neg h]
theorem toNat_dig (d : Nat) (h : d < 10) : (UInt8.ofNat (48 + d)).toNat = 48 + d := by
  rw [UInt8.toNat_ofNat']; omega
theorem dig_ok (d : Nat) (h : d < 10) : isDig (UInt8.ofNat (48 + d)) = true := by unfold isDig; rw [toNat_dig d h]; simp; omega
theorem dec_all : ∀ (u : Nat), (Lib.decDigits u).all isDig = true := by
  intro u
  induction u using Nat.strongRecOn with
  | ind u ih =>
    by_cases h : u < 10
    · rw [Lib.decDigits_one h]
      show (isDig (UInt8.ofNat (48 + u)) && true) = true
      rw [dig_ok u h]; rfl
    · rw [dec_step h, List.all_append, ih (u / 10) (by omega)]
      show (true && (isDig (UInt8.ofNat (48 + u % 10)) && true)) = true
      rw [dig_ok (u % 10) (by omega)]; rfl
theorem dec_val : ∀ (u : Nat), val (Lib.decDigits u) = u := by
  intro u
  induction u using Nat.strongRecOn with
  | ind u ih =>
    by_cases h : u < 10
    · rw [Lib.decDigits_one h]
      show 10 * 0 + ((UInt8.ofNat (48 + u)).toNat - 48) = u
      rw [toNat_dig u h]; omega
    · rw [dec_step h, val_snoc, ih (u / 10) (by omega), toNat_dig (u % 10) (by omega)]
      omega
theorem dec_head : ∀ (u : Nat), 0 < u → (Lib.decDigits u).headD 0 ≠ 48 ∧ Lib.decDigits u ≠ [] := by
  intro u
  induction u using Nat.strongRecOn with
  | ind u ih =>
    intro hu
    by_cases h : u < 10
    · rw [Lib.decDigits_one h]
      refine ⟨fun e => ?_, by simp⟩
      have e' : UInt8.ofNat (48 + u) = 48 := e
      have := congrArg UInt8.toNat e'
      rw [toNat_dig u h] at this
      have h2 : (48 : UInt8).toNat = 48 := rfl
      omega
    · have h1 := ih (u / 10) (by omega) (by omega)
      rw [dec_step h]
      refine ⟨?_, by simp⟩
      cases hd : Lib.decDigits (u / 10) with
      | nil => exact absurd hd h1.2
      | cons x r => rw [hd] at h1; exact h1.1
theorem dec_len {u : Nat} (h : u < 1000) : 1 ≤ (Lib.decDigits u).length ∧ (Lib.decDigits u).length ≤ 3 := by
  rw [Lib.decDigits_length]
  refine ⟨Lib.nDigits_pos u, ?_⟩
  rw [Lib.nDigits]
  split
  · omega
  · rw [Lib.nDigits]
    split
    · omega
    · rw [Lib.nDigits_small (by omega)]
      omega
theorem dec_numOk {u : Nat} (h : u < 1000) : numOk (Lib.decDigits u) = true := by
  unfold numOk
  have h1 := dec_len h
  rw [dec_all u]
  rcases Nat.eq_zero_or_pos u with h0 | h0
  · subst h0; rw [Lib.decDigits_one (by decide)]; rfl
  · have h2 := (dec_head u h0).1
    have e1 : decide (1 ≤ (Lib.decDigits u).length ∧ (Lib.decDigits u).length ≤ 3) = true := by simpa using h1
    have e2 : decide ((Lib.decDigits u).headD 0 = 48) = false := by simpa using h2
    rw [e1, e2]; simp
theorem itoa_nat {n : Int} (h : 0 ≤ n) : Lib.itoa n = Lib.decDigits n.toNat := by unfold Lib.itoa; rw [if_neg (by omega)]
theorem itoa_yes {n m : Int} (h0 : 0 ≤ n) (h1 : n ≤ 255) (hm : n ≤ m) : numYes (Lib.itoa n) m = true ∧ (val (Lib.itoa n) : Int) = n := by
  have e : (val (Lib.itoa n) : Int) = n := by rw [itoa_nat h0, dec_val]; omega
  refine ⟨?_, e⟩
  unfold numYes
  rw [e, itoa_nat h0, dec_numOk (by omega)]
  simpa using hm
theorem itoa_no {n : Int} (h0 : 0 ≤ n) (c : UInt8) (hc : c.toNat < 48) : ∀ x ∈ Lib.itoa n, x ≠ c := by
  intro x hx e
  rw [itoa_nat h0] at hx
  have := List.all_eq_true.1 (dec_all n.toNat) x hx
  subst e
  simp [isDig] at this
  omega
theorem b_bd {a : Int} (h0 : 0 ≤ a) (h1 : a ≤ 4294967295) : (0 ≤ b0 a ∧ b0 a ≤ 255) ∧ (0 ≤ b1 a ∧ b1 a ≤ 255) ∧ (0 ≤ b2 a ∧ b2 a ≤ 255) ∧ (0 ≤ b3 a ∧ b3 a ≤ 255) := by
  unfold b0 b1 b2 b3; omega
theorem textL_eq (a : Int) : textL a = Lib.itoa (b0 a) ++ 46 :: (Lib.itoa (b1 a) ++ 46 :: (Lib.itoa (b2 a) ++ 46 :: Lib.itoa (b3 a))) := by
  unfold textL
  rw [Lib.join_cons]
  simp [Lib.joinTail]
theorem bytes_of_list {b : ByteArray} {l : List UInt8} (h : b.data.toList = l) : b = ⟨l.toArray⟩ := by
  subst h; rfl
theorem itoa_pos {n : Int} (h0 : 0 ≤ n) : 1 ≤ (Lib.itoa n).length := by
  rw [itoa_nat h0, Lib.decDigits_length]; exact Lib.nDigits_pos _
theorem parts_text {a : Int} (h0 : 0 ≤ a) (h1 : a ≤ 4294967295) : parts (text a) = [num (b0 a), num (b1 a), num (b2 a), num (b3 a)] := by
  have hb := b_bd h0 h1
  have hs : 5 ≤ (text a).size + 1 := by
    have e : (text a).size = (textL a).length := by unfold text; simp [ByteArray.size]
    rw [e, textL_eq]
    have := itoa_pos hb.1.1
    simp
    omega
  have hm : min 5 ((text a).size + 1) - 1 = 4 := by omega
  have hd := Lib.splitB_data ⟨#[46]⟩ 0 4 (text a)
  have e2 : (text a).data.toList = textL a := by unfold text; rfl
  rw [e2, textL_eq] at hd
  have n0 := itoa_no hb.1.1 46 (by decide)
  have n1 := itoa_no hb.2.1.1 46 (by decide)
  have n2 := itoa_no hb.2.2.1.1 46 (by decide)
  have n3 := itoa_no hb.2.2.2.1 46 (by decide)
  have e3 : (⟨#[46]⟩ : ByteArray).data.toList = [46] := rfl
  rw [e3, splitK_hit 46 3 _ _ n0, splitK_hit 46 2 _ _ n1, splitK_hit 46 1 _ _ n2, splitK_miss 46 1 _ n3] at hd
  unfold parts
  rw [hm]
  generalize Lib.splitB ⟨#[46]⟩ 0 4 (text a) = ps at hd
  have hl : ps.length = 4 := by have := congrArg List.length hd; simpa using this
  match ps, hl, hd with
  | [p0, p1, p2, p3], _, hd =>
    simp only [List.map_cons, List.map_nil, List.cons.injEq, and_true] at hd
    obtain ⟨e0, e1, e2, e3⟩ := hd
    rw [bytes_of_list e0, bytes_of_list e1, bytes_of_list e2, bytes_of_list e3]
    rfl
theorem byte_num {n : Int} (h0 : 0 ≤ n) (h1 : n ≤ 255) : byteYes (num n) = true ∧ byteV (num n) = n := by
  have := itoa_yes h0 h1 h1 (m := 255)
  exact ⟨(itoa_yes h0 h1 h1 (m := 255)).1, this.2⟩
theorem parse_text {a : Int} (h0 : 0 ≤ a) (h1 : a ≤ 4294967295) : parse (text a) = some a := by
  have hb := b_bd h0 h1
  have p0 := byte_num hb.1.1 hb.1.2
  have p1 := byte_num hb.2.1.1 hb.2.1.2
  have p2 := byte_num hb.2.2.1.1 hb.2.2.1.2
  have p3 := byte_num hb.2.2.2.1 hb.2.2.2.2
  unfold parse
  rw [parts_text h0 h1, parseL_if, p0.1, p1.1, p2.1, p3.1, p0.2, p1.2, p2.2, p3.2]
  unfold b0 b1 b2 b3
  simp
  omega
theorem text_inj {a b : Int} (h0 : 0 ≤ a) (h1 : a ≤ 4294967295) (g0 : 0 ≤ b) (g1 : b ≤ 4294967295) (h : text a = text b) : a = b := by
  have e1 := parse_text h0 h1
  rw [h, parse_text g0 g1] at e1
  exact (Option.some.inj e1).symm
theorem textL_no {a : Int} (h0 : 0 ≤ a) (h1 : a ≤ 4294967295) : ∀ x ∈ textL a, x ≠ 47 := by
  have hb := b_bd h0 h1
  intro x hx
  rw [textL_eq] at hx
  simp only [List.mem_append, List.mem_cons] at hx
  rcases hx with hx | rfl | hx | rfl | hx | rfl | hx
  · exact itoa_no hb.1.1 47 (by decide) x hx
  · decide
  · exact itoa_no hb.2.1.1 47 (by decide) x hx
  · decide
  · exact itoa_no hb.2.2.1.1 47 (by decide) x hx
  · decide
  · exact itoa_no hb.2.2.2.1 47 (by decide) x hx
theorem cut_pfx {a b : Int} (h0 : 0 ≤ a) (h1 : a ≤ 4294967295) : cut1 (pfx a b) = text a ∧ cut2 (pfx a b) = num b := by
  have e : (pfx a b).data.toList = textL a ++ 47 :: Lib.itoa b := rfl
  unfold cut1 cut2
  rw [e, cut_hit 47 _ _ (textL_no h0 h1)]
  exact ⟨rfl, rfl⟩
theorem cut_text {a : Int} (h0 : 0 ≤ a) (h1 : a ≤ 4294967295) : cut1 (text a) = text a ∧ cut2 (text a) = ⟨#[]⟩ := by
  have e : (text a).data.toList = textL a := rfl
  unfold cut1 cut2
  rw [e, cut_miss 47 _ (textL_no h0 h1)]
  exact ⟨rfl, rfl⟩
theorem pref_pfx {a b : Int} (h0 : 0 ≤ a) (h1 : a ≤ 4294967295) (hb0 : 0 ≤ b) (hb1 : b ≤ 32) : pref (pfx a b) = if valid a b then some (a, b) else none := by
  have h := itoa_yes hb0 (by omega) hb1
  have e : (num b).data.toList = Lib.itoa b := rfl
  unfold pref
  rw [(cut_pfx h0 h1).1, parse_text h0 h1]
  show (if numYes (cut2 (pfx a b)).data.toList 32 && valid a (val (cut2 (pfx a b)).data.toList) then some (a, (val (cut2 (pfx a b)).data.toList : Int)) else none) = _
  rw [(cut_pfx h0 h1).2, e, h.1, h.2, Bool.true_and]
theorem pref_text {a : Int} (h0 : 0 ≤ a) (h1 : a ≤ 4294967295) : pref (text a) = none := by
  unfold pref
  rw [(cut_text h0 h1).1, parse_text h0 h1]
  show (if numYes (cut2 (text a)).data.toList 32 && valid a (val (cut2 (text a)).data.toList) then some (a, (val (cut2 (text a)).data.toList : Int)) else none) = _
  rw [(cut_text h0 h1).2]
  rfl
end Ad
end Go.Proofs.YtcnkbhmhbbpmhaaDoor
