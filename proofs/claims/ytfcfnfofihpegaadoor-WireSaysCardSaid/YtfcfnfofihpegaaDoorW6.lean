/- Contract of the document's own ValidMsg, over the seat's program. -/
import Derived.Test.YtfcfnfofihpegaaDoorW5
namespace Go.Proofs.YtfcfnfofihpegaaDoor
open Go.RowKit Sm
theorem ifc {p q : Prop} [Decidable p] [Decidable q] (h : p ↔ q) : (if p then (0 : Int) else 103) = if q then 0 else 103 := by
  by_cases hp : p
  · rw [if_pos hp, if_pos (h.1 hp)]
  · rw [if_neg hp, if_neg (fun x => hp (h.2 x))]
theorem mcode_in {m : Ms} (h : kOk m.k = true) (h4 : m.l.length ≤ 4) : mcode m = if cOk m.r = true ∧ cOk m.c = true ∧ (m.k = 1 ∨ gOk m.g = true) ∧ sameB m (owned m) = true then 0 else 103 := by
  unfold mcode
  rw [h, if_neg (by simp), if_neg (by omega)]
  simp only [Bool.and_eq_true, Bool.or_eq_true, beq_iff_eq, and_assoc]
section
variable (f t s g r c : Int) (o : Bool) (l : List Int) (A : Option Addr) (n c' : Nat) (w : World)
theorem in_1 (h : l.length ≤ 4) : mcode ⟨1, f, t, s, g, r, c, o, l⟩ = if cOk r = true ∧ cOk c = true ∧ c = 0 ∧ t = 0 ∧ o = false ∧ l.length = 0 ∧ g = 0 ∧ s = 0 then 0 else 103 := by
  rw [mcode_in rfl h, owned_1]
  have e : (cOk r = true ∧ cOk c = true ∧ ((⟨1, f, t, s, g, r, c, o, l⟩ : Ms).k = 1 ∨ gOk g = true) ∧ sameB ⟨1, f, t, s, g, r, c, o, l⟩ ⟨1, f, 0, 0, 0, r, 0, false, []⟩ = true) ↔ (cOk r = true ∧ cOk c = true ∧ c = 0 ∧ t = 0 ∧ o = false ∧ l.length = 0 ∧ g = 0 ∧ s = 0) := by
    unfold sameB
    simp only [decide_eq_true_eq]
    constructor
    · rintro ⟨a1, a2, a3, a4⟩
      simp_all
    · intro a
      simp_all [show cOk 0 = true from rfl]
  exact ifc e
theorem in_2 (h : l.length ≤ 4) : mcode ⟨2, f, t, s, g, r, c, o, l⟩ = if cOk r = true ∧ cOk c = true ∧ gOk g = true ∧ r = 0 ∧ c = 0 ∧ o = false ∧ l.length = 0 then 0 else 103 := by
  rw [mcode_in rfl h, owned_2]
  have e : (cOk r = true ∧ cOk c = true ∧ ((⟨2, f, t, s, g, r, c, o, l⟩ : Ms).k = 1 ∨ gOk g = true) ∧ sameB ⟨2, f, t, s, g, r, c, o, l⟩ ⟨2, f, t, s, g, 0, 0, false, []⟩ = true) ↔ (cOk r = true ∧ cOk c = true ∧ gOk g = true ∧ r = 0 ∧ c = 0 ∧ o = false ∧ l.length = 0) := by
    unfold sameB
    simp only [decide_eq_true_eq]
    constructor
    · rintro ⟨a1, a2, a3, a4⟩
      simp_all
    · intro a
      simp_all [show cOk 0 = true from rfl]
  exact ifc e
theorem in_3 (h : l.length ≤ 4) : mcode ⟨3, f, t, s, g, r, c, o, l⟩ = if cOk r = true ∧ cOk c = true ∧ gOk g = true ∧ r = 0 ∧ t = 0 ∧ o = false ∧ l.length = 0 then 0 else 103 := by
  rw [mcode_in rfl h, owned_3]
  have e : (cOk r = true ∧ cOk c = true ∧ ((⟨3, f, t, s, g, r, c, o, l⟩ : Ms).k = 1 ∨ gOk g = true) ∧ sameB ⟨3, f, t, s, g, r, c, o, l⟩ ⟨3, f, 0, s, g, 0, c, false, []⟩ = true) ↔ (cOk r = true ∧ cOk c = true ∧ gOk g = true ∧ r = 0 ∧ t = 0 ∧ o = false ∧ l.length = 0) := by
    unfold sameB
    simp only [decide_eq_true_eq]
    constructor
    · rintro ⟨a1, a2, a3, a4⟩
      simp_all
    · intro a
      simp_all [show cOk 0 = true from rfl]
  exact ifc e
theorem in_4 (h : l.length ≤ 4) : mcode ⟨4, f, t, s, g, r, c, o, l⟩ = if cOk r = true ∧ cOk c = true ∧ gOk g = true ∧ r = 0 ∧ c = 0 ∧ t = 0 ∧ s = 0 then 0 else 103 := by
  rw [mcode_in rfl h, owned_4]
  have e : (cOk r = true ∧ cOk c = true ∧ ((⟨4, f, t, s, g, r, c, o, l⟩ : Ms).k = 1 ∨ gOk g = true) ∧ sameB ⟨4, f, t, s, g, r, c, o, l⟩ ⟨4, f, 0, 0, g, 0, 0, o, l⟩ = true) ↔ (cOk r = true ∧ cOk c = true ∧ gOk g = true ∧ r = 0 ∧ c = 0 ∧ t = 0 ∧ s = 0) := by
    unfold sameB
    simp only [decide_eq_true_eq]
    constructor
    · rintro ⟨a1, a2, a3, a4⟩
      simp_all
    · intro a
      simp_all [show cOk 0 = true from rfl]
  exact ifc e
theorem in_5 (h : l.length ≤ 4) : mcode ⟨5, f, t, s, g, r, c, o, l⟩ = if cOk r = true ∧ cOk c = true ∧ gOk g = true ∧ r = 0 ∧ c = 0 ∧ t = 0 ∧ o = false ∧ l.length = 0 ∧ s = 0 then 0 else 103 := by
  rw [mcode_in rfl h, owned_5]
  have e : (cOk r = true ∧ cOk c = true ∧ ((⟨5, f, t, s, g, r, c, o, l⟩ : Ms).k = 1 ∨ gOk g = true) ∧ sameB ⟨5, f, t, s, g, r, c, o, l⟩ ⟨5, f, 0, 0, g, 0, 0, false, []⟩ = true) ↔ (cOk r = true ∧ cOk c = true ∧ gOk g = true ∧ r = 0 ∧ c = 0 ∧ t = 0 ∧ o = false ∧ l.length = 0 ∧ s = 0) := by
    unfold sameB
    simp only [decide_eq_true_eq]
    constructor
    · rintro ⟨a1, a2, a3, a4⟩
      simp_all
    · intro a
      simp_all [show cOk 0 = true from rfl]
  exact ifc e
set_option maxRecDepth 100000 in
set_option maxHeartbeats 4000000 in
theorem rvalid_1 (hg : isA g) (hl : l.length = n) (hn : n ≤ 4) :
    Calls Tryd.prog 10 #[mv ⟨1, f, t, s, g, r, c, o, l⟩ A n c'] w fun e w' => e = .returned (.int .i64 (mcode ⟨1, f, t, s, g, r, c, o, l⟩)) ∧ Below w.heap.size w w' := by
  have HV := Lib.hid (in_1 f t s g r c o l (by omega))
  try rw [hl] at HV
  have HG := Lib.hid (fun W => rgroup_any g W hg)
  have hd : decide ((4 : Int) < (n : Int)) = false := by simp; omega
  have HB := Lib.hid (fun o => (Below.refl w.heap.size w).alloc (Nat.le_refl _) o)
  have K0 := Lib.hid (show cOk 0 = true from rfl)
  unfold mv
  generalize mcode ⟨1, f, t, s, g, r, c, o, l⟩ = M at *
  clear hl hg hn
  go_enter Tryd.func10, Tryd.ntmps10
  go_wp2_with (first
    | (go_at_call 22; refine (rcost_any _ _).mono ?_; rintro e w1 ⟨rfl, rfl⟩)
    | (go_at_call 23; refine (HG.out _).mono ?_; rintro e w1 ⟨rfl, rfl⟩))
  all_goals
    go_ret
    exact ⟨ret_int (by rw [HV.out]; first | (simp [K0.out, *]; done) | (rename_i hq; simp at hq; simp [K0.out, *])), HB.out _⟩
set_option maxRecDepth 100000 in
set_option maxHeartbeats 4000000 in
theorem rvalid_2 (hg : isA g) (hl : l.length = n) (hn : n ≤ 4) :
    Calls Tryd.prog 10 #[mv ⟨2, f, t, s, g, r, c, o, l⟩ A n c'] w fun e w' => e = .returned (.int .i64 (mcode ⟨2, f, t, s, g, r, c, o, l⟩)) ∧ Below w.heap.size w w' := by
  have HV := Lib.hid (in_2 f t s g r c o l (by omega))
  try rw [hl] at HV
  have HG := Lib.hid (fun W => rgroup_any g W hg)
  have hd : decide ((4 : Int) < (n : Int)) = false := by simp; omega
  have HB := Lib.hid (fun o => (Below.refl w.heap.size w).alloc (Nat.le_refl _) o)
  have K0 := Lib.hid (show cOk 0 = true from rfl)
  unfold mv
  generalize mcode ⟨2, f, t, s, g, r, c, o, l⟩ = M at *
  clear hl hg hn
  go_enter Tryd.func10, Tryd.ntmps10
  go_wp2_with (first
    | (go_at_call 22; refine (rcost_any _ _).mono ?_; rintro e w1 ⟨rfl, rfl⟩)
    | (go_at_call 23; refine (HG.out _).mono ?_; rintro e w1 ⟨rfl, rfl⟩))
  all_goals
    go_ret
    exact ⟨ret_int (by rw [HV.out]; first | (simp [K0.out, *]; done) | (rename_i hq; simp at hq; simp [K0.out, *])), HB.out _⟩
set_option maxRecDepth 100000 in
set_option maxHeartbeats 4000000 in
theorem rvalid_3 (hg : isA g) (hl : l.length = n) (hn : n ≤ 4) :
    Calls Tryd.prog 10 #[mv ⟨3, f, t, s, g, r, c, o, l⟩ A n c'] w fun e w' => e = .returned (.int .i64 (mcode ⟨3, f, t, s, g, r, c, o, l⟩)) ∧ Below w.heap.size w w' := by
  have HV := Lib.hid (in_3 f t s g r c o l (by omega))
  try rw [hl] at HV
  have HG := Lib.hid (fun W => rgroup_any g W hg)
  have hd : decide ((4 : Int) < (n : Int)) = false := by simp; omega
  have HB := Lib.hid (fun o => (Below.refl w.heap.size w).alloc (Nat.le_refl _) o)
  have K0 := Lib.hid (show cOk 0 = true from rfl)
  unfold mv
  generalize mcode ⟨3, f, t, s, g, r, c, o, l⟩ = M at *
  clear hl hg hn
  go_enter Tryd.func10, Tryd.ntmps10
  go_wp2_with (first
    | (go_at_call 22; refine (rcost_any _ _).mono ?_; rintro e w1 ⟨rfl, rfl⟩)
    | (go_at_call 23; refine (HG.out _).mono ?_; rintro e w1 ⟨rfl, rfl⟩))
  all_goals
    go_ret
    exact ⟨ret_int (by rw [HV.out]; first | (simp [K0.out, *]; done) | (rename_i hq; simp at hq; simp [K0.out, *])), HB.out _⟩
set_option maxRecDepth 100000 in
set_option maxHeartbeats 4000000 in
theorem rvalid_4 (hg : isA g) (hl : l.length = n) (hn : n ≤ 4) :
    Calls Tryd.prog 10 #[mv ⟨4, f, t, s, g, r, c, o, l⟩ A n c'] w fun e w' => e = .returned (.int .i64 (mcode ⟨4, f, t, s, g, r, c, o, l⟩)) ∧ Below w.heap.size w w' := by
  have HV := Lib.hid (in_4 f t s g r c o l (by omega))
  try rw [hl] at HV
  have HG := Lib.hid (fun W => rgroup_any g W hg)
  have hd : decide ((4 : Int) < (n : Int)) = false := by simp; omega
  have HB := Lib.hid (fun o => (Below.refl w.heap.size w).alloc (Nat.le_refl _) o)
  have K0 := Lib.hid (show cOk 0 = true from rfl)
  unfold mv
  generalize mcode ⟨4, f, t, s, g, r, c, o, l⟩ = M at *
  clear hl hg hn
  go_enter Tryd.func10, Tryd.ntmps10
  go_wp2_with (first
    | (go_at_call 22; refine (rcost_any _ _).mono ?_; rintro e w1 ⟨rfl, rfl⟩)
    | (go_at_call 23; refine (HG.out _).mono ?_; rintro e w1 ⟨rfl, rfl⟩))
  all_goals
    go_ret
    exact ⟨ret_int (by rw [HV.out]; first | (simp [K0.out, *]; done) | (rename_i hq; simp at hq; simp [K0.out, *])), HB.out _⟩
set_option maxRecDepth 100000 in
set_option maxHeartbeats 4000000 in
theorem rvalid_5 (hg : isA g) (hl : l.length = n) (hn : n ≤ 4) :
    Calls Tryd.prog 10 #[mv ⟨5, f, t, s, g, r, c, o, l⟩ A n c'] w fun e w' => e = .returned (.int .i64 (mcode ⟨5, f, t, s, g, r, c, o, l⟩)) ∧ Below w.heap.size w w' := by
  have HV := Lib.hid (in_5 f t s g r c o l (by omega))
  try rw [hl] at HV
  have HG := Lib.hid (fun W => rgroup_any g W hg)
  have hd : decide ((4 : Int) < (n : Int)) = false := by simp; omega
  have HB := Lib.hid (fun o => (Below.refl w.heap.size w).alloc (Nat.le_refl _) o)
  have K0 := Lib.hid (show cOk 0 = true from rfl)
  unfold mv
  generalize mcode ⟨5, f, t, s, g, r, c, o, l⟩ = M at *
  clear hl hg hn
  go_enter Tryd.func10, Tryd.ntmps10
  go_wp2_with (first
    | (go_at_call 22; refine (rcost_any _ _).mono ?_; rintro e w1 ⟨rfl, rfl⟩)
    | (go_at_call 23; refine (HG.out _).mono ?_; rintro e w1 ⟨rfl, rfl⟩))
  all_goals
    go_ret
    exact ⟨ret_int (by rw [HV.out]; first | (simp [K0.out, *]; done) | (rename_i hq; simp at hq; simp [K0.out, *])), HB.out _⟩
set_option maxHeartbeats 4000000 in
theorem rvalid_many (k : Int) (hk : kOk k = true) (hl : l.length = n) (hn : 4 < n) :
    Calls Tryd.prog 10 #[mv ⟨k, f, t, s, g, r, c, o, l⟩ A n c'] w fun e w' => e = .returned (.int .i64 (mcode ⟨k, f, t, s, g, r, c, o, l⟩)) ∧ Below w.heap.size w w' := by
  have HV := Lib.hid (mcode_many (m := ⟨k, f, t, s, g, r, c, o, l⟩) hk (by show 4 < l.length; omega))
  have hd : decide ((4 : Int) < (n : Int)) = true := by simp; omega
  simp only [kOk, decide_eq_true_eq] at hk
  obtain ⟨hk1, hk2⟩ := hk
  have HB := Lib.hid (fun o => (Below.refl w.heap.size w).alloc (Nat.le_refl _) o)
  unfold mv
  generalize mcode ⟨k, f, t, s, g, r, c, o, l⟩ = M at *
  clear hl hn
  go_enter Tryd.func10, Tryd.ntmps10
  go_wp2
  go_ret
  exact ⟨ret_int HV.out.symm, HB.out _⟩
set_option maxHeartbeats 4000000 in
theorem rvalid_kind (k : Int) (hk : kOk k = false) :
    Calls Tryd.prog 10 #[mv ⟨k, f, t, s, g, r, c, o, l⟩ A n c'] w fun e w' => e = .returned (.int .i64 (mcode ⟨k, f, t, s, g, r, c, o, l⟩)) ∧ Below w.heap.size w w' := by
  have HV := Lib.hid (mcode_kind (m := ⟨k, f, t, s, g, r, c, o, l⟩) hk)
  simp only [kOk, decide_eq_false_iff_not] at hk
  have hc : decide (k < 1) = true ∨ decide (k < 1) = false ∧ decide (5 < k) = true := by
    simp only [decide_eq_true_eq, decide_eq_false_iff_not]; omega
  clear hk
  have HB := Lib.hid (fun o => (Below.refl w.heap.size w).alloc (Nat.le_refl _) o)
  unfold mv
  generalize mcode ⟨k, f, t, s, g, r, c, o, l⟩ = M at *
  rcases hc with h1 | ⟨h1, h2⟩
  all_goals
    go_enter Tryd.func10, Tryd.ntmps10
    go_wp2
    go_ret
    exact ⟨ret_int HV.out.symm, HB.out _⟩
end
theorem rvalid_any (m : Ms) (A : Option Addr) (n c : Nat) (w : World) (hw : wfm m) (hl : m.l.length = n) :
    Calls Tryd.prog 10 #[mv m A n c] w fun e w' => e = .returned (.int .i64 (mcode m)) ∧ Below w.heap.size w w' := by
  obtain ⟨k, f, t, s, g, r, c', o, l⟩ := m
  have hg : isA g := hw.2.2.2.1
  cases h : kOk k
  · exact rvalid_kind f t s g r c' o l A n c w k h
  by_cases hn : 4 < n
  · exact rvalid_many f t s g r c' o l A n c w k h hl hn
  simp only [kOk, decide_eq_true_eq] at h
  have hK : k = 1 ∨ k = 2 ∨ k = 3 ∨ k = 4 ∨ k = 5 := by omega
  rcases hK with rfl | rfl | rfl | rfl | rfl
  · exact rvalid_1 f t s g r c' o l A n c w hg hl (by omega)
  · exact rvalid_2 f t s g r c' o l A n c w hg hl (by omega)
  · exact rvalid_3 f t s g r c' o l A n c w hg hl (by omega)
  · exact rvalid_4 f t s g r c' o l A n c w hg hl (by omega)
  · exact rvalid_5 f t s g r c' o l A n c w hg hl (by omega)
end Go.Proofs.YtfcfnfofihpegaaDoor
