/- Contract of wire.Valid, over the seat's program. Condition: three errors of the project lie in their variables. -/
import Derived.Test.YtfcfnfofihpegaaDoorW3
namespace Go.Proofs.YtfcfnfofihpegaaDoor
open Go.RowKit Sm
theorem mcode_kind {m : Ms} (h : kOk m.k = false) : mcode m = 113 := by unfold mcode; rw [if_pos h]
theorem mcode_many {m : Ms} (h : kOk m.k = true) (h4 : 4 < m.l.length) : mcode m = 104 := by unfold mcode; rw [h, if_neg (by simp), if_pos h4]
theorem mcode_bad {m : Ms} (h : kOk m.k = true) (h4 : m.l.length ≤ 4) (hb : (cOk m.r && (cOk m.c && ((m.k == 1) || gOk m.g))) = false) : mcode m = 103 := by
  unfold mcode; rw [h, if_neg (by simp), if_neg (by omega), if_neg (by rw [hb]; simp)]
theorem mcode_same {m : Ms} (h : kOk m.k = true) (h4 : m.l.length ≤ 4) (hr : cOk m.r = true) (hc : cOk m.c = true) (hg : (m.k == 1) = true ∨ gOk m.g = true) : mcode m = if sameB m (owned m) = true then 0 else 103 := by
  have e : (cOk m.r && (cOk m.c && ((m.k == 1) || gOk m.g))) = true := by
    rw [hr, hc]
    rcases hg with h | h <;> rw [h] <;> simp
  unfold mcode; rw [h, e, if_neg (by simp), if_neg (by omega)]; simp
section
variable (er : Int → Value) (m : Ms) (A : Option Addr) (n c : Nat) (w : World)
set_option maxHeartbeats 2000000 in
theorem valid_kind (hE : EnvV er w) (h : kOk m.k = false) :
    Calls Tryd.prog 13 #[mv m A n c] w fun e w' => e = .returned (er (mcode m)) ∧ Below w.heap.size w w' := by
  rw [mcode_kind h]
  have hB : Below w.heap.size w (w.alloc (.cells #[.int .i64 m.k, .int .u32 m.f, .int .u32 m.t, .int .u32 m.s, .int .u32 m.g, .int .i64 m.r, .int .i64 m.c, .bool m.o, .slice A n c] 28)) := (Below.refl _ _).alloc (Nat.le_refl _) _
  have hc := (hE.below hB).2.2.1
  have hlt := World.block_lt_of_cell? w _ hE.2.2.1
  have hne : w.heap.size ≠ 0 := by simp at hlt; omega
  have hne' : 0 ≠ w.heap.size := hne.symm
  have HB := Lib.hid hB
  have H1 := Lib.hid (known_any m.k)
  rw [h] at H1
  unfold mv
  generalize er 113 = E at *
  clear hE hlt hB h
  go_enter Tryd.func13, Tryd.ntmps13
  go_wp2_with (go_at_call 30; refine (H1.out _).mono ?_; rintro e w1 ⟨rfl, rfl⟩)
  go_ret
  exact ⟨rfl, HB.out⟩
set_option maxHeartbeats 2000000 in
theorem valid_many (hE : EnvV er w) (h : kOk m.k = true) (hl : m.l.length = n) (hn : 4 < n) :
    Calls Tryd.prog 13 #[mv m A n c] w fun e w' => e = .returned (er (mcode m)) ∧ Below w.heap.size w w' := by
  rw [mcode_many h (by omega)]
  have hB : Below w.heap.size w (w.alloc (.cells #[.int .i64 m.k, .int .u32 m.f, .int .u32 m.t, .int .u32 m.s, .int .u32 m.g, .int .i64 m.r, .int .i64 m.c, .bool m.o, .slice A n c] 28)) := (Below.refl _ _).alloc (Nat.le_refl _) _
  have hc := (hE.below hB).2.2.2.1
  have hlt := World.block_lt_of_cell? w _ hE.2.2.2.1
  have hne : w.heap.size ≠ 1 := by simp at hlt; omega
  have hne' : 1 ≠ w.heap.size := hne.symm
  have HB := Lib.hid hB
  have H1 := Lib.hid (known_any m.k)
  rw [h] at H1
  have hd : decide ((4 : Int) < (n : Int)) = true := by simp; omega
  unfold mv
  generalize er 104 = E at *
  clear hE hlt hB h hl hn
  go_enter Tryd.func13, Tryd.ntmps13
  go_wp2_with (go_at_call 30; refine (H1.out _).mono ?_; rintro e w1 ⟨rfl, rfl⟩)
  go_ret
  exact ⟨rfl, HB.out⟩
set_option maxHeartbeats 2000000 in
theorem valid_bad (hE : EnvV er w) (hw : wfm m) (h : kOk m.k = true) (hl : m.l.length = n) (hn : n ≤ 4) (hb : (cOk m.r && (cOk m.c && ((m.k == 1) || gOk m.g))) = false) :
    Calls Tryd.prog 13 #[mv m A n c] w fun e w' => e = .returned (er (mcode m)) ∧ Below w.heap.size w w' := by
  rw [mcode_bad h (by omega) hb]
  have hB : Below w.heap.size w (w.alloc (.cells #[.int .i64 m.k, .int .u32 m.f, .int .u32 m.t, .int .u32 m.s, .int .u32 m.g, .int .i64 m.r, .int .i64 m.c, .bool m.o, .slice A n c] 28)) := (Below.refl _ _).alloc (Nat.le_refl _) _
  have hc := (hE.below hB).2.2.2.2
  have hlt := World.block_lt_of_cell? w _ hE.2.2.2.2
  have hne : w.heap.size ≠ 2 := by simp at hlt; omega
  have hne' : 2 ≠ w.heap.size := hne.symm
  have HB := Lib.hid hB
  have H1 := Lib.hid (known_any m.k)
  rw [h] at H1
  have hd : decide ((4 : Int) < (n : Int)) = false := by simp; omega
  have HR := Lib.hid (wfits_any m.r)
  have HC := Lib.hid (wfits_any m.c)
  have HK := Lib.hid (hasKey_any m.k)
  have HG := Lib.hid (fun W => group_any m.g W hw.2.2.2.1)
  unfold mv
  generalize er 103 = E at *
  clear hE hlt hB h hl hn hw
  have hcase : cOk m.r = false ∨ cOk m.r = true ∧ cOk m.c = false ∨ cOk m.r = true ∧ cOk m.c = true ∧ (m.k == 1) = false ∧ gOk m.g = false := by
    cases h1 : cOk m.r <;> cases h2 : cOk m.c <;> cases h3 : (m.k == 1) <;> cases h4 : gOk m.g <;> simp_all
  clear hb
  rcases hcase with h1 | ⟨h1, h2⟩ | ⟨h1, h2, h3, h4⟩
  · rw [h1] at HR
    clear h1
    go_enter Tryd.func13, Tryd.ntmps13
    go_wp2_with (go_at_call 30; refine (H1.out _).mono ?_; rintro e w1 ⟨rfl, rfl⟩)
    go_quiet ((go_at_call 31; exact (Calls.quiet_of_same ((HR.out _).mono fun _ _ hh => ⟨hh.1, hh.2.symm⟩))))
    go_wp2
    go_ret
    exact ⟨rfl, below_drewN HB.out _⟩
  · clear HR HC
    go_enter Tryd.func13, Tryd.ntmps13
    go_wp2_with (go_at_call 30; refine (H1.out _).mono ?_; rintro e w1 ⟨rfl, rfl⟩)
    go_quiet ((go_at_call 31; exact (Calls.quiet_of_same ((wfits_any _ _).mono fun _ _ hh => ⟨hh.1, hh.2.symm⟩))))
    go_wp2
    go_ret
    exact ⟨rfl, below_drewN HB.out _⟩
  · rw [h3] at HK
    rw [h4] at HG
    clear h3 h4 HR HC
    go_enter Tryd.func13, Tryd.ntmps13
    go_wp2_with (go_at_call 30; refine (H1.out _).mono ?_; rintro e w1 ⟨rfl, rfl⟩)
    go_quiet (first
     | (go_at_call 31; exact (Calls.quiet_of_same ((wfits_any _ _).mono fun _ _ hh => ⟨hh.1, hh.2.symm⟩)))
     | (go_at_call 32; exact (Calls.quiet_of_same ((HK.out _).mono fun _ _ hh => ⟨hh.1, hh.2.symm⟩)))
     | (go_at_call 33; exact (Calls.quiet_of_same ((HG.out _).mono fun _ _ hh => ⟨hh.1, hh.2.symm⟩))))
    go_wp2
    go_ret
    exact ⟨rfl, below_drewN HB.out _⟩
end
end Go.Proofs.YtfcfnfofihpegaaDoor
