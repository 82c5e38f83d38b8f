/- Contract of wire.Read, over the seat's program. Condition: six errors of the project lie in their variables. -/
import Derived.Test.YtfcfnfofihpegaaDoorW13
namespace Go.Proofs.YtfcfnfofihpegaaDoor
open Go.RowKit Sm
theorem msg_any (B N : Nat) (k : Int) (xs : List Int) (w : World) (h : RS B w N xs 4 false) (h1 : 1 ≤ k) (h5 : k ≤ 5) :
    Calls Tryd.prog 42 #[.pointer (some ⟨N, 0, none⟩), .int .i64 k] w (msgOf B N k xs w) := by
  have hK : k = 1 ∨ k = 2 ∨ k = 3 ∨ k = 4 ∨ k = 5 := by omega
  rcases hK with rfl | rfl | rfl | rfl | rfl
  · exact msg_1 B N xs w h
  · exact msg_2 B N xs w h
  · exact msg_3 B N xs w h
  · exact msg_4 B N xs w h
  · exact msg_5 B N xs w h
theorem pos_of {n n5 s l : Nat} {k x : Int} (_hn : n = l) (h5 : n5 = l - s) (hp : s < l ∨ decide (k = 4 ∧ 1 < x) = true) : 0 < n5 ∨ n5 = 0 ∧ decide (k = 4 ∧ 1 < x) = true := by
  by_cases h : 0 < n5
  · exact .inl h
  · refine .inr ⟨by omega, ?_⟩
    rcases hp with h1 | h1
    · omega
    · exact h1
theorem msz_ge (xs : List Int) : 10 ≤ msz xs := by
  unfold msz mszk
  repeat' split
  all_goals omega
set_option maxHeartbeats 4000000 in
theorem wread_bad (er : Int → Value) (A : Option Addr) (n c : Nat) (xs : List Int) (w : World) (hE : EnvM er w) (h : BR w A n xs) (hn : n ≤ 1048576) (_hcap : n ≤ c) (hd : hdc xs ≠ 0) :
    Calls Tryd.prog 18 #[.slice A n c] w fun e w' => e = .returned (.tuple #[mv mz none 0 0, er (hdc xs)]) ∧ Below w.heap.size w w' := by
  have hl := h.len
  have hB0 : Below w.heap.size w (w.alloc (.cells #[.int .i64 0, .int .u32 0, .int .u32 0, .int .u32 0, .int .u32 0, .int .i64 0, .int .i64 0, .bool false, .slice none 0 0] 28)) := (Below.refl _ _).alloc (Nat.le_refl _) _
  have hR0 := Blk.new w 28 #[.int .i64 0, .int .u32 0, .int .u32 0, .int .u32 0, .int .u32 0, .int .i64 0, .int .i64 0, .bool false, .slice none 0 0]
  have HH := readHead_any er A n c xs _ (hE.below hB0) (h.next hB0) hn
  unfold headOf hdk at HH
  obtain ⟨ea, hea⟩ := hE.ev (c := hdc xs) (by have := hdc_cases xs; omega)
  rw [if_neg hd, hea] at HH
  rw [hea]
  unfold ev at *
  unfold mv mz
  have HB0 := Lib.hid hB0
  have HR0 := Lib.hid hR0
  clear hE h hn _hcap hd hl hea hB0 hR0
  go_enter Tryd.func18, Tryd.ntmps18
  go_wp2_with fail
  refine HH.mono ?_
  rintro e w1 ⟨rfl, hb⟩
  have hr := HR0.out.next hb
  have HB1 := Lib.hid (below_next HB0.out hb)
  have t0 : w1.cell? ⟨w.heap.size, 0, none⟩ = _ := hr.cell 0
  have t1 : w1.cell? ⟨w.heap.size, 1, none⟩ = _ := hr.cell 1
  have t2 : w1.cell? ⟨w.heap.size, 2, none⟩ = _ := hr.cell 2
  have t3 : w1.cell? ⟨w.heap.size, 3, none⟩ = _ := hr.cell 3
  have t4 : w1.cell? ⟨w.heap.size, 4, none⟩ = _ := hr.cell 4
  have t5 : w1.cell? ⟨w.heap.size, 5, none⟩ = _ := hr.cell 5
  have t6 : w1.cell? ⟨w.heap.size, 6, none⟩ = _ := hr.cell 6
  have t7 : w1.cell? ⟨w.heap.size, 7, none⟩ = _ := hr.cell 7
  have t8 : w1.cell? ⟨w.heap.size, 8, none⟩ = _ := hr.cell 8
  have g0 : w1.frozen? ⟨w.heap.size, 0, none⟩ = false := hr.frozen 0
  have g1 : w1.frozen? ⟨w.heap.size, 1, none⟩ = false := hr.frozen 1
  have g2 : w1.frozen? ⟨w.heap.size, 2, none⟩ = false := hr.frozen 2
  have g3 : w1.frozen? ⟨w.heap.size, 3, none⟩ = false := hr.frozen 3
  have g4 : w1.frozen? ⟨w.heap.size, 4, none⟩ = false := hr.frozen 4
  have g5 : w1.frozen? ⟨w.heap.size, 5, none⟩ = false := hr.frozen 5
  have g6 : w1.frozen? ⟨w.heap.size, 6, none⟩ = false := hr.frozen 6
  have g7 : w1.frozen? ⟨w.heap.size, 7, none⟩ = false := hr.frozen 7
  have g8 : w1.frozen? ⟨w.heap.size, 8, none⟩ = false := hr.frozen 8
  clear hb hr
  go_wp2
  have hbf := nine (P := fun W => Below w.heap.size w W) (fun W hW i u => hW.setCell (Nat.le_refl _) u) HB1.out
  refine bodyPost_ret (v := .tuple #[.agg #[.int .i64 0, .int .u32 0, .int .u32 0, .int .u32 0, .int .u32 0, .int .i64 0, .int .i64 0, .bool false, .slice none 0 0], .iface 100 (.pointer (some ea))]) (by simp [results, Tryd.results18, go_sem, t0, t1, t2, t3, t4, t5, t6, t7, t8]) rfl ?_
  exact ⟨rfl, hbf _ _ _ _ _ _ _ _ _⟩
set_option maxHeartbeats 4000000 in
theorem wread_end4 (er : Int → Value) (A : Option Addr) (n c : Nat) (xs : List Int) (w : World) (hE : EnvM er w) (h : BR w A n xs) (hn : n ≤ 1048576) (hcap : n ≤ c) (h4c : c = 4) (hd : hdc xs = 0) (hs : xs.length < msz xs) :
    Calls Tryd.prog 18 #[.slice A n c] w fun e w' => e = .returned (.tuple #[mv mz none 0 0, er (101)]) ∧ Below w.heap.size w w' := by
  have hl := h.len
  have hB0 : Below w.heap.size w (w.alloc (.cells #[.int .i64 0, .int .u32 0, .int .u32 0, .int .u32 0, .int .u32 0, .int .i64 0, .int .i64 0, .bool false, .slice none 0 0] 28)) := (Below.refl _ _).alloc (Nat.le_refl _) _
  have hR0 := Blk.new w 28 #[.int .i64 0, .int .u32 0, .int .u32 0, .int .u32 0, .int .u32 0, .int .i64 0, .int .i64 0, .bool false, .slice none 0 0]
  have HH := readHead_any er A n c xs _ (hE.below hB0) (h.next hB0) hn
  unfold headOf hdk at HH
  obtain ⟨hl4, hk1, hk5, hmrc⟩ := hdc_ok hd
  rw [if_pos hd, hd, hE.1.1] at HH
  obtain ⟨b, o, rfl, hlt, hcell⟩ := h.2.2 (by omega)
  have HIB := Lib.hid h.isB
  have HCELL := Lib.hid hcell
  have HB0 := Lib.hid hB0
  have HR0 := Lib.hid hR0
  have HE := Lib.hid hE
  have HK1 := Lib.hid hk1
  have HK5 := Lib.hid hk5
  have HL := Lib.hid hl
  have HS := Lib.hid hs
  have hi4 : (4 : Int) ≤ (c : Int) := by omega
  have hn4 : (4 : Int) ≤ (n : Int) := by omega
  have hz : (0 : Int) ≤ 4 := by omega
  have hnl : n = xs.length := by omega
  have HNL := Lib.hid hnl
  have HL4 := Lib.hid hl4
  have HCAP := Lib.hid hcap
  have HLT := Lib.hid hlt
  unfold mv mz
  clear hE h hd hl hl4 hk1 hk5 hmrc hcell hlt hB0 hR0 hs hnl
  generalize hkk : rkind xs = k at *
  have HKK := Lib.hid hkk
  clear hkk
  subst h4c
  clear hcap
  go_enter Tryd.func18, Tryd.ntmps18
  go_wp2_with fail
  refine HH.mono ?_
  rintro e w1 ⟨rfl, hb⟩
  have hr := HR0.out.next hb
  have HB1 := Lib.hid (below_next HB0.out hb)
  have HR1 := Lib.hid hr
  have hRl := hr.lt
  clear hb hr
  go_wp2_with fail
  have hrs : RS w.heap.size (w1.alloc (.cells #[.slice (some ⟨b, o, none⟩) (n - 4) 0, .bool false, .bool false] 70)) w1.heap.size xs 4 false := by
    have h1 := HNL.out
    have h2 := HL4.out
    have h3 := HCAP.out
    have h0 : decide (xs.length < 4) = false := by simp; omega
    refine ⟨Nat.le_of_lt hRl, HIB.out, some ⟨b, o, none⟩, n - 4, 0, by rw [h0]; exact Blk.new w1 _ _, by omega, by omega, fun hh => ?_⟩
    have h5 : n = 4 := by omega
    omega
  have hB2 : Below w.heap.size w (w1.alloc (.cells #[.slice (some ⟨b, o, none⟩) (n - 4) 0, .bool false, .bool false] 70)) := HB1.out.alloc HB1.out.size _
  have hR2 := HR1.out.alloc (.cells #[.slice (some ⟨b, o, none⟩) (n - 4) 0, .bool false, .bool false] 70)
  refine (msg_any w.heap.size w1.heap.size k xs _ hrs HK1.out HK5.out).mono ?_
  rintro e w3 ⟨A', n', c', rfl, har, hab, hrs3, hg3⟩
  generalize hmm : mrk k xs = m at *
  have HMM := Lib.hid hmm
  clear hmm
  unfold mv
  have hB3 := hB2.trans (only_below hg3 (Nat.le_of_lt hRl) hB2.size)
  have hR3 := hR2.only hg3 (by intro e; have := Option.some.inj e; omega)
  have hE3 := HE.out.below hB3
  obtain ⟨_, _, A5, n5, c5, hblk, hn5, _, _⟩ := hrs3
  have hNl := hblk.lt
  have q1 : w1.heap.size ≠ w3.heap.size := by omega
  have q1' := q1.symm
  have q2 : w.heap.size ≠ w3.heap.size := by omega
  have q2' := q2.symm
  have q5 : w.heap.size < w3.heap.size := by omega
  have hds : decide (xs.length < mszk k xs) = true := by have := HS.out; unfold msz at this; rw [HKK.out] at this; simp; omega
  have x1 : w3.cell? ⟨w1.heap.size, 1, none⟩ = some (.bool true) := hds ▸ hblk.cell 1
  have hce := hE3.2.2.1
  have hcl := World.block_lt_of_cell? w _ (HE.out.2.2.1)
  have hcl3 := World.block_lt_of_cell? w3 _ hce
  simp only at hcl hcl3
  have q3 : 3 ≠ w3.heap.size := by omega
  have q3' := q3.symm
  have q4 : 3 ≠ w.heap.size := by omega
  have q4' := q4.symm
  have HB4 := Lib.hid (hB3.alloc hB3.size (.cells #[.int .i64 m.k, .int .u32 m.f, .int .u32 m.t, .int .u32 m.s, .int .u32 m.g, .int .i64 m.r, .int .i64 m.c, .bool m.o, .slice A' n' c'] 28))
  have HR4 := Lib.hid (hR3.alloc (.cells #[.int .i64 m.k, .int .u32 m.f, .int .u32 m.t, .int .u32 m.s, .int .u32 m.g, .int .i64 m.r, .int .i64 m.c, .bool m.o, .slice A' n' c'] 28))
  have HC4' := Lib.hid (keepc hce ((Below.refl w3.heap.size w3).alloc (Nat.le_refl _) (.cells #[.int .i64 m.k, .int .u32 m.f, .int .u32 m.t, .int .u32 m.s, .int .u32 m.g, .int .i64 m.r, .int .i64 m.c, .bool m.o, .slice A' n' c'] 28)))
  generalize hEE : er 101 = E at *
  have HEE := Lib.hid hEE
  clear hEE
  clear hblk hR3 hE3 hB3 hB2 hR2 hg3 hrs har hab hds hcl hn5 hRl HMM HH
  go_wp2_with fail
  generalize w3.alloc (.cells #[.int .i64 m.k, .int .u32 m.f, .int .u32 m.t, .int .u32 m.s, .int .u32 m.g, .int .i64 m.r, .int .i64 m.c, .bool m.o, .slice A' n' c'] 28) = W4 at *
  clear x1 q1 q1' q2 q2' q3 q3' q5 hce hcl3 HB1 HR1 HE hNl
  have hce := HC4'.out
  have t0 : W4.cell? ⟨w.heap.size, 0, none⟩ = _ := HR4.out.cell 0
  have t1 : W4.cell? ⟨w.heap.size, 1, none⟩ = _ := HR4.out.cell 1
  have t2 : W4.cell? ⟨w.heap.size, 2, none⟩ = _ := HR4.out.cell 2
  have t3 : W4.cell? ⟨w.heap.size, 3, none⟩ = _ := HR4.out.cell 3
  have t4 : W4.cell? ⟨w.heap.size, 4, none⟩ = _ := HR4.out.cell 4
  have t5 : W4.cell? ⟨w.heap.size, 5, none⟩ = _ := HR4.out.cell 5
  have t6 : W4.cell? ⟨w.heap.size, 6, none⟩ = _ := HR4.out.cell 6
  have t7 : W4.cell? ⟨w.heap.size, 7, none⟩ = _ := HR4.out.cell 7
  have t8 : W4.cell? ⟨w.heap.size, 8, none⟩ = _ := HR4.out.cell 8
  have g0 : W4.frozen? ⟨w.heap.size, 0, none⟩ = false := HR4.out.frozen 0
  have g1 : W4.frozen? ⟨w.heap.size, 1, none⟩ = false := HR4.out.frozen 1
  have g2 : W4.frozen? ⟨w.heap.size, 2, none⟩ = false := HR4.out.frozen 2
  have g3 : W4.frozen? ⟨w.heap.size, 3, none⟩ = false := HR4.out.frozen 3
  have g4 : W4.frozen? ⟨w.heap.size, 4, none⟩ = false := HR4.out.frozen 4
  have g5 : W4.frozen? ⟨w.heap.size, 5, none⟩ = false := HR4.out.frozen 5
  have g6 : W4.frozen? ⟨w.heap.size, 6, none⟩ = false := HR4.out.frozen 6
  have g7 : W4.frozen? ⟨w.heap.size, 7, none⟩ = false := HR4.out.frozen 7
  have g8 : W4.frozen? ⟨w.heap.size, 8, none⟩ = false := HR4.out.frozen 8
  go_region
  go_wp2
  have hbf := nine (P := fun W => Below w.heap.size w W) (fun W hW i u => hW.setCell (Nat.le_refl _) u) HB4.out
  refine bodyPost_ret (v := .tuple #[.agg #[.int .i64 0, .int .u32 0, .int .u32 0, .int .u32 0, .int .u32 0, .int .i64 0, .int .i64 0, .bool false, .slice none 0 0], E]) (by simp [results, Tryd.results18, go_sem, t0, t1, t2, t3, t4, t5, t6, t7, t8]) rfl ?_
  exact ⟨by rw [HEE.out], by first | exact (hbf _ _ _ _ _ _ _ _ _).drew | exact hbf _ _ _ _ _ _ _ _ _⟩
set_option maxHeartbeats 4000000 in
theorem wread_end5 (er : Int → Value) (A : Option Addr) (n c : Nat) (xs : List Int) (w : World) (hE : EnvM er w) (h : BR w A n xs) (hn : n ≤ 1048576) (hcap : n ≤ c) (h4c : ¬ c = 4) (hd : hdc xs = 0) (hs : xs.length < msz xs) :
    Calls Tryd.prog 18 #[.slice A n c] w fun e w' => e = .returned (.tuple #[mv mz none 0 0, er (101)]) ∧ Below w.heap.size w w' := by
  have hl := h.len
  have hB0 : Below w.heap.size w (w.alloc (.cells #[.int .i64 0, .int .u32 0, .int .u32 0, .int .u32 0, .int .u32 0, .int .i64 0, .int .i64 0, .bool false, .slice none 0 0] 28)) := (Below.refl _ _).alloc (Nat.le_refl _) _
  have hR0 := Blk.new w 28 #[.int .i64 0, .int .u32 0, .int .u32 0, .int .u32 0, .int .u32 0, .int .i64 0, .int .i64 0, .bool false, .slice none 0 0]
  have HH := readHead_any er A n c xs _ (hE.below hB0) (h.next hB0) hn
  unfold headOf hdk at HH
  obtain ⟨hl4, hk1, hk5, hmrc⟩ := hdc_ok hd
  rw [if_pos hd, hd, hE.1.1] at HH
  obtain ⟨b, o, rfl, hlt, hcell⟩ := h.2.2 (by omega)
  have HIB := Lib.hid h.isB
  have HCELL := Lib.hid hcell
  have HB0 := Lib.hid hB0
  have HR0 := Lib.hid hR0
  have HE := Lib.hid hE
  have HK1 := Lib.hid hk1
  have HK5 := Lib.hid hk5
  have HL := Lib.hid hl
  have HS := Lib.hid hs
  have hi4 : (4 : Int) ≤ (c : Int) := by omega
  have hn4 : (4 : Int) ≤ (n : Int) := by omega
  have hz : (0 : Int) ≤ 4 := by omega
  have hnl : n = xs.length := by omega
  have HNL := Lib.hid hnl
  have HL4 := Lib.hid hl4
  have HCAP := Lib.hid hcap
  have HLT := Lib.hid hlt
  unfold mv mz
  clear hE h hd hl hl4 hk1 hk5 hmrc hcell hlt hB0 hR0 hs hnl
  generalize hkk : rkind xs = k at *
  have HKK := Lib.hid hkk
  clear hkk
  have HC4 := Lib.hid h4c
  clear hcap
  go_enter Tryd.func18, Tryd.ntmps18
  go_wp2_with fail
  refine HH.mono ?_
  rintro e w1 ⟨rfl, hb⟩
  have hr := HR0.out.next hb
  have HB1 := Lib.hid (below_next HB0.out hb)
  have HR1 := Lib.hid hr
  have hRl := hr.lt
  clear hb hr
  go_wp2_with fail
  have hrs : RS w.heap.size (w1.alloc (.cells #[.slice (some ⟨b, o + 4, none⟩) (n - 4) (c - 4), .bool false, .bool false] 70)) w1.heap.size xs 4 false := by
    have h1 := HNL.out
    have h2 := HL4.out
    have h3 := HCAP.out
    have h0 : decide (xs.length < 4) = false := by simp; omega
    refine ⟨Nat.le_of_lt hRl, HIB.out, some ⟨b, o + 4, none⟩, n - 4, (c - 4), by rw [h0]; exact Blk.new w1 _ _, by omega, by omega, fun hh => ?_⟩
    refine ⟨b, o + 4, rfl, HLT.out, fun i hi => ?_⟩
    have hcc := HCELL.out (4 + i) (by omega)
    rw [← Nat.add_assoc] at hcc
    exact keepc (keepc hcc HB1.out) ((Below.refl _ _).alloc (Nat.le_refl _) _)
  have hB2 : Below w.heap.size w (w1.alloc (.cells #[.slice (some ⟨b, o + 4, none⟩) (n - 4) (c - 4), .bool false, .bool false] 70)) := HB1.out.alloc HB1.out.size _
  have hR2 := HR1.out.alloc (.cells #[.slice (some ⟨b, o + 4, none⟩) (n - 4) (c - 4), .bool false, .bool false] 70)
  refine (msg_any w.heap.size w1.heap.size k xs _ hrs HK1.out HK5.out).mono ?_
  rintro e w3 ⟨A', n', c', rfl, har, hab, hrs3, hg3⟩
  generalize hmm : mrk k xs = m at *
  have HMM := Lib.hid hmm
  clear hmm
  unfold mv
  have hB3 := hB2.trans (only_below hg3 (Nat.le_of_lt hRl) hB2.size)
  have hR3 := hR2.only hg3 (by intro e; have := Option.some.inj e; omega)
  have hE3 := HE.out.below hB3
  obtain ⟨_, _, A5, n5, c5, hblk, hn5, _, _⟩ := hrs3
  have hNl := hblk.lt
  have q1 : w1.heap.size ≠ w3.heap.size := by omega
  have q1' := q1.symm
  have q2 : w.heap.size ≠ w3.heap.size := by omega
  have q2' := q2.symm
  have q5 : w.heap.size < w3.heap.size := by omega
  have hds : decide (xs.length < mszk k xs) = true := by have := HS.out; unfold msz at this; rw [HKK.out] at this; simp; omega
  have x1 : w3.cell? ⟨w1.heap.size, 1, none⟩ = some (.bool true) := hds ▸ hblk.cell 1
  have hce := hE3.2.2.1
  have hcl := World.block_lt_of_cell? w _ (HE.out.2.2.1)
  have hcl3 := World.block_lt_of_cell? w3 _ hce
  simp only at hcl hcl3
  have q3 : 3 ≠ w3.heap.size := by omega
  have q3' := q3.symm
  have q4 : 3 ≠ w.heap.size := by omega
  have q4' := q4.symm
  have HB4 := Lib.hid (hB3.alloc hB3.size (.cells #[.int .i64 m.k, .int .u32 m.f, .int .u32 m.t, .int .u32 m.s, .int .u32 m.g, .int .i64 m.r, .int .i64 m.c, .bool m.o, .slice A' n' c'] 28))
  have HR4 := Lib.hid (hR3.alloc (.cells #[.int .i64 m.k, .int .u32 m.f, .int .u32 m.t, .int .u32 m.s, .int .u32 m.g, .int .i64 m.r, .int .i64 m.c, .bool m.o, .slice A' n' c'] 28))
  have HC4' := Lib.hid (keepc hce ((Below.refl w3.heap.size w3).alloc (Nat.le_refl _) (.cells #[.int .i64 m.k, .int .u32 m.f, .int .u32 m.t, .int .u32 m.s, .int .u32 m.g, .int .i64 m.r, .int .i64 m.c, .bool m.o, .slice A' n' c'] 28)))
  generalize hEE : er 101 = E at *
  have HEE := Lib.hid hEE
  clear hEE
  clear hblk hR3 hE3 hB3 hB2 hR2 hg3 hrs har hab hds hcl hn5 hRl HMM HH
  go_wp2_with fail
  generalize w3.alloc (.cells #[.int .i64 m.k, .int .u32 m.f, .int .u32 m.t, .int .u32 m.s, .int .u32 m.g, .int .i64 m.r, .int .i64 m.c, .bool m.o, .slice A' n' c'] 28) = W4 at *
  clear x1 q1 q1' q2 q2' q3 q3' q5 hce hcl3 HB1 HR1 HE hNl
  have hce := HC4'.out
  have t0 : W4.cell? ⟨w.heap.size, 0, none⟩ = _ := HR4.out.cell 0
  have t1 : W4.cell? ⟨w.heap.size, 1, none⟩ = _ := HR4.out.cell 1
  have t2 : W4.cell? ⟨w.heap.size, 2, none⟩ = _ := HR4.out.cell 2
  have t3 : W4.cell? ⟨w.heap.size, 3, none⟩ = _ := HR4.out.cell 3
  have t4 : W4.cell? ⟨w.heap.size, 4, none⟩ = _ := HR4.out.cell 4
  have t5 : W4.cell? ⟨w.heap.size, 5, none⟩ = _ := HR4.out.cell 5
  have t6 : W4.cell? ⟨w.heap.size, 6, none⟩ = _ := HR4.out.cell 6
  have t7 : W4.cell? ⟨w.heap.size, 7, none⟩ = _ := HR4.out.cell 7
  have t8 : W4.cell? ⟨w.heap.size, 8, none⟩ = _ := HR4.out.cell 8
  have g0 : W4.frozen? ⟨w.heap.size, 0, none⟩ = false := HR4.out.frozen 0
  have g1 : W4.frozen? ⟨w.heap.size, 1, none⟩ = false := HR4.out.frozen 1
  have g2 : W4.frozen? ⟨w.heap.size, 2, none⟩ = false := HR4.out.frozen 2
  have g3 : W4.frozen? ⟨w.heap.size, 3, none⟩ = false := HR4.out.frozen 3
  have g4 : W4.frozen? ⟨w.heap.size, 4, none⟩ = false := HR4.out.frozen 4
  have g5 : W4.frozen? ⟨w.heap.size, 5, none⟩ = false := HR4.out.frozen 5
  have g6 : W4.frozen? ⟨w.heap.size, 6, none⟩ = false := HR4.out.frozen 6
  have g7 : W4.frozen? ⟨w.heap.size, 7, none⟩ = false := HR4.out.frozen 7
  have g8 : W4.frozen? ⟨w.heap.size, 8, none⟩ = false := HR4.out.frozen 8
  go_region
  go_wp2
  have hbf := nine (P := fun W => Below w.heap.size w W) (fun W hW i u => hW.setCell (Nat.le_refl _) u) HB4.out
  refine bodyPost_ret (v := .tuple #[.agg #[.int .i64 0, .int .u32 0, .int .u32 0, .int .u32 0, .int .u32 0, .int .i64 0, .int .i64 0, .bool false, .slice none 0 0], E]) (by simp [results, Tryd.results18, go_sem, t0, t1, t2, t3, t4, t5, t6, t7, t8]) rfl ?_
  exact ⟨by rw [HEE.out], by first | exact (hbf _ _ _ _ _ _ _ _ _).drew | exact hbf _ _ _ _ _ _ _ _ _⟩
set_option maxHeartbeats 4000000 in
theorem wread_shape (er : Int → Value) (A : Option Addr) (n c : Nat) (xs : List Int) (w : World) (hE : EnvM er w) (h : BR w A n xs) (hn : n ≤ 1048576) (hcap : n ≤ c) (hd : hdc xs = 0) (hs : ¬ xs.length < msz xs) (hp : msz xs < xs.length ∨ modd xs = true) :
    Calls Tryd.prog 18 #[.slice A n c] w fun e w' => e = .returned (.tuple #[mv mz none 0 0, er (102)]) ∧ Below w.heap.size w w' := by
  have hl := h.len
  have hB0 : Below w.heap.size w (w.alloc (.cells #[.int .i64 0, .int .u32 0, .int .u32 0, .int .u32 0, .int .u32 0, .int .i64 0, .int .i64 0, .bool false, .slice none 0 0] 28)) := (Below.refl _ _).alloc (Nat.le_refl _) _
  have hR0 := Blk.new w 28 #[.int .i64 0, .int .u32 0, .int .u32 0, .int .u32 0, .int .u32 0, .int .i64 0, .int .i64 0, .bool false, .slice none 0 0]
  have HH := readHead_any er A n c xs _ (hE.below hB0) (h.next hB0) hn
  unfold headOf hdk at HH
  obtain ⟨hl4, hk1, hk5, hmrc⟩ := hdc_ok hd
  rw [if_pos hd, hd, hE.1.1] at HH
  obtain ⟨b, o, rfl, hlt, hcell⟩ := h.2.2 (by omega)
  have HIB := Lib.hid h.isB
  have HCELL := Lib.hid hcell
  have HB0 := Lib.hid hB0
  have HR0 := Lib.hid hR0
  have HE := Lib.hid hE
  have HK1 := Lib.hid hk1
  have HK5 := Lib.hid hk5
  have HL := Lib.hid hl
  have HS := Lib.hid hs
  have HP := Lib.hid hp
  have hi4 : (4 : Int) ≤ (c : Int) := by omega
  have hn4 : (4 : Int) ≤ (n : Int) := by omega
  have hz : (0 : Int) ≤ 4 := by omega
  have hnl : n = xs.length := by omega
  have HNL := Lib.hid hnl
  have HL4 := Lib.hid hl4
  have HCAP := Lib.hid hcap
  have HLT := Lib.hid hlt
  unfold mv mz
  clear hE h hd hl hl4 hk1 hk5 hmrc hcell hlt hB0 hR0 hs hnl hp
  generalize hkk : rkind xs = k at *
  have HKK := Lib.hid hkk
  clear hkk
  have h4c : ¬ c = 4 := by have := msz_ge xs; have := HS.out; have := HCAP.out; have := HNL.out; omega
  have HC4 := Lib.hid h4c
  clear hcap
  go_enter Tryd.func18, Tryd.ntmps18
  go_wp2_with fail
  refine HH.mono ?_
  rintro e w1 ⟨rfl, hb⟩
  have hr := HR0.out.next hb
  have HB1 := Lib.hid (below_next HB0.out hb)
  have HR1 := Lib.hid hr
  have hRl := hr.lt
  clear hb hr
  go_wp2_with fail
  have hrs : RS w.heap.size (w1.alloc (.cells #[.slice (some ⟨b, o + 4, none⟩) (n - 4) (c - 4), .bool false, .bool false] 70)) w1.heap.size xs 4 false := by
    have h1 := HNL.out
    have h2 := HL4.out
    have h3 := HCAP.out
    have h0 : decide (xs.length < 4) = false := by simp; omega
    refine ⟨Nat.le_of_lt hRl, HIB.out, some ⟨b, o + 4, none⟩, n - 4, (c - 4), by rw [h0]; exact Blk.new w1 _ _, by omega, by omega, fun hh => ?_⟩
    refine ⟨b, o + 4, rfl, HLT.out, fun i hi => ?_⟩
    have hcc := HCELL.out (4 + i) (by omega)
    rw [← Nat.add_assoc] at hcc
    exact keepc (keepc hcc HB1.out) ((Below.refl _ _).alloc (Nat.le_refl _) _)
  have hB2 : Below w.heap.size w (w1.alloc (.cells #[.slice (some ⟨b, o + 4, none⟩) (n - 4) (c - 4), .bool false, .bool false] 70)) := HB1.out.alloc HB1.out.size _
  have hR2 := HR1.out.alloc (.cells #[.slice (some ⟨b, o + 4, none⟩) (n - 4) (c - 4), .bool false, .bool false] 70)
  refine (msg_any w.heap.size w1.heap.size k xs _ hrs HK1.out HK5.out).mono ?_
  rintro e w3 ⟨A', n', c', rfl, har, hab, hrs3, hg3⟩
  generalize hmm : mrk k xs = m at *
  have HMM := Lib.hid hmm
  clear hmm
  unfold mv
  have hB3 := hB2.trans (only_below hg3 (Nat.le_of_lt hRl) hB2.size)
  have hR3 := hR2.only hg3 (by intro e; have := Option.some.inj e; omega)
  have hE3 := HE.out.below hB3
  obtain ⟨_, _, A5, n5, c5, hblk, hn5, _, _⟩ := hrs3
  have hNl := hblk.lt
  have q1 : w1.heap.size ≠ w3.heap.size := by omega
  have q1' := q1.symm
  have q2 : w.heap.size ≠ w3.heap.size := by omega
  have q2' := q2.symm
  have q5 : w.heap.size < w3.heap.size := by omega
  have hds : decide (xs.length < mszk k xs) = false := by have := HS.out; unfold msz at this; rw [HKK.out] at this; simp; omega
  have x1 : w3.cell? ⟨w1.heap.size, 1, none⟩ = some (.bool false) := hds ▸ hblk.cell 1
  have x0 : w3.cell? ⟨w1.heap.size, 0, none⟩ = some (.slice A5 n5 c5) := hblk.cell 0
  have x2 : w3.cell? ⟨w1.heap.size, 2, none⟩ = some (.bool (decide (k = 4 ∧ 1 < xs.getD 12 0))) := hblk.cell 2
  have hpp := HP.out
  unfold modd msz at hpp
  rw [HKK.out] at hpp
  have hce := hE3.2.2.2.1
  have hcl := World.block_lt_of_cell? w _ (HE.out.2.2.2.1)
  have hcl3 := World.block_lt_of_cell? w3 _ hce
  simp only at hcl hcl3
  have q3 : 4 ≠ w3.heap.size := by omega
  have q3' := q3.symm
  have q4 : 4 ≠ w.heap.size := by omega
  have q4' := q4.symm
  have HB4 := Lib.hid (hB3.alloc hB3.size (.cells #[.int .i64 m.k, .int .u32 m.f, .int .u32 m.t, .int .u32 m.s, .int .u32 m.g, .int .i64 m.r, .int .i64 m.c, .bool m.o, .slice A' n' c'] 28))
  have HR4 := Lib.hid (hR3.alloc (.cells #[.int .i64 m.k, .int .u32 m.f, .int .u32 m.t, .int .u32 m.s, .int .u32 m.g, .int .i64 m.r, .int .i64 m.c, .bool m.o, .slice A' n' c'] 28))
  have HC4' := Lib.hid (keepc hce ((Below.refl w3.heap.size w3).alloc (Nat.le_refl _) (.cells #[.int .i64 m.k, .int .u32 m.f, .int .u32 m.t, .int .u32 m.s, .int .u32 m.g, .int .i64 m.r, .int .i64 m.c, .bool m.o, .slice A' n' c'] 28)))
  generalize hEE : er 102 = E at *
  have HEE := Lib.hid hEE
  clear hEE
  clear hblk hR3 hE3 hB3 hB2 hR2 hg3 hrs har hab hds hcl hRl HMM HH
  have hpos : 0 < n5 ∨ n5 = 0 ∧ decide (k = 4 ∧ 1 < xs.getD 12 0) = true := pos_of HNL.out hn5 hpp
  have X2 := Lib.hid x2
  clear hpp hn5 x2
  rcases hpos with hp0 | ⟨rfl, hp1⟩
  · have hp1 : decide ((0 : Int) < (n5 : Int)) = true := by simpa using hp0
    go_wp2_with fail
    generalize w3.alloc (.cells #[.int .i64 m.k, .int .u32 m.f, .int .u32 m.t, .int .u32 m.s, .int .u32 m.g, .int .i64 m.r, .int .i64 m.c, .bool m.o, .slice A' n' c'] 28) = W4 at *
    clear x1 q1 q1' q2 q2' q3 q3' q5 hce hcl3 HB1 HR1 HE hNl
    have hce := HC4'.out
    have t0 : W4.cell? ⟨w.heap.size, 0, none⟩ = _ := HR4.out.cell 0
    have t1 : W4.cell? ⟨w.heap.size, 1, none⟩ = _ := HR4.out.cell 1
    have t2 : W4.cell? ⟨w.heap.size, 2, none⟩ = _ := HR4.out.cell 2
    have t3 : W4.cell? ⟨w.heap.size, 3, none⟩ = _ := HR4.out.cell 3
    have t4 : W4.cell? ⟨w.heap.size, 4, none⟩ = _ := HR4.out.cell 4
    have t5 : W4.cell? ⟨w.heap.size, 5, none⟩ = _ := HR4.out.cell 5
    have t6 : W4.cell? ⟨w.heap.size, 6, none⟩ = _ := HR4.out.cell 6
    have t7 : W4.cell? ⟨w.heap.size, 7, none⟩ = _ := HR4.out.cell 7
    have t8 : W4.cell? ⟨w.heap.size, 8, none⟩ = _ := HR4.out.cell 8
    have g0 : W4.frozen? ⟨w.heap.size, 0, none⟩ = false := HR4.out.frozen 0
    have g1 : W4.frozen? ⟨w.heap.size, 1, none⟩ = false := HR4.out.frozen 1
    have g2 : W4.frozen? ⟨w.heap.size, 2, none⟩ = false := HR4.out.frozen 2
    have g3 : W4.frozen? ⟨w.heap.size, 3, none⟩ = false := HR4.out.frozen 3
    have g4 : W4.frozen? ⟨w.heap.size, 4, none⟩ = false := HR4.out.frozen 4
    have g5 : W4.frozen? ⟨w.heap.size, 5, none⟩ = false := HR4.out.frozen 5
    have g6 : W4.frozen? ⟨w.heap.size, 6, none⟩ = false := HR4.out.frozen 6
    have g7 : W4.frozen? ⟨w.heap.size, 7, none⟩ = false := HR4.out.frozen 7
    have g8 : W4.frozen? ⟨w.heap.size, 8, none⟩ = false := HR4.out.frozen 8
    go_region
    go_wp2
    have hbf := nine (P := fun W => Below w.heap.size w W) (fun W hW i u => hW.setCell (Nat.le_refl _) u) HB4.out
    refine bodyPost_ret (v := .tuple #[.agg #[.int .i64 0, .int .u32 0, .int .u32 0, .int .u32 0, .int .u32 0, .int .i64 0, .int .i64 0, .bool false, .slice none 0 0], E]) (by simp [results, Tryd.results18, go_sem, t0, t1, t2, t3, t4, t5, t6, t7, t8]) rfl ?_
    exact ⟨by rw [HEE.out], by first | exact (hbf _ _ _ _ _ _ _ _ _).drew | exact hbf _ _ _ _ _ _ _ _ _⟩
  · have x2 := X2.out
    rw [hp1] at x2
    clear hp1
    go_wp2_with fail
    generalize w3.alloc (.cells #[.int .i64 m.k, .int .u32 m.f, .int .u32 m.t, .int .u32 m.s, .int .u32 m.g, .int .i64 m.r, .int .i64 m.c, .bool m.o, .slice A' n' c'] 28) = W4 at *
    clear x1 q1 q1' q2 q2' q3 q3' q5 hce hcl3 HB1 HR1 HE hNl
    have hce := HC4'.out
    have t0 : W4.cell? ⟨w.heap.size, 0, none⟩ = _ := HR4.out.cell 0
    have t1 : W4.cell? ⟨w.heap.size, 1, none⟩ = _ := HR4.out.cell 1
    have t2 : W4.cell? ⟨w.heap.size, 2, none⟩ = _ := HR4.out.cell 2
    have t3 : W4.cell? ⟨w.heap.size, 3, none⟩ = _ := HR4.out.cell 3
    have t4 : W4.cell? ⟨w.heap.size, 4, none⟩ = _ := HR4.out.cell 4
    have t5 : W4.cell? ⟨w.heap.size, 5, none⟩ = _ := HR4.out.cell 5
    have t6 : W4.cell? ⟨w.heap.size, 6, none⟩ = _ := HR4.out.cell 6
    have t7 : W4.cell? ⟨w.heap.size, 7, none⟩ = _ := HR4.out.cell 7
    have t8 : W4.cell? ⟨w.heap.size, 8, none⟩ = _ := HR4.out.cell 8
    have g0 : W4.frozen? ⟨w.heap.size, 0, none⟩ = false := HR4.out.frozen 0
    have g1 : W4.frozen? ⟨w.heap.size, 1, none⟩ = false := HR4.out.frozen 1
    have g2 : W4.frozen? ⟨w.heap.size, 2, none⟩ = false := HR4.out.frozen 2
    have g3 : W4.frozen? ⟨w.heap.size, 3, none⟩ = false := HR4.out.frozen 3
    have g4 : W4.frozen? ⟨w.heap.size, 4, none⟩ = false := HR4.out.frozen 4
    have g5 : W4.frozen? ⟨w.heap.size, 5, none⟩ = false := HR4.out.frozen 5
    have g6 : W4.frozen? ⟨w.heap.size, 6, none⟩ = false := HR4.out.frozen 6
    have g7 : W4.frozen? ⟨w.heap.size, 7, none⟩ = false := HR4.out.frozen 7
    have g8 : W4.frozen? ⟨w.heap.size, 8, none⟩ = false := HR4.out.frozen 8
    go_region
    go_wp2
    have hbf := nine (P := fun W => Below w.heap.size w W) (fun W hW i u => hW.setCell (Nat.le_refl _) u) HB4.out
    refine bodyPost_ret (v := .tuple #[.agg #[.int .i64 0, .int .u32 0, .int .u32 0, .int .u32 0, .int .u32 0, .int .i64 0, .int .i64 0, .bool false, .slice none 0 0], E]) (by simp [results, Tryd.results18, go_sem, t0, t1, t2, t3, t4, t5, t6, t7, t8]) rfl ?_
    exact ⟨by rw [HEE.out], by first | exact (hbf _ _ _ _ _ _ _ _ _).drew | exact hbf _ _ _ _ _ _ _ _ _⟩
set_option maxHeartbeats 4000000 in
theorem wread_no (er : Int → Value) (A : Option Addr) (n c : Nat) (xs : List Int) (w : World) (hE : EnvM er w) (h : BR w A n xs) (hn : n ≤ 1048576) (hcap : n ≤ c) (hd : hdc xs = 0) (hs : ¬ xs.length < msz xs) (hp : ¬ (msz xs < xs.length ∨ modd xs = true)) (hm : mcode (mrd xs) ≠ 0) :
    Calls Tryd.prog 18 #[.slice A n c] w fun e w' => e = .returned (.tuple #[mv mz none 0 0, er (mcode (mrd xs))]) ∧ Below w.heap.size w w' := by
  have hl := h.len
  have hB0 : Below w.heap.size w (w.alloc (.cells #[.int .i64 0, .int .u32 0, .int .u32 0, .int .u32 0, .int .u32 0, .int .i64 0, .int .i64 0, .bool false, .slice none 0 0] 28)) := (Below.refl _ _).alloc (Nat.le_refl _) _
  have hR0 := Blk.new w 28 #[.int .i64 0, .int .u32 0, .int .u32 0, .int .u32 0, .int .u32 0, .int .i64 0, .int .i64 0, .bool false, .slice none 0 0]
  have HH := readHead_any er A n c xs _ (hE.below hB0) (h.next hB0) hn
  unfold headOf hdk at HH
  obtain ⟨hl4, hk1, hk5, hmrc⟩ := hdc_ok hd
  rw [if_pos hd, hd, hE.1.1] at HH
  obtain ⟨b, o, rfl, hlt, hcell⟩ := h.2.2 (by omega)
  have HIB := Lib.hid h.isB
  have HCELL := Lib.hid hcell
  have HB0 := Lib.hid hB0
  have HR0 := Lib.hid hR0
  have HE := Lib.hid hE
  have HK1 := Lib.hid hk1
  have HK5 := Lib.hid hk5
  have HL := Lib.hid hl
  have HS := Lib.hid hs
  have HP := Lib.hid hp
  have HM := Lib.hid hm
  obtain ⟨ea, hea⟩ := hE.ev (c := mcode (mrd xs)) (by have := mcode_cases (mrd xs); omega)
  have HEA := Lib.hid hea
  have hi4 : (4 : Int) ≤ (c : Int) := by omega
  have hn4 : (4 : Int) ≤ (n : Int) := by omega
  have hz : (0 : Int) ≤ 4 := by omega
  have hnl : n = xs.length := by omega
  have HNL := Lib.hid hnl
  have HL4 := Lib.hid hl4
  have HCAP := Lib.hid hcap
  have HLT := Lib.hid hlt
  unfold mv mz
  clear hE h hd hl hl4 hk1 hk5 hmrc hcell hlt hB0 hR0 hs hnl hp hm hea
  generalize hkk : rkind xs = k at *
  have HKK := Lib.hid hkk
  clear hkk
  have h4c : ¬ c = 4 := by have := msz_ge xs; have := HS.out; have := HCAP.out; have := HNL.out; omega
  have HC4 := Lib.hid h4c
  clear hcap
  go_enter Tryd.func18, Tryd.ntmps18
  go_wp2_with fail
  refine HH.mono ?_
  rintro e w1 ⟨rfl, hb⟩
  have hr := HR0.out.next hb
  have HB1 := Lib.hid (below_next HB0.out hb)
  have HR1 := Lib.hid hr
  have hRl := hr.lt
  clear hb hr
  go_wp2_with fail
  have hrs : RS w.heap.size (w1.alloc (.cells #[.slice (some ⟨b, o + 4, none⟩) (n - 4) (c - 4), .bool false, .bool false] 70)) w1.heap.size xs 4 false := by
    have h1 := HNL.out
    have h2 := HL4.out
    have h3 := HCAP.out
    have h0 : decide (xs.length < 4) = false := by simp; omega
    refine ⟨Nat.le_of_lt hRl, HIB.out, some ⟨b, o + 4, none⟩, n - 4, (c - 4), by rw [h0]; exact Blk.new w1 _ _, by omega, by omega, fun hh => ?_⟩
    refine ⟨b, o + 4, rfl, HLT.out, fun i hi => ?_⟩
    have hcc := HCELL.out (4 + i) (by omega)
    rw [← Nat.add_assoc] at hcc
    exact keepc (keepc hcc HB1.out) ((Below.refl _ _).alloc (Nat.le_refl _) _)
  have hB2 : Below w.heap.size w (w1.alloc (.cells #[.slice (some ⟨b, o + 4, none⟩) (n - 4) (c - 4), .bool false, .bool false] 70)) := HB1.out.alloc HB1.out.size _
  have hR2 := HR1.out.alloc (.cells #[.slice (some ⟨b, o + 4, none⟩) (n - 4) (c - 4), .bool false, .bool false] 70)
  refine (msg_any w.heap.size w1.heap.size k xs _ hrs HK1.out HK5.out).mono ?_
  rintro e w3 ⟨A', n', c', rfl, har, hab, hrs3, hg3⟩
  generalize hmm : mrk k xs = m at *
  have HMM := Lib.hid hmm
  clear hmm
  unfold mv
  have hB3 := hB2.trans (only_below hg3 (Nat.le_of_lt hRl) hB2.size)
  have hR3 := hR2.only hg3 (by intro e; have := Option.some.inj e; omega)
  have hE3 := HE.out.below hB3
  obtain ⟨_, _, A5, n5, c5, hblk, hn5, _, _⟩ := hrs3
  have hNl := hblk.lt
  have q1 : w1.heap.size ≠ w3.heap.size := by omega
  have q1' := q1.symm
  have q2 : w.heap.size ≠ w3.heap.size := by omega
  have q2' := q2.symm
  have q5 : w.heap.size < w3.heap.size := by omega
  have hds : decide (xs.length < mszk k xs) = false := by have := HS.out; unfold msz at this; rw [HKK.out] at this; simp; omega
  have x1 : w3.cell? ⟨w1.heap.size, 1, none⟩ = some (.bool false) := hds ▸ hblk.cell 1
  have x0 : w3.cell? ⟨w1.heap.size, 0, none⟩ = some (.slice A5 n5 c5) := hblk.cell 0
  have x2 : w3.cell? ⟨w1.heap.size, 2, none⟩ = some (.bool (decide (k = 4 ∧ 1 < xs.getD 12 0))) := hblk.cell 2
  have hpp := HP.out
  unfold modd msz at hpp
  rw [HKK.out] at hpp
  have hn0 : n5 = 0 := by have := HNL.out; have := HS.out; unfold msz at this; rw [HKK.out] at this; omega
  have hod : decide (k = 4 ∧ 1 < xs.getD 12 0) = false := by
    simp only [decide_eq_true_eq] at hpp
    simp only [decide_eq_false_iff_not]
    omega
  rw [hod] at x2
  subst hn0
  have hmw : wfm m := by rw [← HMM.out, ← HKK.out]; exact mrd_wf HIB.out
  have hB4 := hB3.alloc hB3.size (.cells #[.int .i64 m.k, .int .u32 m.f, .int .u32 m.t, .int .u32 m.s, .int .u32 m.g, .int .i64 m.r, .int .i64 m.c, .bool m.o, .slice A' n' c'] 28)
  have hR4 := hR3.alloc (.cells #[.int .i64 m.k, .int .u32 m.f, .int .u32 m.t, .int .u32 m.s, .int .u32 m.g, .int .i64 m.r, .int .i64 m.c, .bool m.o, .slice A' n' c'] 28)
  have hM4 := Blk.new w3 28 #[.int .i64 m.k, .int .u32 m.f, .int .u32 m.t, .int .u32 m.s, .int .u32 m.g, .int .i64 m.r, .int .i64 m.c, .bool m.o, .slice A' n' c']
  have hbn : Below w3.heap.size w3 (w3.alloc (.cells #[.int .i64 m.k, .int .u32 m.f, .int .u32 m.t, .int .u32 m.s, .int .u32 m.g, .int .i64 m.r, .int .i64 m.c, .bool m.o, .slice A' n' c'] 28)) := (Below.refl _ _).alloc (Nat.le_refl _) _
  have hV := valid_any er m A' n' c' _ ((hE3.below hbn).1) hmw (har.next hbn)
  have hA4 := har.next hbn
  have hmc : mcode m = mcode (mrd xs) := by rw [← HMM.out, ← HKK.out]; rfl
  rw [hmc, HEA.out] at hV
  have HB4 := Lib.hid hB4
  have HR4 := Lib.hid hR4
  have HA4' := Lib.hid hA4
  have HAB := Lib.hid hab
  have HV := Lib.hid hV
  unfold mv ev at HV
  clear hblk hR3 hE3 hB3 hB2 hR2 hg3 hrs har hab hds hn5 hod hmw hpp hB4 hR4 hM4 hbn hV hA4 hmc hRl
  go_wp2_with fail
  refine HV.out.mono ?_
  rintro e w5 ⟨rfl, hb5⟩
  have hR5 := HR4.out.next hb5
  have t0 : w5.cell? ⟨w.heap.size, 0, none⟩ = _ := hR5.cell 0
  have t1 : w5.cell? ⟨w.heap.size, 1, none⟩ = _ := hR5.cell 1
  have t2 : w5.cell? ⟨w.heap.size, 2, none⟩ = _ := hR5.cell 2
  have t3 : w5.cell? ⟨w.heap.size, 3, none⟩ = _ := hR5.cell 3
  have t4 : w5.cell? ⟨w.heap.size, 4, none⟩ = _ := hR5.cell 4
  have t5 : w5.cell? ⟨w.heap.size, 5, none⟩ = _ := hR5.cell 5
  have t6 : w5.cell? ⟨w.heap.size, 6, none⟩ = _ := hR5.cell 6
  have t7 : w5.cell? ⟨w.heap.size, 7, none⟩ = _ := hR5.cell 7
  have t8 : w5.cell? ⟨w.heap.size, 8, none⟩ = _ := hR5.cell 8
  have g0 : w5.frozen? ⟨w.heap.size, 0, none⟩ = false := hR5.frozen 0
  have g1 : w5.frozen? ⟨w.heap.size, 1, none⟩ = false := hR5.frozen 1
  have g2 : w5.frozen? ⟨w.heap.size, 2, none⟩ = false := hR5.frozen 2
  have g3 : w5.frozen? ⟨w.heap.size, 3, none⟩ = false := hR5.frozen 3
  have g4 : w5.frozen? ⟨w.heap.size, 4, none⟩ = false := hR5.frozen 4
  have g5 : w5.frozen? ⟨w.heap.size, 5, none⟩ = false := hR5.frozen 5
  have g6 : w5.frozen? ⟨w.heap.size, 6, none⟩ = false := hR5.frozen 6
  have g7 : w5.frozen? ⟨w.heap.size, 7, none⟩ = false := hR5.frozen 7
  have g8 : w5.frozen? ⟨w.heap.size, 8, none⟩ = false := hR5.frozen 8
  have HB5 := Lib.hid (below_next HB4.out hb5)
  clear hb5 hR5
  go_wp2
  have hbf := nine (P := fun W => Below w.heap.size w W) (fun W hW i u => hW.setCell (Nat.le_refl _) u) HB5.out
  refine bodyPost_ret (v := .tuple #[.agg #[.int .i64 0, .int .u32 0, .int .u32 0, .int .u32 0, .int .u32 0, .int .i64 0, .int .i64 0, .bool false, .slice none 0 0], .iface 100 (.pointer (some ea))]) (by simp [results, Tryd.results18, go_sem, t0, t1, t2, t3, t4, t5, t6, t7, t8]) rfl ?_
  exact ⟨by rw [HEA.out]; rfl, hbf _ _ _ _ _ _ _ _ _⟩
set_option maxHeartbeats 4000000 in
theorem wread_ok (er : Int → Value) (A : Option Addr) (n c : Nat) (xs : List Int) (w : World) (hE : EnvM er w) (h : BR w A n xs) (hn : n ≤ 1048576) (hcap : n ≤ c) (hd : hdc xs = 0) (hs : ¬ xs.length < msz xs) (hp : ¬ (msz xs < xs.length ∨ modd xs = true)) (hm : mcode (mrd xs) = 0) :
    Calls Tryd.prog 18 #[.slice A n c] w fun e w' => ∃ A' n' c', e = .returned (.tuple #[mv (mrd xs) A' n' c', .nilIface]) ∧ AR w' A' n' (mrd xs).l ∧ Below w.heap.size w w' := by
  have hl := h.len
  have hB0 : Below w.heap.size w (w.alloc (.cells #[.int .i64 0, .int .u32 0, .int .u32 0, .int .u32 0, .int .u32 0, .int .i64 0, .int .i64 0, .bool false, .slice none 0 0] 28)) := (Below.refl _ _).alloc (Nat.le_refl _) _
  have hR0 := Blk.new w 28 #[.int .i64 0, .int .u32 0, .int .u32 0, .int .u32 0, .int .u32 0, .int .i64 0, .int .i64 0, .bool false, .slice none 0 0]
  have HH := readHead_any er A n c xs _ (hE.below hB0) (h.next hB0) hn
  unfold headOf hdk at HH
  obtain ⟨hl4, hk1, hk5, hmrc⟩ := hdc_ok hd
  rw [if_pos hd, hd, hE.1.1] at HH
  obtain ⟨b, o, rfl, hlt, hcell⟩ := h.2.2 (by omega)
  have HIB := Lib.hid h.isB
  have HCELL := Lib.hid hcell
  have HB0 := Lib.hid hB0
  have HR0 := Lib.hid hR0
  have HE := Lib.hid hE
  have HK1 := Lib.hid hk1
  have HK5 := Lib.hid hk5
  have HL := Lib.hid hl
  have HS := Lib.hid hs
  have HP := Lib.hid hp
  have HM := Lib.hid hm
  have hi4 : (4 : Int) ≤ (c : Int) := by omega
  have hn4 : (4 : Int) ≤ (n : Int) := by omega
  have hz : (0 : Int) ≤ 4 := by omega
  have hnl : n = xs.length := by omega
  have HNL := Lib.hid hnl
  have HL4 := Lib.hid hl4
  have HCAP := Lib.hid hcap
  have HLT := Lib.hid hlt
  unfold mv
  clear hE h hd hl hl4 hk1 hk5 hmrc hcell hlt hB0 hR0 hs hnl hp hm
  generalize hkk : rkind xs = k at *
  have HKK := Lib.hid hkk
  clear hkk
  have h4c : ¬ c = 4 := by have := msz_ge xs; have := HS.out; have := HCAP.out; have := HNL.out; omega
  have HC4 := Lib.hid h4c
  clear hcap
  go_enter Tryd.func18, Tryd.ntmps18
  go_wp2_with fail
  refine HH.mono ?_
  rintro e w1 ⟨rfl, hb⟩
  have hr := HR0.out.next hb
  have HB1 := Lib.hid (below_next HB0.out hb)
  have HR1 := Lib.hid hr
  have hRl := hr.lt
  clear hb hr
  go_wp2_with fail
  have hrs : RS w.heap.size (w1.alloc (.cells #[.slice (some ⟨b, o + 4, none⟩) (n - 4) (c - 4), .bool false, .bool false] 70)) w1.heap.size xs 4 false := by
    have h1 := HNL.out
    have h2 := HL4.out
    have h3 := HCAP.out
    have h0 : decide (xs.length < 4) = false := by simp; omega
    refine ⟨Nat.le_of_lt hRl, HIB.out, some ⟨b, o + 4, none⟩, n - 4, (c - 4), by rw [h0]; exact Blk.new w1 _ _, by omega, by omega, fun hh => ?_⟩
    refine ⟨b, o + 4, rfl, HLT.out, fun i hi => ?_⟩
    have hcc := HCELL.out (4 + i) (by omega)
    rw [← Nat.add_assoc] at hcc
    exact keepc (keepc hcc HB1.out) ((Below.refl _ _).alloc (Nat.le_refl _) _)
  have hB2 : Below w.heap.size w (w1.alloc (.cells #[.slice (some ⟨b, o + 4, none⟩) (n - 4) (c - 4), .bool false, .bool false] 70)) := HB1.out.alloc HB1.out.size _
  have hR2 := HR1.out.alloc (.cells #[.slice (some ⟨b, o + 4, none⟩) (n - 4) (c - 4), .bool false, .bool false] 70)
  refine (msg_any w.heap.size w1.heap.size k xs _ hrs HK1.out HK5.out).mono ?_
  rintro e w3 ⟨A', n', c', rfl, har, hab, hrs3, hg3⟩
  generalize hmm : mrk k xs = m at *
  have HMM := Lib.hid hmm
  clear hmm
  unfold mv
  have hB3 := hB2.trans (only_below hg3 (Nat.le_of_lt hRl) hB2.size)
  have hR3 := hR2.only hg3 (by intro e; have := Option.some.inj e; omega)
  have hE3 := HE.out.below hB3
  obtain ⟨_, _, A5, n5, c5, hblk, hn5, _, _⟩ := hrs3
  have hNl := hblk.lt
  have q1 : w1.heap.size ≠ w3.heap.size := by omega
  have q1' := q1.symm
  have q2 : w.heap.size ≠ w3.heap.size := by omega
  have q2' := q2.symm
  have q5 : w.heap.size < w3.heap.size := by omega
  have hds : decide (xs.length < mszk k xs) = false := by have := HS.out; unfold msz at this; rw [HKK.out] at this; simp; omega
  have x1 : w3.cell? ⟨w1.heap.size, 1, none⟩ = some (.bool false) := hds ▸ hblk.cell 1
  have x0 : w3.cell? ⟨w1.heap.size, 0, none⟩ = some (.slice A5 n5 c5) := hblk.cell 0
  have x2 : w3.cell? ⟨w1.heap.size, 2, none⟩ = some (.bool (decide (k = 4 ∧ 1 < xs.getD 12 0))) := hblk.cell 2
  have hpp := HP.out
  unfold modd msz at hpp
  rw [HKK.out] at hpp
  have hn0 : n5 = 0 := by have := HNL.out; have := HS.out; unfold msz at this; rw [HKK.out] at this; omega
  have hod : decide (k = 4 ∧ 1 < xs.getD 12 0) = false := by
    simp only [decide_eq_true_eq] at hpp
    simp only [decide_eq_false_iff_not]
    omega
  rw [hod] at x2
  subst hn0
  have hmw : wfm m := by rw [← HMM.out, ← HKK.out]; exact mrd_wf HIB.out
  have hB4 := hB3.alloc hB3.size (.cells #[.int .i64 m.k, .int .u32 m.f, .int .u32 m.t, .int .u32 m.s, .int .u32 m.g, .int .i64 m.r, .int .i64 m.c, .bool m.o, .slice A' n' c'] 28)
  have hR4 := hR3.alloc (.cells #[.int .i64 m.k, .int .u32 m.f, .int .u32 m.t, .int .u32 m.s, .int .u32 m.g, .int .i64 m.r, .int .i64 m.c, .bool m.o, .slice A' n' c'] 28)
  have hM4 := Blk.new w3 28 #[.int .i64 m.k, .int .u32 m.f, .int .u32 m.t, .int .u32 m.s, .int .u32 m.g, .int .i64 m.r, .int .i64 m.c, .bool m.o, .slice A' n' c']
  have hbn : Below w3.heap.size w3 (w3.alloc (.cells #[.int .i64 m.k, .int .u32 m.f, .int .u32 m.t, .int .u32 m.s, .int .u32 m.g, .int .i64 m.r, .int .i64 m.c, .bool m.o, .slice A' n' c'] 28)) := (Below.refl _ _).alloc (Nat.le_refl _) _
  have hV := valid_any er m A' n' c' _ ((hE3.below hbn).1) hmw (har.next hbn)
  have hA4 := har.next hbn
  have hmc : mcode m = mcode (mrd xs) := by rw [← HMM.out, ← HKK.out]; rfl
  rw [hmc, HM.out, hE3.1.1] at hV
  have HB4 := Lib.hid hB4
  have HR4 := Lib.hid hR4
  have HA4' := Lib.hid hA4
  have HAB := Lib.hid hab
  have HV := Lib.hid hV
  unfold mv at HV
  clear hblk hR3 hE3 hB3 hB2 hR2 hg3 hrs har hab hds hn5 hod hmw hpp hB4 hR4 hM4 hbn hV hA4 hmc
  go_wp2_with fail
  refine HV.out.mono ?_
  rintro e w5 ⟨rfl, hb5⟩
  have hR5 := HR4.out.next hb5
  have hM5 := (Blk.new w3 28 #[.int .i64 m.k, .int .u32 m.f, .int .u32 m.t, .int .u32 m.s, .int .u32 m.g, .int .i64 m.r, .int .i64 m.c, .bool m.o, .slice A' n' c']).next hb5
  have HA5 := Lib.hid (HA4'.out.next hb5)
  have t0 : w5.cell? ⟨w.heap.size, 0, none⟩ = _ := hR5.cell 0
  have t1 : w5.cell? ⟨w.heap.size, 1, none⟩ = _ := hR5.cell 1
  have t2 : w5.cell? ⟨w.heap.size, 2, none⟩ = _ := hR5.cell 2
  have t3 : w5.cell? ⟨w.heap.size, 3, none⟩ = _ := hR5.cell 3
  have t4 : w5.cell? ⟨w.heap.size, 4, none⟩ = _ := hR5.cell 4
  have t5 : w5.cell? ⟨w.heap.size, 5, none⟩ = _ := hR5.cell 5
  have t6 : w5.cell? ⟨w.heap.size, 6, none⟩ = _ := hR5.cell 6
  have t7 : w5.cell? ⟨w.heap.size, 7, none⟩ = _ := hR5.cell 7
  have t8 : w5.cell? ⟨w.heap.size, 8, none⟩ = _ := hR5.cell 8
  have g0 : w5.frozen? ⟨w.heap.size, 0, none⟩ = false := hR5.frozen 0
  have g1 : w5.frozen? ⟨w.heap.size, 1, none⟩ = false := hR5.frozen 1
  have g2 : w5.frozen? ⟨w.heap.size, 2, none⟩ = false := hR5.frozen 2
  have g3 : w5.frozen? ⟨w.heap.size, 3, none⟩ = false := hR5.frozen 3
  have g4 : w5.frozen? ⟨w.heap.size, 4, none⟩ = false := hR5.frozen 4
  have g5 : w5.frozen? ⟨w.heap.size, 5, none⟩ = false := hR5.frozen 5
  have g6 : w5.frozen? ⟨w.heap.size, 6, none⟩ = false := hR5.frozen 6
  have g7 : w5.frozen? ⟨w.heap.size, 7, none⟩ = false := hR5.frozen 7
  have g8 : w5.frozen? ⟨w.heap.size, 8, none⟩ = false := hR5.frozen 8
  have z0 : w5.cell? ⟨w3.heap.size, 0, none⟩ = _ := hM5.cell 0
  have z1 : w5.cell? ⟨w3.heap.size, 1, none⟩ = _ := hM5.cell 1
  have z2 : w5.cell? ⟨w3.heap.size, 2, none⟩ = _ := hM5.cell 2
  have z3 : w5.cell? ⟨w3.heap.size, 3, none⟩ = _ := hM5.cell 3
  have z4 : w5.cell? ⟨w3.heap.size, 4, none⟩ = _ := hM5.cell 4
  have z5 : w5.cell? ⟨w3.heap.size, 5, none⟩ = _ := hM5.cell 5
  have z6 : w5.cell? ⟨w3.heap.size, 6, none⟩ = _ := hM5.cell 6
  have z7 : w5.cell? ⟨w3.heap.size, 7, none⟩ = _ := hM5.cell 7
  have z8 : w5.cell? ⟨w3.heap.size, 8, none⟩ = _ := hM5.cell 8
  have HB5 := Lib.hid (below_next HB4.out hb5)
  clear hb5 hR5 hM5
  go_wp2
  have hbf := nine (P := fun W => Below w.heap.size w W) (fun W hW i u => hW.setCell (Nat.le_refl _) u) HB5.out
  have haf := nine (P := fun W => AR W A' n' m.l) (fun W hW i u => hW.only (only_store W w.heap.size i u) (fun b o e h => by have := Option.some.inj h; have := HAB.out _ _ e; simp at this; omega)) HA5.out
  refine bodyPost_ret (v := .tuple #[.agg #[.int .i64 m.k, .int .u32 m.f, .int .u32 m.t, .int .u32 m.s, .int .u32 m.g, .int .i64 m.r, .int .i64 m.c, .bool m.o, .slice A' n' c'], .nilIface]) (by simp [results, Tryd.results18, go_sem, t0, t1, t2, t3, t4, t5, t6, t7, t8]) rfl ?_
  have hmm : mrd xs = m := by rw [← HMM.out, ← HKK.out]; rfl
  exact ⟨A', n', c', by rw [hmm], by rw [hmm]; exact haf _ _ _ _ _ _ _ _ _, hbf _ _ _ _ _ _ _ _ _⟩
def readOf (er : Int → Value) (xs : List Int) (w : World) (e : Ending) (w' : World) : Prop :=
  ∃ A n c, e = .returned (.tuple #[mv (mres xs) A n c, er (mrc xs)]) ∧ AR w' A n (mres xs).l ∧ Below w.heap.size w w'
theorem read_bad {er : Int → Value} {xs : List Int} {w : World} {cd : Int} (hc : mrc xs = cd) (h0 : cd ≠ 0) {e : Ending} {w' : World} (h : e = .returned (.tuple #[mv mz none 0 0, er cd]) ∧ Below w.heap.size w w') : readOf er xs w e w' := by
  subst hc
  have hm : mres xs = mz := by unfold mres; rw [if_neg h0]
  unfold readOf
  rw [hm]
  exact ⟨none, 0, 0, h.1, AR.none_ _ _, h.2⟩
theorem wread_any (er : Int → Value) (A : Option Addr) (n c : Nat) (xs : List Int) (w : World) (hE : EnvM er w) (h : BR w A n xs) (hn : n ≤ 1048576) (hcap : n ≤ c) :
    Calls Tryd.prog 18 #[.slice A n c] w (readOf er xs w) := by
  by_cases hd : hdc xs = 0
  · have hm := (hdc_ok hd).2.2.2
    by_cases hs : xs.length < msz xs
    · rw [if_pos hs] at hm
      by_cases h4 : c = 4
      · exact (wread_end4 er A n c xs w hE h hn hcap h4 hd hs).mono fun _ _ hh => read_bad hm (by omega) hh
      · exact (wread_end5 er A n c xs w hE h hn hcap h4 hd hs).mono fun _ _ hh => read_bad hm (by omega) hh
    · rw [if_neg hs] at hm
      by_cases hp : msz xs < xs.length ∨ modd xs = true
      · rw [if_pos hp] at hm
        exact (wread_shape er A n c xs w hE h hn hcap hd hs hp).mono fun _ _ hh => read_bad hm (by omega) hh
      · rw [if_neg hp] at hm
        by_cases hc : mcode (mrd xs) = 0
        · refine (wread_ok er A n c xs w hE h hn hcap hd hs hp hc).mono ?_
          rintro e w' ⟨A', n', c', he, ha, hb⟩
          have hmr : mres xs = mrd xs := by unfold mres; rw [hm, if_pos hc]
          unfold readOf
          rw [hmr, hm, hc, hE.1.1]
          exact ⟨A', n', c', he, ha, hb⟩
        · exact (wread_no er A n c xs w hE h hn hcap hd hs hp hc).mono fun _ _ hh => read_bad hm hc hh
  · exact (wread_bad er A n c xs w hE h hn hcap hd).mono fun _ _ hh => read_bad (hdc_mrc hd) hd hh
end Go.Proofs.YtfcfnfofihpegaaDoor
