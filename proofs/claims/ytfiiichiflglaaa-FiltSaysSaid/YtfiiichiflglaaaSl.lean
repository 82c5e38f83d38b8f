/- filt.split: the lists of the members that listen to these alone, and of the others; over the seat's program. -/
import Derived.Test.YtfiiichiflglaaaCn
import Derived.Maps.AppendAt
namespace Go.Proofs.Ytfiiichiflglaaa
open Go.RowKit Go.Maps Sm
/-- members in memory -/
structure MR (w : World) (A : Option Addr) (n : Nat) (ms : List Mb) : Prop where
  r : RI CMember 4 w A n ms
  a : ∀ m ∈ ms, AR w m.A m.n m.xs
theorem MR.next {w w' : World} {A : Option Addr} {n : Nat} {ms : List Mb} (h : MR w A n ms) (hb : Below w.heap.size w w') : MR w' A n ms := ⟨h.r.next hb, fun m hm => (h.a m hm).next hb⟩
theorem MR.cell {w : World} {A : Option Addr} {n k : Nat} {ms : List Mb} (h : MR w A n ms) (hk : k < n) : ∃ b o m, A = some ⟨b, o, none⟩ ∧ b < w.heap.size ∧ ms[k]? = some m ∧ AR w m.A m.n m.xs ∧
    w.cell? ⟨b, o + k * 4, none⟩ = some (.int .i64 m.l) ∧ w.cell? ⟨b, o + k * 4 + 1, none⟩ = some (.int .u32 m.g) ∧ w.cell? ⟨b, o + k * 4 + 2, none⟩ = some (.bool m.o) ∧ w.cell? ⟨b, o + k * 4 + 3, none⟩ = some (.slice m.A m.n m.c) := by
  obtain ⟨b, o, m, hA, hb, hm, hc⟩ := h.r.at_ hk
  exact ⟨b, o, m, hA, hb, hm, h.a m (List.mem_of_getElem? hm), hc 0 _ rfl, hc 1 _ rfl, hc 2 _ rfl, hc 3 _ rfl⟩
def SV (m : Mb) : Value := .slice m.A m.n m.c
def onl (ms : List Mb) : List Mb := ms.filter (·.o)
def but (ms : List Mb) : List Mb := ms.filter (fun m => !m.o)
theorem onl_take {ms : List Mb} {k : Nat} {m : Mb} (h : ms[k]? = some m) : onl (ms.take (k + 1)) = onl (ms.take k) ++ (if m.o then [m] else []) := by
  unfold onl
  rw [List.take_add_one, h]
  simp [List.filter_cons]
theorem but_take {ms : List Mb} {k : Nat} {m : Mb} (h : ms[k]? = some m) : but (ms.take (k + 1)) = but (ms.take k) ++ (if m.o then [] else [m]) := by
  unfold but
  rw [List.take_add_one, h]
  cases hm : m.o <;> simp [hm]
/-- two rows of lists beside each other -/
structure SP (B : Nat) (w : World) (v1 v2 : Value) (x1 x2 : List Mb) : Prop where
  size : B ≤ w.heap.size
  o1 : w.ownsRow B 23 1 v1 x1.length (x1.map SV)
  o2 : w.ownsRow B 23 1 v2 x2.length (x2.map SV)
  ap : ∀ g, v1.ownBlock = some g → v2.ownBlock ≠ some g
section
variable {B : Nat} {w w1 : World} {v1 v2 v' : Value} {x1 x2 : List Mb} {m : Mb}
theorem SP.next (h : SP B w v1 v2 x1 x2) (hb : Below w.heap.size w w1) : SP B w1 v1 v2 x1 x2 := ⟨Nat.le_trans h.size hb.size, ownk_next h.o1 hb, ownk_next h.o2 hb, h.ap⟩
theorem SP.more1 (h : SP B w v1 v2 x1 x2) (hg : w.grownBy w1 v1.ownBlock) (hr : w1.ownsRow B 23 1 v' (x1.length + 1) (x1.map SV ++ [SV m])) (hat : v'.ownBlock = v1.ownBlock ∨ v'.ownBlock = some w.heap.size) : SP B w1 v' v2 (x1 ++ [m]) x2 := by
  refine ⟨Nat.le_trans h.size hg.size, by rw [List.length_append, List.map_append]; exact hr, h.o2.kept hg ?_, fun g e e2 => ?_⟩
  · cases h2 : v2.ownBlock with
    | none => exact .inl rfl
    | some g => exact .inr fun e => h.ap g e.symm h2
  · rcases hat with e1 | e1
    · exact h.ap g (e1 ▸ e) e2
    · rw [e1] at e; cases e
      have := (h.o2.lt _ e2).2
      omega
theorem SP.more2 (h : SP B w v1 v2 x1 x2) (hg : w.grownBy w1 v2.ownBlock) (hr : w1.ownsRow B 23 1 v' (x2.length + 1) (x2.map SV ++ [SV m])) (hat : v'.ownBlock = v2.ownBlock ∨ v'.ownBlock = some w.heap.size) : SP B w1 v1 v' x1 (x2 ++ [m]) := by
  refine ⟨Nat.le_trans h.size hg.size, h.o1.kept hg ?_, by rw [List.length_append, List.map_append]; exact hr, fun g e e2 => ?_⟩
  · cases h1 : v1.ownBlock with
    | none => exact .inl rfl
    | some g => exact .inr fun e => h.ap g h1 e.symm
  · rcases hat with e1 | e1
    · exact h.ap g e (e1 ▸ e2)
    · rw [e1] at e2; cases e2
      have := (h.o1.lt _ e).2
      omega
/-- a row of lists of the call's own reads so -/
theorem ms_of_own {n : Nat} {c : Nat} {A : Option Addr} {xs : List Mb} (h : w.ownsRow B 23 1 (.slice A n c) n (xs.map SV)) (hl : xs.length = n) (ha : ∀ m ∈ xs, AR w m.A m.n m.xs) : MS w A n xs := by
  subst hl
  obtain ⟨A', c', e, _, hr⟩ := RI.of_own (enc := CS) (k := 1) (fun _ => rfl) (by rw [show xs.flatMap CS = xs.map SV by rw [List.map_eq_flatMap]; rfl]; exact h)
  cases e
  exact ⟨hr, ha⟩
end
theorem infoS : (Try.prog.info? 23).map (fun i => (i.zero, i.size, i.bytes)) = some (some (.slice none 0 0), 1, 24) := by kernel_rfl
set_option maxRecDepth 100000 in
set_option maxHeartbeats 4000000 in
theorem split_any (A : Option Addr) (n c : Nat) (ms : List Mb) (w : World) (h : MR w A n ms) (hn : n ≤ 1000000) :
    Calls Try.prog 22 #[.slice A n c] w fun e w' => ∃ (A1 A2 : Option Addr) (c1 c2 : Nat), e = .returned (.tuple #[.slice A1 (onl ms).length c1, .slice A2 (but ms).length c2]) ∧ MS w' A1 (onl ms).length (onl ms) ∧ MS w' A2 (but ms).length (but ms) ∧ Below w.heap.size w w' := by
  have H := Lib.hid h
  have HL := Lib.hid h.r.len
  obtain ⟨i0, hi, hz, hsz, hby⟩ := info_parts infoS
  clear h
  go_enter Try.func22, Try.ntmps22
  go_wp2
  go_loopw [2, 3, 8] (fun v1 v2 iv wr => ∃ (k : Nat) (x1 x2 : List Mb), k ≤ n ∧ iv = .int .i64 (k : Int) ∧ Hid (x1 = onl (ms.take k) ∧ x1.length ≤ k) ∧ Hid (x2 = but (ms.take k) ∧ x2.length ≤ k) ∧ Hid (SP w.heap.size wr v1 v2 x1 x2) ∧ Hid (Below w.heap.size w wr)) (fun _ _ iv _ => n - (intOf iv).toNat)
  case atStart => exact ⟨0, [], [], Nat.zero_le _, rfl, Lib.hid ⟨rfl, Nat.le_refl _⟩, Lib.hid ⟨rfl, Nat.le_refl _⟩, Lib.hid ⟨Nat.le_refl _, World.ownsRow_nil _ _ _ _, World.ownsRow_nil _ _ _ _, fun g e => by cases e⟩, Lib.hid (Below.refl _ _)⟩
  case round =>
    obtain ⟨k, x1, x2, hk, rfl, HX1, HX2, HP, HB⟩ := hrel
    generalize u2 = v1 at *
    generalize u3 = v2 at *
    rcases Nat.lt_or_ge k n with hlt | hge
    · obtain ⟨b, o, ⟨l1, g1, o1, A1, n1, c1, ys1⟩, rfl, hb, hm, hr, k0, k1, k2, k3⟩ := (H.out.next HB.out).cell hlt
      have hi0 : (k : Int) < (n : Int) := by omega
      have HO := Lib.hid (onl_take hm)
      have HU := Lib.hid (but_take hm)
      have HP4 := Lib.hid (HP.out.next ((Below.refl _ _).alloc (Nat.le_refl _) (.cells #[.int .i64 l1, .int .u32 g1, .bool o1, .slice A1 n1 c1] 38)))
      have HB4 := Lib.hid (HB.out.alloc HB.out.size (.cells #[.int .i64 l1, .int .u32 g1, .bool o1, .slice A1 n1 c1] 38))
      have hblk := Blk.new wr 38 #[.int .i64 l1, .int .u32 g1, .bool o1, .slice A1 n1 c1]
      clear hm hr
      go_upto_region 4 with fail
      generalize wr.alloc (.cells #[.int .i64 l1, .int .u32 g1, .bool o1, .slice A1 n1 c1] 38) = w4 at *
      generalize wr.heap.size = N at *
      have z2 : w4.cell? ⟨N, 2, none⟩ = some (.bool o1) := hblk.cell 2
      have z3 : w4.cell? ⟨N, 3, none⟩ = some (.slice A1 n1 c1) := hblk.cell 3
      clear hblk k0 k1 k2 k3 hb HP HB
      cases o1 with
      | true =>
        have q5 : x1.length ≤ 1000000 := by have := HX1.out.2; omega
        go_wp2_with (at_builtin; refine wpList_append_own_at _ rfl _ _ 52 rfl w.heap.size 23 i0 _ 1 24 Try.underlying52 hi hz hsz hby rfl (by decide) v1 x1.length (x1.map SV) rfl (HP4.out.next ((Below.refl _ _).alloc (Nat.le_refl _) _)).o1 ⟨w4.heap.size, 0, none⟩ 1 1 [.slice A1 n1 c1] rfl rfl (cell_one_new _ _ _) (by intro u hu; simp at hu; subst hu; rfl) (by unfold maxLen; omega) (by omega) (by have := HP4.out.size; simp; omega) ?_; intro v6 w6 hown6 hg6 _ hat6)
        have HP6 := Lib.hid ((HP4.out.next ((Below.refl _ _).alloc (Nat.le_refl _) (.cells #[.slice A1 n1 c1] 23))).more1 (m := ⟨l1, g1, true, A1, n1, c1, ys1⟩) hg6 hown6 hat6)
        have HB6 := Lib.hid ((HB4.out.trans (((Below.refl _ _).alloc (Nat.le_refl _) (.cells #[.slice A1 n1 c1] 23)).mono HB4.out.size)).grown hg6 (by have := HB4.out.size; simp; omega) (fun g e => ((HP4.out.next ((Below.refl _ _).alloc (Nat.le_refl _) (.cells #[.slice A1 n1 c1] 23))).o1.lt g e).1))
        clear hown6 hg6 hat6 HP4 HB4
        go_wp2
        go_roundw
        case rel => exact ⟨k + 1, x1 ++ [⟨l1, g1, true, A1, n1, c1, ys1⟩], x2, by omega, by go_num, Lib.hid ⟨by rw [HX1.out.1]; exact HO.out.symm, by have := HX1.out.2; simp; omega⟩, Lib.hid ⟨by rw [HX2.out.1]; have := HU.out; simpa using this.symm, by have := HX2.out.2; omega⟩, HP6, HB6⟩
        case measure => simp [intOf]; omega
      | false =>
        have q5 : x2.length ≤ 1000000 := by have := HX2.out.2; omega
        go_wp2_with (at_builtin; refine wpList_append_own_at _ rfl _ _ 52 rfl w.heap.size 23 i0 _ 1 24 Try.underlying52 hi hz hsz hby rfl (by decide) v2 x2.length (x2.map SV) rfl (HP4.out.next ((Below.refl _ _).alloc (Nat.le_refl _) _)).o2 ⟨w4.heap.size, 0, none⟩ 1 1 [.slice A1 n1 c1] rfl rfl (cell_one_new _ _ _) (by intro u hu; simp at hu; subst hu; rfl) (by unfold maxLen; omega) (by omega) (by have := HP4.out.size; simp; omega) ?_; intro v6 w6 hown6 hg6 _ hat6)
        have HP6 := Lib.hid ((HP4.out.next ((Below.refl _ _).alloc (Nat.le_refl _) (.cells #[.slice A1 n1 c1] 23))).more2 (m := ⟨l1, g1, false, A1, n1, c1, ys1⟩) hg6 hown6 hat6)
        have HB6 := Lib.hid ((HB4.out.trans (((Below.refl _ _).alloc (Nat.le_refl _) (.cells #[.slice A1 n1 c1] 23)).mono HB4.out.size)).grown hg6 (by have := HB4.out.size; simp; omega) (fun g e => ((HP4.out.next ((Below.refl _ _).alloc (Nat.le_refl _) (.cells #[.slice A1 n1 c1] 23))).o2.lt g e).1))
        clear hown6 hg6 hat6 HP4 HB4
        go_wp2
        go_roundw
        case rel => exact ⟨k + 1, x1, x2 ++ [⟨l1, g1, false, A1, n1, c1, ys1⟩], by omega, by go_num, Lib.hid ⟨by rw [HX1.out.1]; have := HO.out; simpa using this.symm, by have := HX1.out.2; omega⟩, Lib.hid ⟨by rw [HX2.out.1]; exact HU.out.symm, by have := HX2.out.2; simp; omega⟩, HP6, HB6⟩
        case measure => simp [intOf]; omega
    · have q1 : ¬ (k : Int) < (n : Int) := by omega
      have hF : ms.take k = ms := by rw [show k = n by omega, ← HL.out, List.take_length]
      have e1 : x1 = onl ms := by rw [HX1.out.1, hF]
      have e2 : x2 = but ms := by rw [HX2.out.1, hF]
      have hp1 := HP.out.o1
      have hp2 := HP.out.o2
      rw [e1] at hp1
      rw [e2] at hp2
      obtain ⟨A1, c1, rfl, _, _⟩ := own_slice hp1
      obtain ⟨A2, c2, rfl, _, _⟩ := own_slice hp2
      have HM := Lib.hid (H.out.next HB.out)
      have HQ1 := Lib.hid (ms_of_own hp1 rfl (fun m hm => HM.out.a m (List.mem_filter.1 hm).1))
      have HQ2 := Lib.hid (ms_of_own hp2 rfl (fun m hm => HM.out.a m (List.mem_filter.1 hm).1))
      clear e1 e2 hF HP HX1 HX2 hp1 hp2
      go_wp2
      go_ret2
      exact ⟨A1, A2, ⟨c1, c2, rfl⟩, HQ1.out, HQ2.out, HB.out⟩
end Go.Proofs.Ytfiiichiflglaaa

