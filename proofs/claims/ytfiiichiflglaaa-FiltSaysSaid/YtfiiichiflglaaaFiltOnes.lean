/- P14.1: a member alone is its own filter; one that listens to all lets all; one that lists what another one excludes lets it all the same; walked. -/
import Derived.Test.YtfiiichiflglaaaFg
import Derived.Test.YtfiiichiflglaaaAppA
namespace Go.Proofs.Ytfiiichiflglaaa
open Go.RowKit Sm Go.Maps

/-- a member that listens to all but one, a member that listens to one alone -/
def mbn (a : Int) (A : Option Addr) : Mb := ⟨0, 0, false, A, 1, 1, [a]⟩
def mbo (a : Int) (A : Option Addr) : Mb := ⟨0, 0, true, A, 1, 1, [a]⟩
theorem of_all {ms : List Mb} (h : mb0 ∈ ms) : anyM ms = true ∧ ofL ms = [] := by
  have h1 : anyM ms = true := by unfold anyM; exact decide_eq_true (but_pos.2 ⟨mb0, h, rfl⟩)
  refine ⟨h1, List.eq_nil_iff_forall_not_mem.2 fun a ha => ?_⟩
  have h2 := lets_of ms a
  have h3 : admP ms a = true := adm_iff.2 (.inr ⟨mb0, h, rfl, by simp [mb0]⟩)
  rw [h1, h3, List.contains_iff_mem.2 ha] at h2
  cases h2
theorem any_n (a : Int) (A : Option Addr) : anyM [mbn a A] = true := rfl
theorem any_no (a : Int) (A B : Option Addr) : anyM [mbn a A, mbo a B] = true := rfl
theorem any_one (m : Mb) : anyM [m] = !m.o := by
  unfold anyM but
  cases h : m.o <;> simp [h]
theorem adm_one (m : Mb) (a : Int) : admP [m] a = (m.xs.contains a == m.o) := by unfold admP; simp
theorem adm_n (a b : Int) (A : Option Addr) : admP [mbn a A] b = (a != b) := by
  rw [adm_one]
  show ([a].contains b == false) = _
  by_cases h : a = b
  · subst h; simp
  · have : [a].contains b = false := by
      rw [← Bool.not_eq_true, List.contains_iff_mem]; simp; exact fun e => h e.symm
    rw [this]; simp [h]
theorem adm_no (a b : Int) (A B : Option Addr) : admP [mbn a A, mbo a B] b = true := by
  rw [adm_iff]
  by_cases h : b = a
  · exact .inl ⟨mbo a B, by simp, rfl, by simp [mbo, h]⟩
  · exact .inr ⟨mbn a A, by simp, rfl, by simp [mbn, h]⟩
theorem own_AR {w : World} {base n c : Nat} {A : Option Addr} {xs : List Int} (h : w.ownsRow base 27 1 (.slice A n c) n (A32 xs)) (hx : IsAs xs) : AR w A n xs := by
  obtain ⟨A', c', e, _, har, _⟩ := own_forma h hx
  cases e
  exact har
theorem of_isAs {ms : List Mb} (h : ∀ m ∈ ms, IsAs m.xs) : IsAs (ofL ms) := by
  intro a ha
  unfold ofL at ha
  split at ha
  · obtain ⟨m, hm, hx⟩ := mem_flat.1 (mem_ref.1 ha).1
    exact h m (mem_but.1 hm).1 a hx
  · obtain ⟨m, hm, hx⟩ := mem_flat.1 ((grp_mem _ _).1 ha)
    exact h m (mem_onl.1 hm).1 a hx
/-- filt.Of, said with what its sources read as -/
theorem of_any' (A : Option Addr) (n c : Nat) (ms : List Mb) (w : World) (h : MR w A n ms) (hn : n ≤ 1000) (hx : ∀ m ∈ ms, m.n ≤ 1000) :
    Calls Try.prog 10 #[.slice A n c] w fun e w' => ∃ (A' : Option Addr) (c' : Nat), e = .returned (.agg #[.bool (anyM ms), .slice A' (ofL ms).length c']) ∧ AR w' A' (ofL ms).length (ofL ms) ∧ Below w.heap.size w w' := by
  have hfl : ∀ ks : List Mb, (∀ m ∈ ks, m.xs.length ≤ 1000) → (flat ks).length ≤ ks.length * 1000 := by
    intro ks
    induction ks with
    | nil => intro _; simp [flat]
    | cons m ks ih =>
      intro hk
      have h1 := ih (fun x hx => hk x (List.mem_cons_of_mem _ hx))
      have h2 := hk m (List.mem_cons_self ..)
      unfold flat at *
      simp only [List.flatMap_cons, List.length_append, List.length_cons]
      omega
  have hl := hfl ms (fun m hm => by rw [(h.a m hm).len]; exact hx m hm)
  rw [h.r.len] at hl
  refine (of_any A n c ms w h (by omega) (by omega) (fun m hm => by have := hx m hm; omega)).mono ?_
  rintro e w' ⟨A', c', rfl, hr, hb⟩
  exact ⟨A', c', rfl, own_AR hr (of_isAs fun m hm => (h.a m hm).isAs), hb⟩
theorem ofL_len (ms : List Mb) : (ofL ms).length ≤ (flat ms).length := by
  unfold ofL
  split
  · unfold refL
    exact Nat.le_trans (grp_len _) (Nat.le_trans (List.length_filter_le _ _) (flat_part _ ms))
  · exact Nat.le_trans (grp_len _) (flat_part _ ms)
set_option maxRecDepth 100000 in
set_option maxHeartbeats 8000000 in
theorem law_ones (m : Mb) (a b : Int) (w : World) (hm : AR w m.A m.n m.xs) (hn : m.n ≤ 9223372036854775807) (ha : isA a) :
    Calls Try.prog 6 #[.agg #[.int .i64 m.l, .int .u32 m.g, .bool m.o, .slice m.A m.n m.c], .int .u32 a, .int .u32 b] w fun e w' => e = .returned (.bool true) ∧ Below w.heap.size w w' := by
  obtain ⟨l, g, o, A, n, c, xs⟩ := m
  simp only at hm hn ⊢
  have hb0 := (Below.refl w.heap.size w).alloc (Nat.le_refl _) (.cells #[.int .i64 l, .int .u32 g, .bool o, .slice A n c] 38)
  have hk0 := Blk.new w 38 #[.int .i64 l, .int .u32 g, .bool o, .slice A n c]
  have ha0 := hm.next hb0
  have HI := Lib.hid ha
  clear hm ha
  go_enter Try.func6, Try.ntmps6
  go_upto_region 1 with fail
  generalize w.alloc (.cells #[.int .i64 l, .int .u32 g, .bool o, .slice A n c] 38) = w0 at *
  have HB := Lib.hid hb0
  have HM := Lib.hid hk0
  have HA := Lib.hid ha0
  have HZ : Hid (w.heap.size ≤ w0.heap.size) := Lib.hid hb0.size
  clear hb0 hk0 ha0
  generalize hN3 : w.heap.size = N3 at *
  go_upto_region 4 with (go_at_call 8; (with_reducible refine (first14_any w0).mono ?_); rintro e w1 ⟨rfl, hb1⟩)
  replace HM := Lib.hid (HM.out.next hb1)
  replace HA := Lib.hid (HA.out.next hb1)
  replace HB := Lib.hid (HB.out.trans (hb1.mono HZ.out))
  replace HZ : Hid (N3 ≤ w1.heap.size) := Lib.hid (Nat.le_trans HZ.out hb1.size)
  clear hb1 w0
  have z0 : w1.cell? ⟨N3, 0, none⟩ = some (.int .i64 l) := HM.out.cell 0
  have z1 : w1.cell? ⟨N3, 1, none⟩ = some (.int .u32 g) := HM.out.cell 1
  have z2 : w1.cell? ⟨N3, 2, none⟩ = some (.bool o) := HM.out.cell 2
  have z3 : w1.cell? ⟨N3, 3, none⟩ = some (.slice A n c) := HM.out.cell 3
  have hbl := (Below.refl w1.heap.size w1).alloc (Nat.le_refl _) (.cells #[.int .i64 l, .int .u32 g, .bool o, .slice A n c] 38)
  have HLT := Lib.hid (light_any (some ⟨w1.heap.size, 0, none⟩) 1 1 [⟨l, g, o, A, n, c, xs⟩] (w1.alloc (.cells #[.int .i64 l, .int .u32 g, .bool o, .slice A n c] 38)) (mr_lit1 (m := ⟨l, g, o, A, n, c, xs⟩) (Blk.new w1 _ _) (HA.out.next hbl)) (by omega))
  cases hl : ltP [⟨l, g, o, A, n, c, xs⟩] with
  | false =>
    rw [hl] at HLT
    go_wp2_with (go_at_call 9; (with_reducible refine HLT.out.mono ?_); rintro e w2 ⟨rfl, rfl⟩)
    go_ret
    exact ⟨rfl, by rw [hN3]; exact HB.out.trans (hbl.mono HZ.out)⟩
  | true =>
    rw [hl] at HLT
    have hn10 : n ≤ 10 := by
      unfold ltP at hl
      simp at hl
      exact hl
    clear hl hn
    go_upto_region 6 with (go_at_call 9; (with_reducible refine HLT.out.mono ?_); rintro e w2 ⟨rfl, rfl⟩)
    clear z0 z1 z2 z3 HLT
    generalize w1.alloc (.cells #[.int .i64 l, .int .u32 g, .bool o, .slice A n c] 38) = wa at *
    replace HM := Lib.hid (HM.out.next hbl)
    replace HA := Lib.hid (HA.out.next hbl)
    replace HB := Lib.hid (HB.out.trans (hbl.mono HZ.out))
    replace HZ : Hid (N3 ≤ wa.heap.size) := Lib.hid (Nat.le_trans HZ.out hbl.size)
    clear hbl
    have z0 : wa.cell? ⟨N3, 0, none⟩ = some (.int .i64 l) := HM.out.cell 0
    have z1 : wa.cell? ⟨N3, 1, none⟩ = some (.int .u32 g) := HM.out.cell 1
    have z2 : wa.cell? ⟨N3, 2, none⟩ = some (.bool o) := HM.out.cell 2
    have z3 : wa.cell? ⟨N3, 3, none⟩ = some (.slice A n c) := HM.out.cell 3
    have hbq : Below wa.heap.size wa (wa.alloc (.cells #[.int .i64 l, .int .u32 g, .bool o, .slice A n c, .int .i64 0, .int .u32 0, .bool false, .slice none 0 0] 38)) := ((Below.refl wa.heap.size wa).alloc (by first | exact Nat.le_refl _ | (simp only [sz_alloc]; omega)) (.cells #[.int .i64 l, .int .u32 g, .bool o, .slice A n c, .int .i64 0, .int .u32 0, .bool false, .slice none 0 0] 38))
    have HO8 := Lib.hid (of_any' (some ⟨wa.heap.size, 0, none⟩) 2 2 [⟨l, g, o, A, n, c, xs⟩, mb0] (wa.alloc (.cells #[.int .i64 l, .int .u32 g, .bool o, .slice A n c, .int .i64 0, .int .u32 0, .bool false, .slice none 0 0] 38)) (mr_lit2 (m := ⟨l, g, o, A, n, c, xs⟩) (k := mb0) (Blk.new wa _ _) (HA.out.next ((Below.refl _ _).alloc (Nat.le_refl _) _)) (AR.none_ _ _)) (by omega) (fun m hm => by simp at hm; exact hm.elim (fun e => by subst e; show n ≤ 1000; omega) (fun e => by subst e; decide)))
    have ea8 := of_all (ms := [⟨l, g, o, A, n, c, xs⟩, mb0]) (by simp)
    rw [ea8.1, ea8.2] at HO8
    clear ea8
    go_upto_region 7 with (go_at_call 10; with_reducible refine HO8.out.mono ?_; rintro e wx ⟨A8, c8, rfl, har8, hbx⟩)
    have hby : Below wa.heap.size wa (wx.alloc (.cells #[.bool (true), .slice A8 0 c8] 25)) := (hbq.trans (hbx.mono (by first | omega | (simp only [sz_alloc]; omega)))).alloc (by have h1 := hbx.size; first | omega | (simp only [sz_alloc] at h1; omega)) _
    have K8 := Lib.hid (Blk.new wx 25 #[.bool (true), .slice A8 0 c8])
    have R8 := Lib.hid (har8.next ((Below.refl wx.heap.size wx).alloc (Nat.le_refl _) (.cells #[.bool (true), .slice A8 0 c8] 25)))
    clear z0 z1 z2 z3
    clear hbq hbx har8 HO8
    generalize wx.alloc (.cells #[.bool (true), .slice A8 0 c8] 25) = wb at *
    generalize wx.heap.size = N8 at *
    clear wx
    replace HM := Lib.hid (HM.out.next hby)
    replace HA := Lib.hid (HA.out.next hby)
    replace HB := Lib.hid (HB.out.trans (hby.mono HZ.out))
    replace HZ : Hid (N3 ≤ wb.heap.size) := Lib.hid (Nat.le_trans HZ.out hby.size)
    clear hby
    have hbq : Below wb.heap.size wb ((wb.alloc (.cells #[.int .u32 a] 27)).alloc (.cells #[.int .i64 0, .int .u32 0, .bool false, .slice (some ⟨wb.heap.size, 0, none⟩) 1 1] 38)) := (((Below.refl wb.heap.size wb).alloc (by first | exact Nat.le_refl _ | (simp only [sz_alloc]; omega)) (.cells #[.int .u32 a] 27)).alloc (by first | exact Nat.le_refl _ | (simp only [sz_alloc]; omega)) (.cells #[.int .i64 0, .int .u32 0, .bool false, .slice (some ⟨wb.heap.size, 0, none⟩) 1 1] 38))
    have HO9 := Lib.hid (of_any' (some ⟨(wb.alloc (.cells #[.int .u32 a] 27)).heap.size, 0, none⟩) 1 1 [mbn a (some ⟨wb.heap.size, 0, none⟩)] ((wb.alloc (.cells #[.int .u32 a] 27)).alloc (.cells #[.int .i64 0, .int .u32 0, .bool false, .slice (some ⟨wb.heap.size, 0, none⟩) 1 1] 38)) (mr_lit1 (m := mbn a (some ⟨wb.heap.size, 0, none⟩)) (Blk.new _ _ _) (ar_lit ((Blk.new wb _ _).alloc _) HI.out)) (by omega) (fun m hm => by simp at hm; subst hm; show 1 ≤ 1000; omega))
    simp only [sz_alloc, Nat.add_assoc, Nat.reduceAdd] at HO9
    rw [any_n] at HO9
    obtain ⟨m9, hm9⟩ : ∃ m9, mbn a (some ⟨wb.heap.size, 0, none⟩) = m9 := ⟨_, rfl⟩
    have HL9 : Hid (∀ x, ((ofL [m9]).contains x != true) = (a != x)) := Lib.hid (fun x => by have h := lets_of [m9] x; rw [← hm9, any_n, adm_n] at h; rw [← hm9]; exact h)
    have HS9 : Hid ((ofL [m9]).length ≤ 1000) := Lib.hid (Nat.le_trans (ofL_len _) (by rw [← hm9]; show 1 ≤ 1000; omega))
    rw [hm9] at HO9
    clear hm9
    go_upto_region 8 with (go_at_call 10; with_reducible refine HO9.out.mono ?_; rintro e wx ⟨A9, c9, rfl, har9, hbx⟩)
    have hby : Below wb.heap.size wb (wx.alloc (.cells #[.bool (true), .slice A9 (ofL [m9]).length c9] 25)) := (hbq.trans (hbx.mono (by first | omega | (simp only [sz_alloc]; omega)))).alloc (by have h1 := hbx.size; first | omega | (simp only [sz_alloc] at h1; omega)) _
    have K9 := Lib.hid (Blk.new wx 25 #[.bool (true), .slice A9 (ofL [m9]).length c9])
    have R9 := Lib.hid (har9.next ((Below.refl wx.heap.size wx).alloc (Nat.le_refl _) (.cells #[.bool (true), .slice A9 (ofL [m9]).length c9] 25)))
    clear hbq hbx har9 HO9
    generalize wx.alloc (.cells #[.bool (true), .slice A9 (ofL [m9]).length c9] 25) = wc at *
    generalize wx.heap.size = N9 at *
    clear wx
    replace HM := Lib.hid (HM.out.next hby)
    replace HA := Lib.hid (HA.out.next hby)
    replace K8 := Lib.hid (K8.out.next hby)
    replace R8 := Lib.hid (R8.out.next hby)
    replace HB := Lib.hid (HB.out.trans (hby.mono HZ.out))
    replace HZ : Hid (N3 ≤ wc.heap.size) := Lib.hid (Nat.le_trans HZ.out hby.size)
    clear hby
    have hq2 : Blk (((wc.alloc (.cells #[.int .u32 a] 27)).alloc (.cells #[.int .u32 a] 27)).alloc (.cells #[.int .i64 0, .int .u32 0, .bool false, .slice (some ⟨wc.heap.size, 0, none⟩) 1 1, .int .i64 0, .int .u32 0, .bool true, .slice (some ⟨wc.heap.size + 1, 0, none⟩) 1 1] 38)) (wc.heap.size + 1) 27 #[.int .u32 a] := by
      have := (Blk.new (wc.alloc (.cells #[.int .u32 a] 27)) 27 #[.int .u32 a]).alloc (.cells #[.int .i64 0, .int .u32 0, .bool false, .slice (some ⟨wc.heap.size, 0, none⟩) 1 1, .int .i64 0, .int .u32 0, .bool true, .slice (some ⟨wc.heap.size + 1, 0, none⟩) 1 1] 38)
      rw [sz_alloc] at this
      exact this
    have hbq : Below wc.heap.size wc (((wc.alloc (.cells #[.int .u32 a] 27)).alloc (.cells #[.int .u32 a] 27)).alloc (.cells #[.int .i64 0, .int .u32 0, .bool false, .slice (some ⟨wc.heap.size, 0, none⟩) 1 1, .int .i64 0, .int .u32 0, .bool true, .slice (some ⟨wc.heap.size + 1, 0, none⟩) 1 1] 38)) := ((((Below.refl wc.heap.size wc).alloc (by first | exact Nat.le_refl _ | (simp only [sz_alloc]; omega)) (.cells #[.int .u32 a] 27)).alloc (by first | exact Nat.le_refl _ | (simp only [sz_alloc]; omega)) (.cells #[.int .u32 a] 27)).alloc (by first | exact Nat.le_refl _ | (simp only [sz_alloc]; omega)) (.cells #[.int .i64 0, .int .u32 0, .bool false, .slice (some ⟨wc.heap.size, 0, none⟩) 1 1, .int .i64 0, .int .u32 0, .bool true, .slice (some ⟨wc.heap.size + 1, 0, none⟩) 1 1] 38))
    have HO10 := Lib.hid (of_any' (some ⟨((wc.alloc (.cells #[.int .u32 a] 27)).alloc (.cells #[.int .u32 a] 27)).heap.size, 0, none⟩) 2 2 [mbn a (some ⟨wc.heap.size, 0, none⟩), mbo a (some ⟨wc.heap.size + 1, 0, none⟩)] (((wc.alloc (.cells #[.int .u32 a] 27)).alloc (.cells #[.int .u32 a] 27)).alloc (.cells #[.int .i64 0, .int .u32 0, .bool false, .slice (some ⟨wc.heap.size, 0, none⟩) 1 1, .int .i64 0, .int .u32 0, .bool true, .slice (some ⟨wc.heap.size + 1, 0, none⟩) 1 1] 38)) (mr_lit2 (m := mbn a (some ⟨wc.heap.size, 0, none⟩)) (k := mbo a (some ⟨wc.heap.size + 1, 0, none⟩)) (Blk.new _ _ _) (ar_lit (((Blk.new wc _ _).alloc _).alloc _) HI.out) (ar_lit hq2 HI.out)) (by omega) (fun m hm => by simp at hm; exact hm.elim (fun e => by subst e; show 1 ≤ 1000; omega) (fun e => by subst e; show 1 ≤ 1000; omega)))
    simp only [sz_alloc, Nat.add_assoc, Nat.reduceAdd] at HO10
    rw [any_no] at HO10
    obtain ⟨l10, hm10⟩ : ∃ l10, [mbn a (some ⟨wc.heap.size, 0, none⟩), mbo a (some ⟨wc.heap.size + 1, 0, none⟩)] = l10 := ⟨_, rfl⟩
    have HL10 : Hid (∀ x, ((ofL l10).contains x != true) = true) := Lib.hid (fun x => by have h := lets_of l10 x; rw [← hm10, any_no, adm_no] at h; rw [← hm10]; exact h)
    have HS10 : Hid ((ofL l10).length ≤ 1000) := Lib.hid (Nat.le_trans (ofL_len _) (by rw [← hm10]; show 2 ≤ 1000; omega))
    rw [hm10] at HO10
    clear hm10
    go_upto_region 9 with (go_at_call 10; with_reducible refine HO10.out.mono ?_; rintro e wx ⟨A10, c10, rfl, har10, hbx⟩)
    have hby : Below wc.heap.size wc (wx.alloc (.cells #[.bool (true), .slice A10 (ofL l10).length c10] 25)) := (hbq.trans (hbx.mono (by first | omega | (simp only [sz_alloc]; omega)))).alloc (by have h1 := hbx.size; first | omega | (simp only [sz_alloc] at h1; omega)) _
    have K10 := Lib.hid (Blk.new wx 25 #[.bool (true), .slice A10 (ofL l10).length c10])
    have R10 := Lib.hid (har10.next ((Below.refl wx.heap.size wx).alloc (Nat.le_refl _) (.cells #[.bool (true), .slice A10 (ofL l10).length c10] 25)))
    clear hbq hbx har10 HO10
    generalize wx.alloc (.cells #[.bool (true), .slice A10 (ofL l10).length c10] 25) = wd at *
    generalize wx.heap.size = N10 at *
    clear wx
    replace HM := Lib.hid (HM.out.next hby)
    replace HA := Lib.hid (HA.out.next hby)
    replace K8 := Lib.hid (K8.out.next hby)
    replace R8 := Lib.hid (R8.out.next hby)
    replace K9 := Lib.hid (K9.out.next hby)
    replace R9 := Lib.hid (R9.out.next hby)
    replace HB := Lib.hid (HB.out.trans (hby.mono HZ.out))
    replace HZ : Hid (N3 ≤ wd.heap.size) := Lib.hid (Nat.le_trans HZ.out hby.size)
    clear hby
    have z0 : wd.cell? ⟨N3, 0, none⟩ = some (.int .i64 l) := HM.out.cell 0
    have z1 : wd.cell? ⟨N3, 1, none⟩ = some (.int .u32 g) := HM.out.cell 1
    have z2 : wd.cell? ⟨N3, 2, none⟩ = some (.bool o) := HM.out.cell 2
    have z3 : wd.cell? ⟨N3, 3, none⟩ = some (.slice A n c) := HM.out.cell 3
    have hbq : Below wd.heap.size wd (wd.alloc (.cells #[.int .i64 l, .int .u32 g, .bool o, .slice A n c] 38)) := ((Below.refl wd.heap.size wd).alloc (by first | exact Nat.le_refl _ | (simp only [sz_alloc]; omega)) (.cells #[.int .i64 l, .int .u32 g, .bool o, .slice A n c] 38))
    have HO11 := Lib.hid (of_any' (some ⟨wd.heap.size, 0, none⟩) 1 1 [⟨l, g, o, A, n, c, xs⟩] (wd.alloc (.cells #[.int .i64 l, .int .u32 g, .bool o, .slice A n c] 38)) (mr_lit1 (m := ⟨l, g, o, A, n, c, xs⟩) (Blk.new wd _ _) (HA.out.next ((Below.refl _ _).alloc (Nat.le_refl _) _))) (by omega) (fun m hm => by simp at hm; subst hm; show n ≤ 1000; omega))
    obtain ⟨nb, hnb⟩ : ∃ nb, (!o) = nb := ⟨_, rfl⟩
    have e11 : anyM [⟨l, g, o, A, n, c, xs⟩] = nb := by rw [any_one]; exact hnb
    rw [e11] at HO11
    have HL11 : Hid (((ofL [⟨l, g, o, A, n, c, xs⟩]).contains a != nb) = (xs.contains a == o)) := Lib.hid (by have h := lets_of [⟨l, g, o, A, n, c, xs⟩] a; rw [e11, adm_one] at h; exact h)
    have HNB := Lib.hid hnb
    clear e11 hnb
    have HS11 : Hid ((ofL [⟨l, g, o, A, n, c, xs⟩]).length ≤ 1000) := Lib.hid (Nat.le_trans (ofL_len _) (by have := HA.out.len; simp [flat]; omega))
    generalize ofL [⟨l, g, o, A, n, c, xs⟩] = l11 at *
    go_upto_region 10 with (go_at_call 10; with_reducible refine HO11.out.mono ?_; rintro e wx ⟨A11, c11, rfl, har11, hbx⟩)
    have hby : Below wd.heap.size wd (wx.alloc (.cells #[.bool (nb), .slice A11 l11.length c11] 25)) := (hbq.trans (hbx.mono (by first | omega | (simp only [sz_alloc]; omega)))).alloc (by have h1 := hbx.size; first | omega | (simp only [sz_alloc] at h1; omega)) _
    have K11 := Lib.hid (Blk.new wx 25 #[.bool (nb), .slice A11 l11.length c11])
    have R11 := Lib.hid (har11.next ((Below.refl wx.heap.size wx).alloc (Nat.le_refl _) (.cells #[.bool (nb), .slice A11 l11.length c11] 25)))
    clear z0 z1 z2 z3
    clear hbq hbx har11 HO11
    generalize wx.alloc (.cells #[.bool (nb), .slice A11 l11.length c11] 25) = we at *
    generalize wx.heap.size = N11 at *
    clear wx
    replace HM := Lib.hid (HM.out.next hby)
    replace HA := Lib.hid (HA.out.next hby)
    replace K8 := Lib.hid (K8.out.next hby)
    replace R8 := Lib.hid (R8.out.next hby)
    replace K9 := Lib.hid (K9.out.next hby)
    replace R9 := Lib.hid (R9.out.next hby)
    replace K10 := Lib.hid (K10.out.next hby)
    replace R10 := Lib.hid (R10.out.next hby)
    replace HB := Lib.hid (HB.out.trans (hby.mono HZ.out))
    replace HZ : Hid (N3 ≤ we.heap.size) := Lib.hid (Nat.le_trans HZ.out hby.size)
    clear hby
    have HX : Hid (∀ p : Snc we, (p.W.cell? ⟨N8, 0, none⟩ = some (.bool true) ∧ p.W.cell? ⟨N8, 1, none⟩ = some (.slice A8 0 c8)) ∧ (p.W.cell? ⟨N9, 0, none⟩ = some (.bool true) ∧ p.W.cell? ⟨N9, 1, none⟩ = some (.slice A9 (ofL [m9]).length c9)) ∧ (p.W.cell? ⟨N10, 0, none⟩ = some (.bool true) ∧ p.W.cell? ⟨N10, 1, none⟩ = some (.slice A10 (ofL l10).length c10)) ∧ (p.W.cell? ⟨N11, 0, none⟩ = some (.bool nb) ∧ p.W.cell? ⟨N11, 1, none⟩ = some (.slice A11 l11.length c11)) ∧
        (p.W.cell? ⟨N3, 0, none⟩ = some (.int .i64 l) ∧ p.W.cell? ⟨N3, 1, none⟩ = some (.int .u32 g) ∧ p.W.cell? ⟨N3, 2, none⟩ = some (.bool o) ∧ p.W.cell? ⟨N3, 3, none⟩ = some (.slice A n c))) := Lib.hid fun p =>
      ⟨⟨(K8.out.next p.b).cell 0, (K8.out.next p.b).cell 1⟩, ⟨(K9.out.next p.b).cell 0, (K9.out.next p.b).cell 1⟩, ⟨(K10.out.next p.b).cell 0, (K10.out.next p.b).cell 1⟩, ⟨(K11.out.next p.b).cell 0, (K11.out.next p.b).cell 1⟩, ⟨(HM.out.next p.b).cell 0, (HM.out.next p.b).cell 1, (HM.out.next p.b).cell 2, (HM.out.next p.b).cell 3⟩⟩
    obtain ⟨V, hV⟩ : ∃ V, (xs.contains a == o) = V := ⟨_, rfl⟩
    obtain ⟨V3, hV3⟩ : ∃ V3, (a != b) = V3 := ⟨_, rfl⟩
    have G1 : ∀ p : Snc we, Calls Try.prog 13 #[.agg #[.bool nb, .slice A11 l11.length c11], .int .u32 a] p.W fun e w' => e = .returned (.bool V) ∧ ∃ Q : Snc we, w' = Q.W := fun p => Calls.since ((lets_any nb A11 l11.length c11 l11 a p.W (R11.out.next p.b) (by have := HS11.out; omega)).mono fun e w' h => ⟨by rw [h.1, HL11.out, hV], h.2⟩)
    have G2 : ∀ p : Snc we, Calls Try.prog 15 #[.agg #[.int .i64 l, .int .u32 g, .bool o, .slice A n c], .int .u32 a] p.W fun e w' => e = .returned (.bool V) ∧ ∃ Q : Snc we, w' = Q.W := fun p => Calls.since ((admits_any l g o A n c xs a p.W (HA.out.next p.b) (by omega)).mono fun e w' h => ⟨by rw [h.1, hV], h.2⟩)
    have G3 : ∀ p : Snc we, Calls Try.prog 13 #[.agg #[.bool true, .slice A8 0 c8], .int .u32 a] p.W fun e w' => e = .returned (.bool true) ∧ ∃ Q : Snc we, w' = Q.W := fun p => Calls.since ((lets_any true A8 0 c8 [] a p.W (R8.out.next p.b) (by omega)).mono fun e w' h => ⟨by rw [h.1]; rfl, h.2⟩)
    have G4 : ∀ p : Snc we, Calls Try.prog 13 #[.agg #[.bool true, .slice A9 (ofL [m9]).length c9], .int .u32 b] p.W fun e w' => e = .returned (.bool V3) ∧ ∃ Q : Snc we, w' = Q.W := fun p => Calls.since ((lets_any true A9 (ofL [m9]).length c9 (ofL [m9]) b p.W (R9.out.next p.b) (by have := HS9.out; omega)).mono fun e w' h => ⟨by rw [h.1, HL9.out, hV3], h.2⟩)
    have G5 : ∀ x, ∀ p : Snc we, Calls Try.prog 13 #[.agg #[.bool true, .slice A10 (ofL l10).length c10], .int .u32 x] p.W fun e w' => e = .returned (.bool true) ∧ ∃ Q : Snc we, w' = Q.W := fun x p => Calls.since ((lets_any true A10 (ofL l10).length c10 (ofL l10) x p.W (R10.out.next p.b) (by have := HS10.out; omega)).mono fun e w' h => ⟨by rw [h.1, HL10.out], h.2⟩)
    have k80 := fun p => (HX.out p).1.1
    have k81 := fun p => (HX.out p).1.2
    have k90 := fun p => (HX.out p).2.1.1
    have k91 := fun p => (HX.out p).2.1.2
    have k100 := fun p => (HX.out p).2.2.1.1
    have k101 := fun p => (HX.out p).2.2.1.2
    have k110 := fun p => (HX.out p).2.2.2.1.1
    have k111 := fun p => (HX.out p).2.2.2.1.2
    have k0 := fun p => (HX.out p).2.2.2.2.1
    have k1 := fun p => (HX.out p).2.2.2.2.2.1
    have k2 := fun p => (HX.out p).2.2.2.2.2.2.1
    have k3 := fun p => (HX.out p).2.2.2.2.2.2.2
    clear HX K8 K9 K10 K11 HM HA R8 R9 R10 R11 HL9 HL10 HL11 HS9 HS10 HS11 hV
    cases o <;> cases nb <;> first | (exact absurd HNB.out (by decide)) | skip
    all_goals clear HNB
    all_goals cases V <;> cases V3
    all_goals
      refine wp_region_since (by kernel_rfl) (by kernel_rfl) ?_
      repeat (go_big_quiet_step (first | (go_at_call 13; with_reducible exact G1 _) | (go_at_call 15; with_reducible exact G2 _) | (go_at_call 13; with_reducible exact G3 _) | (go_at_call 13; with_reducible exact G4 _) | (go_at_call 13; with_reducible exact G5 _ _)))
      refine wpQuiet_nil ?_
      rintro w5 ⟨P5, rfl⟩
      have HB5 := Lib.hid (HB.out.trans (P5.b.mono HZ.out))
      clear G1 G2 G3 G4 G5 k80 k81 k90 k91 k100 k101 k110 k111 k0 k1 k2 k3
      go_wp2
      go_ret
      exact ⟨rfl, by rw [hN3]; exact HB5.out⟩
end Go.Proofs.Ytfiiichiflglaaa

