/- filt.Keys; P14.1: the keys of what a link listens to are any source's, or just those that it lets; walked. -/
import Derived.Test.YtfiiichiflglaaaFiltOnes
namespace Go.Proofs.Ytfiiichiflglaaa
open Go.RowKit Sm Go.Maps

def CKy : Int × Int → List Value := fun k => [.int .u32 k.1, .int .u32 k.2]
def keysL (b : Bool) (xs : List Int) (g : Int) : List (Int × Int) := if b then [(0, g)] else (groupsL xs).map (fun s => (s, g))
theorem lit_cells {w : World} {g : Nat} {t : TypeId} {cs : List Value} (h : Blk w g t cs.toArray) : ∀ j u, cs[j]? = some u → w.cell? ((⟨g, 0, none⟩ : Addr).add j) = some u := by
  intro j u hj
  have := h.cell j
  rw [WideShapes.add_plain, Nat.zero_add, this]
  simpa using hj
theorem flat_keys (G : List Int) (g : Int) (k : Nat) (x : Int) (h : G[k]? = some x) : ((G.take (k + 1)).map (fun s => (s, g))).flatMap CKy = ((G.take k).map (fun s => (s, g))).flatMap CKy ++ [.int .u32 x, .int .u32 g] := by
  rw [List.take_add_one, h]
  simp [CKy]
theorem infoK : (Try.prog.info? 48).map (fun i => (i.zero, i.size, i.bytes)) = some (some (.agg #[.int .u32 0, .int .u32 0]), 2, 8) := by kernel_rfl
theorem ri_one {w : World} {g : Nat} {t : TypeId} {k : Int × Int} (h : Blk w g t #[.int .u32 k.1, .int .u32 k.2]) : RI CKy 2 w (some ⟨g, 0, none⟩) 1 [k] :=
  ⟨rfl, fun _ => ⟨g, 0, rfl, h.lt, fun i x hx j v hv => by
    have hi : i = 0 := by have := (List.getElem?_eq_some_iff.1 hx).1; simp at this; exact this
    subst hi
    simp at hx
    subst hx
    have := h.cell j
    rw [show (0 : Nat) + 0 * 2 + j = j by omega, this]
    simpa [CKy] using hv⟩⟩
set_option maxHeartbeats 4000000 in
theorem keys_any (b : Bool) (A : Option Addr) (n c : Nat) (xs : List Int) (g : Int) (w : World) (h : AR w A n xs) (hn : n ≤ 100000) :
    Calls Try.prog 17 #[.agg #[.bool b, .slice A n c], .int .u32 g] w fun e w' => ∃ (A' : Option Addr) (c' : Nat), e = .returned (.slice A' (keysL b xs g).length c') ∧ RI CKy 2 w' A' (keysL b xs g).length (keysL b xs g) ∧ Below w.heap.size w w' := by
  have hk := Blk.new w 25 #[.bool b, .slice A n c]
  have hB := (Below.refl w.heap.size w).alloc (Nat.le_refl _) (.cells #[.bool b, .slice A n c] 25)
  have har := h.next hB
  have HB := Lib.hid hB
  have HN := Lib.hid h.len
  clear h hB
  obtain ⟨i0, hi, hz, hsz, hby⟩ := info_parts infoK
  go_enter Try.func17, Try.ntmps17
  go_upto_region 1 with fail
  generalize w.alloc (.cells #[.bool b, .slice A n c] 25) = W1 at *
  generalize hNN : w.heap.size = N at *
  have z0 : W1.cell? ⟨N, 0, none⟩ = some (.bool b) := hk.cell 0
  have z1 : W1.cell? ⟨N, 1, none⟩ = some (.slice A n c) := hk.cell 1
  have HZ : Hid (N ≤ W1.heap.size) := Lib.hid (Nat.le_of_lt hk.lt)
  clear hk
  cases b with
  | true =>
    go_wp2
    go_ret
    refine ⟨some ⟨W1.heap.size, 0, none⟩, 1, rfl, ri_one (k := (0, g)) (Blk.new W1 _ _), ?_⟩
    rw [hNN]
    exact HB.out.alloc HZ.out _
  | false =>
    have HR := Lib.hid (rising_any c n A xs W1 har (by omega))
    have HG : Hid (keysL false xs g = (groupsL xs).map (fun s => (s, g))) := Lib.hid rfl
    have hgl : (groupsL xs).length ≤ 100000 := Nat.le_trans (grp_len xs) (by rw [HN.out]; exact hn)
    generalize groupsL xs = G at *
    clear har
    go_upto_region 5 with (go_at_call 24; (with_reducible refine HR.out.mono ?_); rintro e w5 ⟨A5, c5, rfl, hr5, hb5⟩)
    have HR5 := Lib.hid hr5
    have HB5 := Lib.hid (HB.out.trans (hb5.mono HZ.out))
    have HS5 := Lib.hid hb5.size
    clear hr5 hb5 HR
    generalize W1.heap.size = M at *
    go_loopw [5, 17] (fun v iv wr => ∃ k : Nat, k ≤ G.length ∧ iv = .int .i64 (k : Int) ∧ Hid (wr.ownsRow w5.heap.size 48 2 v ((G.take k).map (fun s => (s, g))).length (((G.take k).map (fun s => (s, g))).flatMap CKy)) ∧ Hid (Below w5.heap.size w5 wr)) (fun _ iv _ => G.length - (intOf iv).toNat)
    case atStart => exact ⟨0, Nat.zero_le _, rfl, Lib.hid (World.ownsRow_nil _ _ _ _), Lib.hid (Below.refl _ _)⟩
    case round =>
      obtain ⟨k, hk, rfl, HO, HP⟩ := hrel
      generalize u5 = v5 at *
      rcases Nat.lt_or_ge k G.length with hlt | hge
      · have hi0 : (k : Int) < (G.length : Int) := by omega
        obtain ⟨A6, c6, hA6, _, hA⟩ := own_slice HR5.out
        cases hA6
        obtain ⟨g6, rfl, hg1, hg2⟩ := hA (by omega)
        obtain ⟨x, hx⟩ : ∃ x, G.getD k 0 = x := ⟨_, rfl⟩
        have hgj : G[k]? = some x := by rw [← hx, List.getD_eq_getElem?_getD, List.getElem?_eq_getElem hlt]; rfl
        have k1 : wr.cell? ⟨g6, k, none⟩ = some (.int .u32 x) := by
          rw [HP.out.cell (p := ⟨g6, k, none⟩) hg2, HR5.out.cellAt k (by omega), A32_at hlt, hx]
        have HC := Lib.hid (flat_keys G g k x hgj)
        have HL : Hid (((G.take k).map (fun s => (s, g))).length + 1 = ((G.take (k + 1)).map (fun s => (s, g))).length) := Lib.hid (by simp; omega)
        have HL0 : ((G.take k).map (fun s => (s, g))).length ≤ 100000 := by simp; omega
        generalize ((G.take k).map (fun s => (s, g))).length = L1 at *
        generalize ((G.take k).map (fun s => (s, g))).flatMap CKy = C1 at *
        have HO1 := Lib.hid (HO.out.alloc (.cells #[.int .u32 x, .int .u32 g] 48))
        have HP1 := Lib.hid (HP.out.alloc HP.out.size (.cells #[.int .u32 x, .int .u32 g] 48))
        clear hx hgj HO HP
        go_wp2_with (at_builtin; refine wpList_append_own _ rfl _ _ 39 rfl w5.heap.size 48 i0 (.agg #[.int .u32 0, .int .u32 0]) 2 8 Try.underlying39 hi hz hsz hby rfl (by decide) v5 L1 C1 rfl HO1.out ⟨wr.heap.size, 0, none⟩ 1 1 [.int .u32 x, .int .u32 g] rfl rfl (lit_cells (Blk.new _ _ _)) (by intro u hu; simp at hu; rcases hu with rfl | rfl <;> rfl) (by unfold maxLen; omega) (by omega) HP1.out.size ?_; intro v7 w7 hown7 hg7 _)
        have HO7 : Hid (w7.ownsRow w5.heap.size 48 2 v7 ((G.take (k + 1)).map (fun s => (s, g))).length (((G.take (k + 1)).map (fun s => (s, g))).flatMap CKy)) := Lib.hid (by rw [← HL.out, HC.out]; exact hown7)
        have HP7 := Lib.hid (HP1.out.grown hg7 HP1.out.size (fun g e => (HO1.out.lt g e).1))
        clear hown7 hg7 HO1 HP1
        go_wp2
        go_roundw
        case rel => exact ⟨k + 1, by omega, by go_num, HO7, HP7⟩
        case measure => simp [intOf]; omega
      · have q1 : ¬ (k : Int) < (G.length : Int) := by omega
        obtain rfl : k = G.length := by omega
        rw [List.take_length] at HO
        obtain ⟨A8, c8, hv8, hc8, hr8⟩ := RI.of_own (enc := CKy) (k := 2) (fun _ => rfl) HO.out
        subst hv8
        go_wp2
        go_ret
        rw [HG.out]
        refine ⟨A8, ⟨c8, by simp⟩, hr8, HB5.out.trans (HP.out.mono ?_)⟩
        exact Nat.le_trans HZ.out HS5.out
theorem lt_at {xs : List Int} (h : xs.Pairwise (· < ·)) {k : Nat} {y x : Int} (hy : xs[k]? = some y) (hx : xs[k + 1]? = some x) : y < x := by
  obtain ⟨h1, rfl⟩ := List.getElem?_eq_some_iff.1 hy
  obtain ⟨h2, rfl⟩ := List.getElem?_eq_some_iff.1 hx
  exact List.pairwise_iff_getElem.1 h k (k + 1) h1 h2 (Nat.lt_succ_self _)
theorem all_small {ms : List Mb} {w : World} {A : Option Addr} {n : Nat} (h : MR w A n ms) (hl : ltP ms = true) : n ≤ 12 ∧ ∀ m ∈ ms, m.n ≤ 10 := by
  unfold ltP at hl
  simp at hl
  exact ⟨by have := h.r.len; omega, hl.1⟩
theorem grp_of (ms : List Mb) : groupsL (ofL ms) = ofL ms := grp_self (of_lt ms)
theorem of_small {ms : List Mb} (h : ms.length ≤ 12) (hx : ∀ m ∈ ms, m.xs.length ≤ 10) : (ofL ms).length ≤ 1000 := by
  refine Nat.le_trans (ofL_len ms) ?_
  have : ∀ ks : List Mb, (∀ m ∈ ks, m.xs.length ≤ 10) → (flat ks).length ≤ ks.length * 10 := by
    intro ks
    induction ks with
    | nil => intro _; simp [flat]
    | cons m ks ih =>
      intro hk
      have h1 := ih (fun x hx => hk x (List.mem_cons_of_mem _ hx))
      have h2 := hk m (List.mem_cons_self ..)
      unfold flat at *
      simp only [List.flatMap_cons, List.length_append, List.length_cons]
      omega
  have := this ms hx
  omega
set_option maxHeartbeats 4000000 in
theorem law_keys (A : Option Addr) (n c : Nat) (ms : List Mb) (g o : Int) (w : World) (h : MR w A n ms) (hn : n ≤ 9223372036854775807) :
    Calls Try.prog 5 #[.slice A n c, .int .u32 g, .int .u32 o] w fun e w' => e = .returned (.bool true) ∧ Below w.heap.size w w' := by
  have H := Lib.hid h
  clear h
  go_enter Try.func5, Try.ntmps5
  go_upto_region 4 with (go_at_call 8; (with_reducible refine (first14_any w).mono ?_); rintro e w1 ⟨rfl, hb1⟩)
  have HM := Lib.hid (H.out.next hb1)
  have HB := Lib.hid hb1
  clear hb1 H
  have HLT := Lib.hid (light_any A n c ms w1 HM.out hn)
  generalize hN : w.heap.size = N at *
  cases hl : ltP ms with
  | false =>
    rw [hl] at HLT
    go_wp2_with (go_at_call 9; (with_reducible refine HLT.out.mono ?_); rintro e w2 ⟨rfl, rfl⟩)
    go_ret
    exact ⟨rfl, by rw [hN]; exact HB.out⟩
  | true =>
    rw [hl] at HLT
    obtain ⟨hn12, hms⟩ := all_small HM.out hl
    go_upto_region 6 with (go_at_call 9; (with_reducible refine HLT.out.mono ?_); rintro e w2 ⟨rfl, rfl⟩)
    clear HLT hl hn
    have HO := Lib.hid (of_any' A n c ms w1 HM.out (by omega) (fun m hm => by have := hms m hm; omega))
    have HS : Hid ((ofL ms).length ≤ 1000) := Lib.hid (of_small (by rw [HM.out.r.len]; exact hn12) (fun m hm => by rw [(HM.out.a m hm).len]; exact hms m hm))
    have HG := Lib.hid (grp_of ms)
    have HT := Lib.hid (of_lt ms)
    clear hms HM
    have HZ : Hid (N ≤ w1.heap.size) := Lib.hid (by rw [← hN]; exact hN ▸ HB.out.size)
    generalize anyM ms = b at *
    generalize ofL ms = xs at *
    go_upto_region 7 with (go_at_call 10; (with_reducible refine HO.out.mono ?_); rintro e w6 ⟨A8, c8, rfl, har8, hb6⟩)
    have hB7 := Lib.hid ((HB.out.trans (hb6.mono HZ.out)).alloc (Nat.le_trans HZ.out hb6.size) (.cells #[.bool b, .slice A8 xs.length c8] 25))
    have K8 := Lib.hid (Blk.new w6 25 #[.bool b, .slice A8 xs.length c8])
    have R8 := Lib.hid (har8.next ((Below.refl w6.heap.size w6).alloc (Nat.le_refl _) (.cells #[.bool b, .slice A8 xs.length c8] 25)))
    have HZ7 : Hid (N ≤ w6.heap.size + 1) := Lib.hid (Nat.le_trans HZ.out (Nat.le_trans hb6.size (Nat.le_succ _)))
    rw [← sz_alloc w6 (.cells #[.bool b, .slice A8 xs.length c8] 25)] at HZ7
    clear HB hb6 HO har8 HZ
    generalize w6.alloc (.cells #[.bool b, .slice A8 xs.length c8] 25) = w7 at *
    generalize w6.heap.size = N8 at *
    clear w6
    have z0 : w7.cell? ⟨N8, 0, none⟩ = some (.bool b) := K8.out.cell 0
    have z1 : w7.cell? ⟨N8, 1, none⟩ = some (.slice A8 xs.length c8) := K8.out.cell 1
    have HK := Lib.hid (keys_any b A8 xs.length c8 xs g w7 R8.out (by have := HS.out; omega))
    go_upto_region 8 with (go_at_call 17; (with_reducible refine HK.out.mono ?_); rintro e w8 ⟨A9, c9, rfl, hr9, hb8⟩)
    have HR9 := Lib.hid hr9
    have HB8 := Lib.hid (hB7.out.trans (hb8.mono HZ7.out))
    replace K8 := Lib.hid (K8.out.next hb8)
    replace R8 := Lib.hid (R8.out.next hb8)
    have HZ8 : Hid (N ≤ w8.heap.size) := Lib.hid (Nat.le_trans HZ7.out hb8.size)
    clear hr9 hb8 HK z0 z1 hB7 HZ7 w7
    have z0 : w8.cell? ⟨N8, 0, none⟩ = some (.bool b) := K8.out.cell 0
    have z1 : w8.cell? ⟨N8, 1, none⟩ = some (.slice A8 xs.length c8) := K8.out.cell 1
    cases b with
    | true =>
      have HR := HR9.out
      simp only [keysL, if_true, List.length_cons, List.length_nil, Nat.zero_add] at HR ⊢
      obtain ⟨b9, o9, x, rfl, _, hx, hc⟩ := HR.at_ (i := 0) (by omega)
      simp at hx
      subst hx
      have k0 : w8.cell? ⟨b9, o9, none⟩ = some (.int .u32 0) := hc 0 _ rfl
      have k1 : w8.cell? ⟨b9, o9 + 1, none⟩ = some (.int .u32 g) := hc 1 _ rfl
      clear hc HR HR9
      go_wp2
      go_ret
      exact ⟨rfl, by rw [hN]; exact HB8.out⟩
    | false =>
      rw [show keysL false xs g = xs.map (fun s => (s, g)) by unfold keysL; simp [HG.out]] at HR9 ⊢
      rw [List.length_map] at HR9 ⊢
      go_upto_region 12 with fail
      have hL := HS.out
      have HRL := Lib.hid HR9.out.len
      go_loopw [10, 11] (fun v iv wr => ∃ (k : Nat) (V : Bool), k ≤ xs.length ∧ iv = .int .i64 (k : Int) ∧ v = .bool V ∧ Hid ((xs.take k).contains o = V) ∧ Hid (Below w8.heap.size w8 wr)) (fun _ iv _ => xs.length - (intOf iv).toNat)
      case atStart => exact ⟨0, false, Nat.zero_le _, rfl, rfl, Lib.hid (by simp), Lib.hid (Below.refl _ _)⟩
      case round =>
        obtain ⟨k, V, hk, rfl, rfl, HV, HP⟩ := hrel
        clear z0 z1
        rcases Nat.lt_or_ge k xs.length with hlt | hge
        · have hi0 : (k : Int) < (xs.length : Int) := by omega
          obtain ⟨b9, o9, rfl, hb9, hcc⟩ := HR9.out.2 (by omega)
          obtain ⟨x, hX⟩ : ∃ x, xs.getD k 0 = x := ⟨_, rfl⟩
          have hgk : xs[k]? = some x := by rw [← hX, List.getD_eq_getElem?_getD, List.getElem?_eq_getElem hlt]; rfl
          have hck := hcc k (x, g) (by rw [List.getElem?_map, hgk]; rfl)
          have c0 : ∀ p : Snc wr, p.W.cell? ⟨b9, o9 + k * 2, none⟩ = some (.int .u32 x) := fun p => (p.b.cell (p := ⟨b9, o9 + k * 2, none⟩) (Nat.lt_of_lt_of_le hb9 HP.out.size)).trans ((HP.out.cell (p := ⟨b9, o9 + k * 2, none⟩) hb9).trans (hck 0 _ rfl))
          have c1 : ∀ p : Snc wr, p.W.cell? ⟨b9, o9 + k * 2 + 1, none⟩ = some (.int .u32 g) := fun p => (p.b.cell (p := ⟨b9, o9 + k * 2 + 1, none⟩) (Nat.lt_of_lt_of_le hb9 HP.out.size)).trans ((HP.out.cell (p := ⟨b9, o9 + k * 2 + 1, none⟩) hb9).trans (hck 1 _ rfl))
          have k0 : ∀ p : Snc wr, p.W.cell? ⟨N8, 0, none⟩ = some (.bool false) := fun p => ((K8.out.next HP.out).next p.b).cell 0
          have k1 : ∀ p : Snc wr, p.W.cell? ⟨N8, 1, none⟩ = some (.slice A8 xs.length c8) := fun p => ((K8.out.next HP.out).next p.b).cell 1
          have hin : xs.contains x = true := by rw [List.contains_iff_mem]; exact List.mem_of_getElem? hgk
          have G1 : ∀ p : Snc wr, Calls Try.prog 13 #[.agg #[.bool false, .slice A8 xs.length c8], .int .u32 x] p.W fun e w' => e = .returned (.bool true) ∧ ∃ Q : Snc wr, w' = Q.W := fun p => Calls.since ((lets_any false A8 xs.length c8 xs x p.W ((R8.out.next HP.out).next p.b) (by omega)).mono fun e w' h => ⟨by rw [h.1, hin]; rfl, h.2⟩)
          rcases k with _ | k
          · simp only [Nat.zero_mul, Nat.add_zero] at c0 c1
            have d0 : decide ((0 : Int) < 0) = false := rfl
            have hd := d0
            clear hcc hck hin
            go_upto_region 14 with fail
            refine wp_region_since (by kernel_rfl) (by kernel_rfl) ?_
            repeat (go_big_quiet_step ((go_at_call 13; with_reducible exact G1 _)))
            refine wpQuiet_nil ?_
            rintro w5 ⟨P5, rfl⟩
            have HP5 := Lib.hid (HP.out.trans (P5.b.mono HP.out.size))
            have c5 := c0 P5
            clear c0 c1 d0 G1 HP k0 k1 hd
            generalize P5.W = W5 at *
            cases V with
            | true =>
              go_wp2
              go_roundw
              case rel => exact ⟨0 + 1, true, by omega, by go_num, rfl, Lib.hid (by rw [conA_next hlt, HV.out]; rfl), HP5⟩
              case measure => simp [intOf]; omega
            | false =>
              go_wp2
              go_roundw
              case rel => exact ⟨0 + 1, decide (x = o), by omega, by go_num, rfl, Lib.hid (by rw [conA_next hlt, HV.out, hX, Bool.false_or, Bool.beq_eq_decide_eq]), HP5⟩
              case measure => simp [intOf]; omega
          · obtain ⟨y, hY⟩ : ∃ y, xs.getD k 0 = y := ⟨_, rfl⟩
            have hgy : xs[k]? = some y := by rw [← hY, List.getD_eq_getElem?_getD, List.getElem?_eq_getElem (by omega)]; rfl
            have hcy := hcc k (y, g) (by rw [List.getElem?_map, hgy]; rfl)
            have d0 : ∀ p : Snc wr, p.W.cell? ⟨b9, o9 + k * 2, none⟩ = some (.int .u32 y) := fun p => (p.b.cell (p := ⟨b9, o9 + k * 2, none⟩) (Nat.lt_of_lt_of_le hb9 HP.out.size)).trans ((HP.out.cell (p := ⟨b9, o9 + k * 2, none⟩) hb9).trans (hcy 0 _ rfl))
            have hd : y < x := lt_at HT.out hgy hgk
            have hd1 : decide (x ≤ y) = false := by simp; omega
            have e1 : ((k + 1 : Nat) : Int) = (k : Int) + 1 := by omega
            have hj0 : (0 : Int) < (k : Int) + 1 := by omega
            have i1 : (k : Int) + 1 < (xs.length : Int) := by omega
            have i0 : (k : Int) < (xs.length : Int) := by omega
            have i2 : (0 : Int) ≤ (k : Int) := by omega
            clear hcc hck hin hcy hgy
            go_upto_region 14 with fail
            refine wp_region_since (by kernel_rfl) (by kernel_rfl) ?_
            repeat (go_big_quiet_step ((go_at_call 13; with_reducible exact G1 _)))
            refine wpQuiet_nil ?_
            rintro w5 ⟨P5, rfl⟩
            have HP5 := Lib.hid (HP.out.trans (P5.b.mono HP.out.size))
            have c5 := c0 P5
            clear c0 c1 d0 G1 HP k0 k1 hd
            generalize P5.W = W5 at *
            cases V with
            | true =>
              go_wp2
              go_roundw
              case rel => exact ⟨(k + 1) + 1, true, by omega, by go_num, rfl, Lib.hid (by rw [conA_next hlt, HV.out]; rfl), HP5⟩
              case measure => simp [intOf]; omega
            | false =>
              go_wp2
              go_roundw
              case rel => exact ⟨(k + 1) + 1, decide (x = o), by omega, by go_num, rfl, Lib.hid (by rw [conA_next hlt, HV.out, hX, Bool.false_or, Bool.beq_eq_decide_eq]), HP5⟩
              case measure => simp [intOf]; omega
        · have q1 : ¬ (k : Int) < (xs.length : Int) := by omega
          obtain rfl : k = xs.length := by omega
          rw [List.take_length] at HV
          have k0 : wr.cell? ⟨N8, 0, none⟩ = some (.bool false) := (K8.out.next HP.out).cell 0
          have k1 : wr.cell? ⟨N8, 1, none⟩ = some (.slice A8 xs.length c8) := (K8.out.next HP.out).cell 1
          have HLs := Lib.hid (lets_any false A8 xs.length c8 xs o wr (R8.out.next HP.out) (by omega))
          rw [HV.out] at HLs
          have HBr := Lib.hid (HB8.out.trans (HP.out.mono HZ8.out))
          have HZr : Hid (N ≤ wr.heap.size) := Lib.hid (Nat.le_trans HZ8.out HP.out.size)
          clear HV HP HB8 HZ8
          cases V with
          | true =>
            go_wp2_with (go_at_call 13; (with_reducible refine HLs.out.mono ?_); rintro e w9 ⟨rfl, hb9⟩)
            go_ret
            exact ⟨rfl, by rw [hN]; exact HBr.out.trans (hb9.mono HZr.out)⟩
          | false =>
            go_wp2_with (go_at_call 13; (with_reducible refine HLs.out.mono ?_); rintro e w9 ⟨rfl, hb9⟩)
            go_ret
            exact ⟨rfl, by rw [hN]; exact HBr.out.trans (hb9.mono HZr.out)⟩
end Go.Proofs.Ytfiiichiflglaaa

