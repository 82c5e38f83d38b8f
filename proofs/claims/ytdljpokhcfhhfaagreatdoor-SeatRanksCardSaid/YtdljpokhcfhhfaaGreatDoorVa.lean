/- Contracts of conf's check of routers. Contracts of conf's small tests: the prefix of all groups; an address alone; one on a link; a place that a list has; an address twice. Contract of conf's check of routes. Contracts of conf's check of links. The tests that conf hands to searches over ranges, ports and sources; whether an address is there twice. -/
import Derived.Test.YtdljpokhcfhhfaaGreatDoorCw
import Derived.Test.YtdljpokhcfhhfaaGreatDoorTall
import Derived.Test.YtdljpokhcfhhfaaGreatDoorAddr
import Derived.Laws.StructEq
namespace Go.Proofs.YtdljpokhcfhhfaaGreatDoor
open Go.RowKit Go.Lib Lx
theorem costs_any (n : Int) (w : World) : Calls Tryz.prog 153 #[.int .i64 n] w fun e w' => e = .returned (.bool (costOk n)) ∧ w = w' := by
  rcases Int.lt_or_le n 0 with h | h
  · have hd : decide (0 ≤ n) = false := by simpa using h
    have hc : costOk n = false := by unfold costOk; simp; omega
    rw [hc]; clear hc
    go_enter Tryz.func153, Tryz.ntmps153
    go_wp2
    go_ret
    exact ⟨rfl, rfl⟩
  · have hd : decide (0 ≤ n) = true := by simpa using h
    have hc : Hid (costOk n = decide (n ≤ 65535)) := by show _ = _; unfold costOk; rw [Bool.eq_iff_iff]; simp; omega
    go_enter Tryz.func153, Tryz.ntmps153
    go_wp2
    go_ret
    exact ⟨ret_bool hc.out.symm, rfl⟩
theorem routers11 (s s1 : List UInt8) (r1 : Int) (b : Nat) (W : World) (hc : W.cell? ⟨b, 0, none⟩ = some (.string (str s))) :
    Calls Tryz.prog 152 #[.agg #[.string (str s1), .int .i64 r1], .pointer (some ⟨b, 0, none⟩)] W fun e w' => e = .returned (.bool (s1 == s)) ∧ Below W.heap.size W w' := by
  have hb := World.block_lt_of_cell? _ _ hc
  have HE := Lib.hid (str_beq s1 s)
  have HB := Lib.hid (Below.refl W.heap.size W)
  generalize str s1 = x at *
  generalize str s = y at *
  generalize (s1 == s) = q at *
  go_enter Tryz.func152, Tryz.ntmps152
  go_wp2
  go_ret
  exact ⟨ret_bool HE.out, HB.out.alloc (Nat.le_refl _) _⟩
set_option maxHeartbeats 1000000 in
theorem routers1_any (ads : List Addr) (s : List UInt8) (r : Int) (A : Option Addr) (n c : Nat) (ah : List (List UInt8 × Int)) (w : World) (hS : EnvC ads w) (ha : IRouter w A n ah) (hn : n ≤ 1000) :
    Calls Tryz.prog 149 #[.agg #[.string (str s), .int .i64 r], .slice A n c] w fun e w' => e = .returned (erS ads (rcode (s, r) ah)) ∧ Below w.heap.size w w' := by
  have HS := Lib.hid hS
  have hB0 : Below w.heap.size w (w.alloc (.cells #[.string (str s), .int .i64 r] 77)) := (Below.refl _ _).alloc (Nat.le_refl _) _
  have HB0 := Lib.hid hB0
  have hN : ∀ W, Below w.heap.size w W → Calls Tryz.prog 150 #[.string (str s)] W fun e w' => e = .returned (nmV (nameOk s) (erS ads 109)) ∧ W = w' := fun W hb => by
    have h := name_any (str s) (erS ads 109) W (erS_cell (hS.below hb) (j := 8) (by decide) rfl)
    rwa [str_data] at h
  have hcs : (w.alloc (.cells #[.string (str s), .int .i64 r] 77)).cell? ⟨w.heap.size, 0, none⟩ = some (.string (str s)) := by rw [(Blk.new w _ _).cell 0]; rfl
  have hcr : (w.alloc (.cells #[.string (str s), .int .i64 r] 77)).cell? ⟨w.heap.size, 1, none⟩ = some (.int .i64 r) := by rw [(Blk.new w _ _).cell 1]; rfl
  have hH := hasRouter 152 #[.pointer (some ⟨w.heap.size, 0, none⟩)] (enters_of Tryz.func152 (by kernel_rfl) rfl) (fun y => y.1 == s) A n c ah _ (ha.next hB0) (by omega)
    (fun W i x _ hb => routers11 s x.1 x.2 w.heap.size W ((hb.cell (World.block_lt_of_cell? _ _ hcs)).trans hcs))
  have HN := Lib.hid (hN _ hB0)
  have HH := Lib.hid hH
  have HCr := Lib.hid hcr
  have HCS := Lib.hid hcs
  have h2 : ∀ W, Below w.heap.size w W → W.cell? ⟨0, 0, none⟩ = some (erS ads 110) := fun W hb => erS_cell (hS.below hb) (j := 9) (by decide) rfl
  have h3 : ∀ W, Below w.heap.size w W → W.cell? ⟨1, 0, none⟩ = some (erS ads 103) := fun W hb => erS_cell (hS.below hb) (j := 2) (by decide) rfl
  have H2 := Lib.hid h2
  have H3 := Lib.hid h3
  clear hN hH hcr hcs h2 h3 hS ha
  cases hq : nameOk s with
  | false =>
    have e : rcode (s, r) ah = 109 := by unfold rcode; rw [if_pos hq]
    obtain ⟨a, _, hE⟩ := erS_at HS.out (j := 8) (by decide)
    have hE' : erS ads 109 = ev a := hE
    rw [e, hE']
    rw [hq, hE'] at HN
    have ev0 : nmV false (ev a) = ev a := rfl
    rw [ev0] at HN
    unfold ev at HN ⊢
    clear e hq hE hE' ev0 HH H2 H3
    go_enter Tryz.func149, Tryz.ntmps149
    go_wp2_with (go_at_call 150; refine HN.out.mono ?_; rintro e w1 ⟨rfl, rfl⟩)
    go_ret
    exact ⟨rfl, HB0.out⟩
  | true =>
    rw [hq] at HN
    have ev0 : nmV true (erS ads 109) = .nilIface := rfl
    rw [ev0] at HN
    cases hh : ah.any (fun y => y.1 == s) with
    | true =>
      have e : rcode (s, r) ah = 110 := by unfold rcode; rw [if_neg (by rw [hq]; decide), if_pos hh]
      rw [e]
      rw [hh] at HH
      clear e hq hh ev0 H3
      generalize erS ads 110 = E at *
      go_enter Tryz.func149, Tryz.ntmps149
      go_wp2_with (first
        | (go_at_call 150; refine HN.out.mono ?_; rintro e w1 ⟨rfl, rfl⟩)
        | (go_at_call 151; refine HH.out.mono ?_; rintro e w2 ⟨rfl, hb2⟩
           have HB2 := Lib.hid (below_next HB0.out hb2)
           have hg := H2.out w2 HB2.out
           clear hb2))
      go_ret
      exact ⟨rfl, HB2.out⟩
    | false =>
      rw [hh] at HH
      have HK := Lib.hid (costs_any r)
      cases hc : costOk r with
      | true =>
        have e : rcode (s, r) ah = 0 := by unfold rcode; rw [if_neg (by rw [hq]; decide), if_neg (by rw [hh]; decide), if_pos hc]
        rw [e]
        rw [hc] at HK
        clear e hq hh ev0 H3 hc
        have e0 : erS ads 0 = .nilIface := rfl
        rw [e0]
        clear e0
        go_enter Tryz.func149, Tryz.ntmps149
        go_wp2_with (first
          | (go_at_call 150; refine HN.out.mono ?_; rintro e w1 ⟨rfl, rfl⟩)
          | (go_at_call 151; refine HH.out.mono ?_; rintro e w2 ⟨rfl, hb2⟩
             have HB2 := Lib.hid (below_next HB0.out hb2)
             have hr2 : w2.cell? ⟨w.heap.size, 1, none⟩ = some (.int .i64 r) := (hb2.cell (World.block_lt_of_cell? _ _ HCr.out)).trans HCr.out
             clear hb2)
          | (go_at_call 153; refine (HK.out _).mono ?_; rintro e w3 ⟨rfl, rfl⟩))
        go_ret
        exact ⟨rfl, HB2.out⟩
      | false =>
        have e : rcode (s, r) ah = 103 := by unfold rcode; rw [if_neg (by rw [hq]; decide), if_neg (by rw [hh]; decide), if_neg (by rw [hc]; decide)]
        rw [e]
        rw [hc] at HK
        clear e hq hh ev0 H2 hc
        generalize erS ads 103 = E at *
        go_enter Tryz.func149, Tryz.ntmps149
        go_wp2_with (first
          | (go_at_call 150; refine HN.out.mono ?_; rintro e w1 ⟨rfl, rfl⟩)
          | (go_at_call 151; refine HH.out.mono ?_; rintro e w2 ⟨rfl, hb2⟩
             have HB2 := Lib.hid (below_next HB0.out hb2)
             have hg := H3.out w2 HB2.out
             have hr2 : w2.cell? ⟨w.heap.size, 1, none⟩ = some (.int .i64 r) := (hb2.cell (World.block_lt_of_cell? _ _ HCr.out)).trans HCr.out
             clear hb2)
          | (go_at_call 153; refine (HK.out _).mono ?_; rintro e w3 ⟨rfl, rfl⟩))
        go_ret
        exact ⟨rfl, HB2.out⟩
end Go.Proofs.YtdljpokhcfhhfaaGreatDoor
namespace Go.Proofs.YtdljpokhcfhhfaaGreatDoor
open Go.RowKit Go.Lib Lx
theorem groups_any (w : World) : Calls Tryz.prog 160 #[] w fun e w' => e = .returned (.agg #[.int .u32 3758096384, .int .i64 4]) ∧ Below w.heap.size w w' := by
  go_enter Tryz.func160, Tryz.ntmps160
  go_wp2
  exact bodyPost_ret (v := .agg #[.int .u32 3758096384, .int .i64 4]) (by simp [results, Tryz.results160, go_sem]) rfl ⟨rfl, (Below.refl _ _).alloc (Nat.le_refl _) _⟩
theorem single_any (a : Int) (w : World) (h0 : 0 ≤ a) (h1 : a ≤ 4294967295) : Calls Tryz.prog 170 #[.int .u32 a] w fun e w' => e = .returned (.bool (oneA a)) ∧ w = w' := by
  have HG := Lib.hid (fun W => group_any a W h0 h1)
  by_cases h : a = 0
  · subst h
    have hc : oneA 0 = false := rfl
    rw [hc]; clear hc
    go_enter Tryz.func170, Tryz.ntmps170
    go_wp2_with (go_at_call 177; refine (HG.out _).mono ?_; rintro e w1 ⟨rfl, rfl⟩)
    go_ret
    exact ⟨rfl, rfl⟩
  · have hd : (a != 0) = true := by simpa using h
    have hc : Hid (oneA a = !Ad.group a) := by show _ = _; unfold oneA; simp [h]
    generalize Ad.group a = q at *
    go_enter Tryz.func170, Tryz.ntmps170
    go_wp2_with (go_at_call 177; refine (HG.out _).mono ?_; rintro e w1 ⟨rfl, rfl⟩)
    go_ret
    exact ⟨ret_bool hc.out.symm, rfl⟩
theorem on_any (s : ByteArray) (la lb a : Int) (w : World) (la0 : 0 ≤ la) (la1 : la ≤ 4294967295) (h0 : 0 ≤ a) (h1 : a ≤ 4294967295) :
    Calls Tryz.prog 165 #[.agg #[.string s, .int .u32 la, .int .i64 lb], .int .u32 a] w fun e w' => e = .returned (.bool (decide (a ≠ 0) && Ad.isIn la lb a)) ∧ Below w.heap.size w w' := by
  have HG := Lib.hid (fun W => in_any la lb a W la0 la1 h0 h1)
  have HB := Lib.hid ((Below.refl w.heap.size w).alloc (Nat.le_refl _) (.cells #[.string s, .int .u32 la, .int .i64 lb] 125))
  by_cases h : a = 0
  · subst h
    have hc : (decide ((0 : Int) ≠ 0) && Ad.isIn la lb 0) = false := rfl
    rw [hc]; clear hc
    go_enter Tryz.func165, Tryz.ntmps165
    go_wp2_with (go_at_call 217; refine (HG.out _).mono ?_; rintro e w1 ⟨rfl, hb⟩)
    go_ret
    exact ⟨rfl, HB.out⟩
  · have hd : (a != 0) = true := by simpa using h
    have hc : Hid ((decide (a ≠ 0) && Ad.isIn la lb a) = Ad.isIn la lb a) := by show _ = _; simp [h]
    rw [hc.out]
    generalize Ad.isIn la lb a = q at *
    go_enter Tryz.func165, Tryz.ntmps165
    go_wp2_with (go_at_call 217; refine (HG.out _).mono ?_; rintro e w1 ⟨rfl, hb⟩)
    go_ret
    exact ⟨rfl, below_next HB.out hb⟩
theorem placedR_any (i : Int) (A : Option Addr) (n c : Nat) (w : World) : Calls Tryz.prog 163 #[.int .i64 i, .slice A n c] w fun e w' => e = .returned (.bool (plOk i n)) ∧ w = w' := by
  rcases Int.lt_or_le i 0 with h | h
  · have hd : decide (0 ≤ i) = false := by simpa using h
    have hc : plOk i n = false := by unfold plOk; simp; omega
    rw [hc]; clear hc
    go_enter Tryz.func163, Tryz.ntmps163
    go_wp2
    go_ret
    exact ⟨rfl, rfl⟩
  · have hd : decide (0 ≤ i) = true := by simpa using h
    have hc : Hid (plOk i n = decide (i < (n : Int))) := by show _ = _; unfold plOk; rw [Bool.eq_iff_iff]; simp; omega
    go_enter Tryz.func163, Tryz.ntmps163
    go_wp2
    go_ret
    exact ⟨ret_bool hc.out.symm, rfl⟩
theorem placedL_any (i : Int) (A : Option Addr) (n c : Nat) (w : World) : Calls Tryz.prog 164 #[.int .i64 i, .slice A n c] w fun e w' => e = .returned (.bool (plOk i n)) ∧ w = w' := by
  rcases Int.lt_or_le i 0 with h | h
  · have hd : decide (0 ≤ i) = false := by simpa using h
    have hc : plOk i n = false := by unfold plOk; simp; omega
    rw [hc]; clear hc
    go_enter Tryz.func164, Tryz.ntmps164
    go_wp2
    go_ret
    exact ⟨rfl, rfl⟩
  · have hd : decide (0 ≤ i) = true := by simpa using h
    have hc : Hid (plOk i n = decide (i < (n : Int))) := by show _ = _; unfold plOk; rw [Bool.eq_iff_iff]; simp; omega
    go_enter Tryz.func164, Tryz.ntmps164
    go_wp2
    go_ret
    exact ⟨ret_bool hc.out.symm, rfl⟩
end Go.Proofs.YtdljpokhcfhhfaaGreatDoor
namespace Go.Proofs.YtdljpokhcfhhfaaGreatDoor
open Go.RowKit Go.Lib Lx
set_option maxHeartbeats 2000000 in
theorem routes1_any (ads : List Addr) (r a b v z : Int) (A : Option Addr) (n c : Nat) (cb : Nat) (Ar : Option Addr) (nr cr : Nat) (w : World) (hS : EnvC ads w) (hY0 : w.cell? ⟨cb, 0, none⟩ = some (.slice Ar nr cr)) (h0 : 0 ≤ a) (h1 : a ≤ 4294967295) (v0 : 0 ≤ v) (v1 : v ≤ 4294967295) :
    Calls Tryz.prog 169 #[.agg #[.int .i64 r, .int .u32 a, .int .i64 b, .int .u32 v, .int .i64 z], .slice A n c, .pointer (some ⟨cb, 0, none⟩)] w fun e w' => e = .returned (erS ads (ocode nr (r, a, b, v, z))) ∧ Below w.heap.size w w' := by
  have HS := Lib.hid hS
  have HB0 := Lib.hid (show Below w.heap.size w (w.alloc (.cells #[.int .i64 r, .int .u32 a, .int .i64 b, .int .u32 v, .int .i64 z] 128)) from (Below.refl _ _).alloc (Nat.le_refl _) _)
  have HK0 := Lib.hid (show Blk (w.alloc (.cells #[.int .i64 r, .int .u32 a, .int .i64 b, .int .u32 v, .int .i64 z] 128)) w.heap.size 128 #[.int .i64 r, .int .u32 a, .int .i64 b, .int .u32 v, .int .i64 z] from Blk.new _ _ _)
  have G103 : Hid (∀ W, Below w.heap.size w W → W.cell? ⟨1, 0, none⟩ = some (erS ads 103)) := fun W hb => erS_cell (hS.below hb) (j := 2) (by decide) rfl
  have G111 : Hid (∀ W, Below w.heap.size w W → W.cell? ⟨3, 0, none⟩ = some (erS ads 111)) := fun W hb => erS_cell (hS.below hb) (j := 10) (by decide) rfl
  have G113 : Hid (∀ W, Below w.heap.size w W → W.cell? ⟨2, 0, none⟩ = some (erS ads 113)) := fun W hb => erS_cell (hS.below hb) (j := 12) (by decide) rfl
  have Y0 : Hid (∀ W, Below w.heap.size w W → W.cell? ⟨cb, 0, none⟩ = some (.slice Ar nr cr)) := fun W hb => (hb.cell (World.block_lt_of_cell? _ _ hY0)).trans hY0
  clear hS hY0
  have HP := Lib.hid (fun W => placedR_any r Ar nr cr W)
  have HV := Lib.hid (fun W => valid_any a b W h0 h1)
  have HC := Lib.hid (fun W => costs_any z W)
  have HO := Lib.hid (fun W => single_any v W v0 v1)
  clear h0 h1 v0 v1
  cases hp : plOk r nr with
  | false =>
    have e : ocode nr (r, a, b, v, z) = 111 := by unfold ocode; simp [hp]
    rw [e]
    rw [hp] at HP
    clear e hp
    generalize erS ads 103 = E103 at *
    generalize erS ads 111 = E111 at *
    generalize erS ads 113 = E113 at *
    have g1030 : (w.alloc (.cells #[.int .i64 r, .int .u32 a, .int .i64 b, .int .u32 v, .int .i64 z] 128)).cell? ⟨1, 0, none⟩ = some E103 := G103.out (w.alloc (.cells #[.int .i64 r, .int .u32 a, .int .i64 b, .int .u32 v, .int .i64 z] 128)) HB0.out
    have g1110 : (w.alloc (.cells #[.int .i64 r, .int .u32 a, .int .i64 b, .int .u32 v, .int .i64 z] 128)).cell? ⟨3, 0, none⟩ = some E111 := G111.out (w.alloc (.cells #[.int .i64 r, .int .u32 a, .int .i64 b, .int .u32 v, .int .i64 z] 128)) HB0.out
    have g1130 : (w.alloc (.cells #[.int .i64 r, .int .u32 a, .int .i64 b, .int .u32 v, .int .i64 z] 128)).cell? ⟨2, 0, none⟩ = some E113 := G113.out (w.alloc (.cells #[.int .i64 r, .int .u32 a, .int .i64 b, .int .u32 v, .int .i64 z] 128)) HB0.out
    have y00 : (w.alloc (.cells #[.int .i64 r, .int .u32 a, .int .i64 b, .int .u32 v, .int .i64 z] 128)).cell? ⟨cb, 0, none⟩ = some (.slice Ar nr cr) := Y0.out (w.alloc (.cells #[.int .i64 r, .int .u32 a, .int .i64 b, .int .u32 v, .int .i64 z] 128)) HB0.out
    go_enter Tryz.func169, Tryz.ntmps169
    go_wp2_with (first
      | (go_at_call 163; refine (HP.out _).mono ?_; rintro e w1 ⟨rfl, rfl⟩))
    go_ret
    exact ⟨rfl, HB0.out⟩
  | true =>
    cases hv : Ad.valid a b with
    | false =>
      have e : ocode nr (r, a, b, v, z) = 103 := by unfold ocode; simp [hp, hv]
      rw [e]
      rw [hp] at HP
      rw [hv] at HV
      clear e hp hv
      generalize erS ads 103 = E103 at *
      generalize erS ads 111 = E111 at *
      generalize erS ads 113 = E113 at *
      have g1030 : (w.alloc (.cells #[.int .i64 r, .int .u32 a, .int .i64 b, .int .u32 v, .int .i64 z] 128)).cell? ⟨1, 0, none⟩ = some E103 := G103.out (w.alloc (.cells #[.int .i64 r, .int .u32 a, .int .i64 b, .int .u32 v, .int .i64 z] 128)) HB0.out
      have g1110 : (w.alloc (.cells #[.int .i64 r, .int .u32 a, .int .i64 b, .int .u32 v, .int .i64 z] 128)).cell? ⟨3, 0, none⟩ = some E111 := G111.out (w.alloc (.cells #[.int .i64 r, .int .u32 a, .int .i64 b, .int .u32 v, .int .i64 z] 128)) HB0.out
      have g1130 : (w.alloc (.cells #[.int .i64 r, .int .u32 a, .int .i64 b, .int .u32 v, .int .i64 z] 128)).cell? ⟨2, 0, none⟩ = some E113 := G113.out (w.alloc (.cells #[.int .i64 r, .int .u32 a, .int .i64 b, .int .u32 v, .int .i64 z] 128)) HB0.out
      have y00 : (w.alloc (.cells #[.int .i64 r, .int .u32 a, .int .i64 b, .int .u32 v, .int .i64 z] 128)).cell? ⟨cb, 0, none⟩ = some (.slice Ar nr cr) := Y0.out (w.alloc (.cells #[.int .i64 r, .int .u32 a, .int .i64 b, .int .u32 v, .int .i64 z] 128)) HB0.out
      go_enter Tryz.func169, Tryz.ntmps169
      go_wp2_with (first
        | (go_at_call 163; refine (HP.out _).mono ?_; rintro e w1 ⟨rfl, rfl⟩)
        | (go_at_call 158; refine (HV.out _).mono ?_; rintro e w2 ⟨rfl, hb⟩
           have HB2 := Lib.hid (below_next HB0.out hb)
           have HK2 := Lib.hid (HK0.out.next hb)
           have g1032 : w2.cell? ⟨1, 0, none⟩ = some E103 := G103.out w2 HB2.out
           have g1112 : w2.cell? ⟨3, 0, none⟩ = some E111 := G111.out w2 HB2.out
           have g1132 : w2.cell? ⟨2, 0, none⟩ = some E113 := G113.out w2 HB2.out
           have x02 : w2.cell? ⟨w.heap.size, 0, none⟩ = some (.int .i64 r) := Blk.cell HK2.out 0
           have x12 : w2.cell? ⟨w.heap.size, 1, none⟩ = some (.int .u32 a) := Blk.cell HK2.out 1
           have x22 : w2.cell? ⟨w.heap.size, 2, none⟩ = some (.int .i64 b) := Blk.cell HK2.out 2
           have x32 : w2.cell? ⟨w.heap.size, 3, none⟩ = some (.int .u32 v) := Blk.cell HK2.out 3
           have x42 : w2.cell? ⟨w.heap.size, 4, none⟩ = some (.int .i64 z) := Blk.cell HK2.out 4
           have y02 : w2.cell? ⟨cb, 0, none⟩ = some (.slice Ar nr cr) := Y0.out w2 HB2.out
           clear hb))
      go_ret
      exact ⟨rfl, HB2.out⟩
    | true =>
      cases hc : costOk z with
      | false =>
        have e : ocode nr (r, a, b, v, z) = 103 := by unfold ocode; simp [hp, hv, hc]
        rw [e]
        rw [hp] at HP
        rw [hv] at HV
        rw [hc] at HC
        clear e hp hv hc
        generalize erS ads 103 = E103 at *
        generalize erS ads 111 = E111 at *
        generalize erS ads 113 = E113 at *
        have g1030 : (w.alloc (.cells #[.int .i64 r, .int .u32 a, .int .i64 b, .int .u32 v, .int .i64 z] 128)).cell? ⟨1, 0, none⟩ = some E103 := G103.out (w.alloc (.cells #[.int .i64 r, .int .u32 a, .int .i64 b, .int .u32 v, .int .i64 z] 128)) HB0.out
        have g1110 : (w.alloc (.cells #[.int .i64 r, .int .u32 a, .int .i64 b, .int .u32 v, .int .i64 z] 128)).cell? ⟨3, 0, none⟩ = some E111 := G111.out (w.alloc (.cells #[.int .i64 r, .int .u32 a, .int .i64 b, .int .u32 v, .int .i64 z] 128)) HB0.out
        have g1130 : (w.alloc (.cells #[.int .i64 r, .int .u32 a, .int .i64 b, .int .u32 v, .int .i64 z] 128)).cell? ⟨2, 0, none⟩ = some E113 := G113.out (w.alloc (.cells #[.int .i64 r, .int .u32 a, .int .i64 b, .int .u32 v, .int .i64 z] 128)) HB0.out
        have y00 : (w.alloc (.cells #[.int .i64 r, .int .u32 a, .int .i64 b, .int .u32 v, .int .i64 z] 128)).cell? ⟨cb, 0, none⟩ = some (.slice Ar nr cr) := Y0.out (w.alloc (.cells #[.int .i64 r, .int .u32 a, .int .i64 b, .int .u32 v, .int .i64 z] 128)) HB0.out
        go_enter Tryz.func169, Tryz.ntmps169
        go_wp2_with (first
          | (go_at_call 163; refine (HP.out _).mono ?_; rintro e w1 ⟨rfl, rfl⟩)
          | (go_at_call 158; refine (HV.out _).mono ?_; rintro e w2 ⟨rfl, hb⟩
             have HB2 := Lib.hid (below_next HB0.out hb)
             have HK2 := Lib.hid (HK0.out.next hb)
             have g1032 : w2.cell? ⟨1, 0, none⟩ = some E103 := G103.out w2 HB2.out
             have g1112 : w2.cell? ⟨3, 0, none⟩ = some E111 := G111.out w2 HB2.out
             have g1132 : w2.cell? ⟨2, 0, none⟩ = some E113 := G113.out w2 HB2.out
             have x02 : w2.cell? ⟨w.heap.size, 0, none⟩ = some (.int .i64 r) := Blk.cell HK2.out 0
             have x12 : w2.cell? ⟨w.heap.size, 1, none⟩ = some (.int .u32 a) := Blk.cell HK2.out 1
             have x22 : w2.cell? ⟨w.heap.size, 2, none⟩ = some (.int .i64 b) := Blk.cell HK2.out 2
             have x32 : w2.cell? ⟨w.heap.size, 3, none⟩ = some (.int .u32 v) := Blk.cell HK2.out 3
             have x42 : w2.cell? ⟨w.heap.size, 4, none⟩ = some (.int .i64 z) := Blk.cell HK2.out 4
             have y02 : w2.cell? ⟨cb, 0, none⟩ = some (.slice Ar nr cr) := Y0.out w2 HB2.out
             clear hb)
          | (go_at_call 153; refine (HC.out _).mono ?_; rintro e w3 ⟨rfl, rfl⟩))
        go_ret
        exact ⟨rfl, HB2.out⟩
      | true =>
        cases ho : oneA v with
        | false =>
          have e : ocode nr (r, a, b, v, z) = 113 := by unfold ocode; simp [hp, hv, hc, ho]
          rw [e]
          rw [hp] at HP
          rw [hv] at HV
          rw [hc] at HC
          rw [ho] at HO
          clear e hp hv hc ho
          generalize erS ads 103 = E103 at *
          generalize erS ads 111 = E111 at *
          generalize erS ads 113 = E113 at *
          have g1030 : (w.alloc (.cells #[.int .i64 r, .int .u32 a, .int .i64 b, .int .u32 v, .int .i64 z] 128)).cell? ⟨1, 0, none⟩ = some E103 := G103.out (w.alloc (.cells #[.int .i64 r, .int .u32 a, .int .i64 b, .int .u32 v, .int .i64 z] 128)) HB0.out
          have g1110 : (w.alloc (.cells #[.int .i64 r, .int .u32 a, .int .i64 b, .int .u32 v, .int .i64 z] 128)).cell? ⟨3, 0, none⟩ = some E111 := G111.out (w.alloc (.cells #[.int .i64 r, .int .u32 a, .int .i64 b, .int .u32 v, .int .i64 z] 128)) HB0.out
          have g1130 : (w.alloc (.cells #[.int .i64 r, .int .u32 a, .int .i64 b, .int .u32 v, .int .i64 z] 128)).cell? ⟨2, 0, none⟩ = some E113 := G113.out (w.alloc (.cells #[.int .i64 r, .int .u32 a, .int .i64 b, .int .u32 v, .int .i64 z] 128)) HB0.out
          have y00 : (w.alloc (.cells #[.int .i64 r, .int .u32 a, .int .i64 b, .int .u32 v, .int .i64 z] 128)).cell? ⟨cb, 0, none⟩ = some (.slice Ar nr cr) := Y0.out (w.alloc (.cells #[.int .i64 r, .int .u32 a, .int .i64 b, .int .u32 v, .int .i64 z] 128)) HB0.out
          go_enter Tryz.func169, Tryz.ntmps169
          go_wp2_with (first
            | (go_at_call 163; refine (HP.out _).mono ?_; rintro e w1 ⟨rfl, rfl⟩)
            | (go_at_call 158; refine (HV.out _).mono ?_; rintro e w2 ⟨rfl, hb⟩
               have HB2 := Lib.hid (below_next HB0.out hb)
               have HK2 := Lib.hid (HK0.out.next hb)
               have g1032 : w2.cell? ⟨1, 0, none⟩ = some E103 := G103.out w2 HB2.out
               have g1112 : w2.cell? ⟨3, 0, none⟩ = some E111 := G111.out w2 HB2.out
               have g1132 : w2.cell? ⟨2, 0, none⟩ = some E113 := G113.out w2 HB2.out
               have x02 : w2.cell? ⟨w.heap.size, 0, none⟩ = some (.int .i64 r) := Blk.cell HK2.out 0
               have x12 : w2.cell? ⟨w.heap.size, 1, none⟩ = some (.int .u32 a) := Blk.cell HK2.out 1
               have x22 : w2.cell? ⟨w.heap.size, 2, none⟩ = some (.int .i64 b) := Blk.cell HK2.out 2
               have x32 : w2.cell? ⟨w.heap.size, 3, none⟩ = some (.int .u32 v) := Blk.cell HK2.out 3
               have x42 : w2.cell? ⟨w.heap.size, 4, none⟩ = some (.int .i64 z) := Blk.cell HK2.out 4
               have y02 : w2.cell? ⟨cb, 0, none⟩ = some (.slice Ar nr cr) := Y0.out w2 HB2.out
               clear hb)
            | (go_at_call 153; refine (HC.out _).mono ?_; rintro e w3 ⟨rfl, rfl⟩)
            | (go_at_call 170; refine (HO.out _).mono ?_; rintro e w4 ⟨rfl, rfl⟩))
          go_ret
          exact ⟨rfl, HB2.out⟩
        | true =>
          have e : ocode nr (r, a, b, v, z) = 0 := by unfold ocode; simp [hp, hv, hc, ho]
          rw [e]
          rw [hp] at HP
          rw [hv] at HV
          rw [hc] at HC
          rw [ho] at HO
          clear e hp hv hc ho
          have e0 : erS ads 0 = .nilIface := rfl
          rw [e0]
          clear e0
          generalize erS ads 103 = E103 at *
          generalize erS ads 111 = E111 at *
          generalize erS ads 113 = E113 at *
          have g1030 : (w.alloc (.cells #[.int .i64 r, .int .u32 a, .int .i64 b, .int .u32 v, .int .i64 z] 128)).cell? ⟨1, 0, none⟩ = some E103 := G103.out (w.alloc (.cells #[.int .i64 r, .int .u32 a, .int .i64 b, .int .u32 v, .int .i64 z] 128)) HB0.out
          have g1110 : (w.alloc (.cells #[.int .i64 r, .int .u32 a, .int .i64 b, .int .u32 v, .int .i64 z] 128)).cell? ⟨3, 0, none⟩ = some E111 := G111.out (w.alloc (.cells #[.int .i64 r, .int .u32 a, .int .i64 b, .int .u32 v, .int .i64 z] 128)) HB0.out
          have g1130 : (w.alloc (.cells #[.int .i64 r, .int .u32 a, .int .i64 b, .int .u32 v, .int .i64 z] 128)).cell? ⟨2, 0, none⟩ = some E113 := G113.out (w.alloc (.cells #[.int .i64 r, .int .u32 a, .int .i64 b, .int .u32 v, .int .i64 z] 128)) HB0.out
          have y00 : (w.alloc (.cells #[.int .i64 r, .int .u32 a, .int .i64 b, .int .u32 v, .int .i64 z] 128)).cell? ⟨cb, 0, none⟩ = some (.slice Ar nr cr) := Y0.out (w.alloc (.cells #[.int .i64 r, .int .u32 a, .int .i64 b, .int .u32 v, .int .i64 z] 128)) HB0.out
          go_enter Tryz.func169, Tryz.ntmps169
          go_wp2_with (first
            | (go_at_call 163; refine (HP.out _).mono ?_; rintro e w1 ⟨rfl, rfl⟩)
            | (go_at_call 158; refine (HV.out _).mono ?_; rintro e w2 ⟨rfl, hb⟩
               have HB2 := Lib.hid (below_next HB0.out hb)
               have HK2 := Lib.hid (HK0.out.next hb)
               have g1032 : w2.cell? ⟨1, 0, none⟩ = some E103 := G103.out w2 HB2.out
               have g1112 : w2.cell? ⟨3, 0, none⟩ = some E111 := G111.out w2 HB2.out
               have g1132 : w2.cell? ⟨2, 0, none⟩ = some E113 := G113.out w2 HB2.out
               have x02 : w2.cell? ⟨w.heap.size, 0, none⟩ = some (.int .i64 r) := Blk.cell HK2.out 0
               have x12 : w2.cell? ⟨w.heap.size, 1, none⟩ = some (.int .u32 a) := Blk.cell HK2.out 1
               have x22 : w2.cell? ⟨w.heap.size, 2, none⟩ = some (.int .i64 b) := Blk.cell HK2.out 2
               have x32 : w2.cell? ⟨w.heap.size, 3, none⟩ = some (.int .u32 v) := Blk.cell HK2.out 3
               have x42 : w2.cell? ⟨w.heap.size, 4, none⟩ = some (.int .i64 z) := Blk.cell HK2.out 4
               have y02 : w2.cell? ⟨cb, 0, none⟩ = some (.slice Ar nr cr) := Y0.out w2 HB2.out
               clear hb)
            | (go_at_call 153; refine (HC.out _).mono ?_; rintro e w3 ⟨rfl, rfl⟩)
            | (go_at_call 170; refine (HO.out _).mono ?_; rintro e w4 ⟨rfl, rfl⟩))
          go_ret
          exact ⟨rfl, HB2.out⟩
end Go.Proofs.YtdljpokhcfhhfaaGreatDoor
namespace Go.Proofs.YtdljpokhcfhhfaaGreatDoor
open Go.RowKit Go.Lib Lx
theorem links11 (s s1 : List UInt8) (a1 b1 : Int) (b : Nat) (W : World) (hc : W.cell? ⟨b, 0, none⟩ = some (.string (str s))) :
    Calls Tryz.prog 157 #[.agg #[.string (str s1), .int .u32 a1, .int .i64 b1], .pointer (some ⟨b, 0, none⟩)] W fun e w' => e = .returned (.bool (s1 == s)) ∧ Below W.heap.size W w' := by
  have hb := World.block_lt_of_cell? _ _ hc
  have HE := Lib.hid (str_beq s1 s)
  have HB := Lib.hid (Below.refl W.heap.size W)
  generalize str s1 = x at *
  generalize str s = y at *
  generalize (s1 == s) = q at *
  go_enter Tryz.func157, Tryz.ntmps157
  go_wp2
  go_ret
  exact ⟨ret_bool HE.out, HB.out.alloc (Nat.le_refl _) _⟩
set_option maxHeartbeats 2000000 in
theorem links1_any (ads : List Addr) (s : List UInt8) (a b : Int) (A : Option Addr) (n c : Nat) (ah : List (List UInt8 × Int × Int)) (w : World) (hS : EnvC ads w) (ha : ILink w A n ah) (hn : n ≤ 1000) (h0 : 0 ≤ a) (h1 : a ≤ 4294967295) :
    Calls Tryz.prog 155 #[.agg #[.string (str s), .int .u32 a, .int .i64 b], .slice A n c] w fun e w' => e = .returned (erS ads (lcode (s, a, b) ah)) ∧ Below w.heap.size w w' := by
  have HS := Lib.hid hS
  have HB0 := Lib.hid (show Below w.heap.size w (w.alloc (.cells #[.string (str s), .int .u32 a, .int .i64 b] 125)) from (Below.refl _ _).alloc (Nat.le_refl _) _)
  have HK0 := Lib.hid (show Blk (w.alloc (.cells #[.string (str s), .int .u32 a, .int .i64 b] 125)) w.heap.size 125 #[.string (str s), .int .u32 a, .int .i64 b] from Blk.new _ _ _)
  have G103 : Hid (∀ W, Below w.heap.size w W → W.cell? ⟨1, 0, none⟩ = some (erS ads 103)) := fun W hb => erS_cell (hS.below hb) (j := 2) (by decide) rfl
  have G109 : Hid (∀ W, Below w.heap.size w W → W.cell? ⟨6, 0, none⟩ = some (erS ads 109)) := fun W hb => erS_cell (hS.below hb) (j := 8) (by decide) rfl
  have G110 : Hid (∀ W, Below w.heap.size w W → W.cell? ⟨0, 0, none⟩ = some (erS ads 110)) := fun W hb => erS_cell (hS.below hb) (j := 9) (by decide) rfl
  have G113 : Hid (∀ W, Below w.heap.size w W → W.cell? ⟨2, 0, none⟩ = some (erS ads 113)) := fun W hb => erS_cell (hS.below hb) (j := 12) (by decide) rfl
  clear hS
  have hN : ∀ W, Below w.heap.size w W → Calls Tryz.prog 150 #[.string (str s)] W fun e w' => e = .returned (nmV (nameOk s) (erS ads 109)) ∧ W = w' := fun W hb => by
    have h := name_any (str s) (erS ads 109) W (G109.out W hb)
    rwa [str_data] at h
  have hcs : (w.alloc (.cells #[.string (str s), .int .u32 a, .int .i64 b] 125)).cell? ⟨w.heap.size, 0, none⟩ = some (.string (str s)) := Blk.cell HK0.out 0
  have hH := hasLink 157 #[.pointer (some ⟨w.heap.size, 0, none⟩)] (enters_of Tryz.func157 (by kernel_rfl) rfl) (fun y => y.1 == s) A n c ah _ (ha.next HB0.out) (by omega)
    (fun W i x _ hb => links11 s x.1 x.2.1 x.2.2 w.heap.size W ((hb.cell (World.block_lt_of_cell? _ _ hcs)).trans hcs))
  have HN := Lib.hid (hN _ HB0.out)
  have HH := Lib.hid hH
  have HV := Lib.hid (fun W => valid_any a b W h0 h1)
  have HW1 := Lib.hid (fun W => within_any a b 3758096384 4 W h0 h1 (by decide) (by decide))
  have HW2 := Lib.hid (fun W => within_any 3758096384 4 a b W (by decide) (by decide) h0 h1)
  clear hN hH hcs ha h0 h1
  cases hq : nameOk s with
  | false =>
    have e : lcode (s, a, b) ah = 109 := by unfold lcode; simp [hq]
    rw [e]
    obtain ⟨a9, _, hE⟩ := erS_at HS.out (j := 8) (by decide)
    have hE' : erS ads 109 = ev a9 := hE
    rw [hE']
    rw [hq, hE'] at HN
    have ev0 : nmV false (ev a9) = ev a9 := rfl
    rw [ev0] at HN
    unfold ev at HN ⊢
    clear e hq hE hE' ev0 HH G103 G109 G110 G113
    go_enter Tryz.func155, Tryz.ntmps155
    go_wp2_with (first
      | (go_at_call 150; refine (HN.out).mono ?_; rintro e w1 ⟨rfl, rfl⟩))
    go_ret
    exact ⟨rfl, HB0.out⟩
  | true =>
    rw [hq] at HN
    have ev0 : nmV true (erS ads 109) = .nilIface := rfl
    rw [ev0] at HN
    clear ev0
    cases hh : ah.any (fun y => y.1 == s) with
    | true =>
      have e : lcode (s, a, b) ah = 110 := by unfold lcode; simp [hq, hh]
      rw [e]
      rw [hh] at HH
      clear e hq hh
      generalize erS ads 103 = E103 at *
      generalize erS ads 109 = E109 at *
      generalize erS ads 110 = E110 at *
      generalize erS ads 113 = E113 at *
      go_enter Tryz.func155, Tryz.ntmps155
      go_wp2_with (first
        | (go_at_call 150; refine (HN.out).mono ?_; rintro e w1 ⟨rfl, rfl⟩)
        | (go_at_call 156; refine (HH.out).mono ?_; rintro e w2 ⟨rfl, hb⟩
           have HB2 := Lib.hid (below_next HB0.out hb)
           have HK2 := Lib.hid (HK0.out.next hb)
           have g1032 : w2.cell? ⟨1, 0, none⟩ = some E103 := G103.out w2 HB2.out
           have g1092 : w2.cell? ⟨6, 0, none⟩ = some E109 := G109.out w2 HB2.out
           have g1102 : w2.cell? ⟨0, 0, none⟩ = some E110 := G110.out w2 HB2.out
           have g1132 : w2.cell? ⟨2, 0, none⟩ = some E113 := G113.out w2 HB2.out
           have x02 : w2.cell? ⟨w.heap.size, 0, none⟩ = some (.string (str s)) := Blk.cell HK2.out 0
           have x12 : w2.cell? ⟨w.heap.size, 1, none⟩ = some (.int .u32 a) := Blk.cell HK2.out 1
           have x22 : w2.cell? ⟨w.heap.size, 2, none⟩ = some (.int .i64 b) := Blk.cell HK2.out 2
           clear hb))
      go_ret
      exact ⟨rfl, HB2.out⟩
    | false =>
      rw [hh] at HH
      cases hv : Ad.valid a b with
      | false =>
        have e : lcode (s, a, b) ah = 103 := by unfold lcode; simp [hq, hh, hv]
        rw [e]
        rw [hv] at HV
        clear e hq hh hv
        generalize erS ads 103 = E103 at *
        generalize erS ads 109 = E109 at *
        generalize erS ads 110 = E110 at *
        generalize erS ads 113 = E113 at *
        go_enter Tryz.func155, Tryz.ntmps155
        go_wp2_with (first
          | (go_at_call 150; refine (HN.out).mono ?_; rintro e w1 ⟨rfl, rfl⟩)
          | (go_at_call 156; refine (HH.out).mono ?_; rintro e w2 ⟨rfl, hb⟩
             have HB2 := Lib.hid (below_next HB0.out hb)
             have HK2 := Lib.hid (HK0.out.next hb)
             have g1032 : w2.cell? ⟨1, 0, none⟩ = some E103 := G103.out w2 HB2.out
             have g1092 : w2.cell? ⟨6, 0, none⟩ = some E109 := G109.out w2 HB2.out
             have g1102 : w2.cell? ⟨0, 0, none⟩ = some E110 := G110.out w2 HB2.out
             have g1132 : w2.cell? ⟨2, 0, none⟩ = some E113 := G113.out w2 HB2.out
             have x02 : w2.cell? ⟨w.heap.size, 0, none⟩ = some (.string (str s)) := Blk.cell HK2.out 0
             have x12 : w2.cell? ⟨w.heap.size, 1, none⟩ = some (.int .u32 a) := Blk.cell HK2.out 1
             have x22 : w2.cell? ⟨w.heap.size, 2, none⟩ = some (.int .i64 b) := Blk.cell HK2.out 2
             clear hb)
          | (go_at_call 158; refine (HV.out _).mono ?_; rintro e w3 ⟨rfl, hb⟩
             have HB3 := Lib.hid (below_next HB2.out hb)
             have HK3 := Lib.hid (HK2.out.next hb)
             have g1033 : w3.cell? ⟨1, 0, none⟩ = some E103 := G103.out w3 HB3.out
             have g1093 : w3.cell? ⟨6, 0, none⟩ = some E109 := G109.out w3 HB3.out
             have g1103 : w3.cell? ⟨0, 0, none⟩ = some E110 := G110.out w3 HB3.out
             have g1133 : w3.cell? ⟨2, 0, none⟩ = some E113 := G113.out w3 HB3.out
             have x03 : w3.cell? ⟨w.heap.size, 0, none⟩ = some (.string (str s)) := Blk.cell HK3.out 0
             have x13 : w3.cell? ⟨w.heap.size, 1, none⟩ = some (.int .u32 a) := Blk.cell HK3.out 1
             have x23 : w3.cell? ⟨w.heap.size, 2, none⟩ = some (.int .i64 b) := Blk.cell HK3.out 2
             clear hb))
        go_ret
        exact ⟨rfl, HB3.out⟩
      | true =>
        rw [hv] at HV
        cases hw1 : Ad.within a b 3758096384 4 with
        | true =>
          have e : lcode (s, a, b) ah = 113 := by unfold lcode; simp [hq, hh, hv, hw1]
          rw [e]
          rw [hw1] at HW1
          clear e hq hh hv hw1
          generalize erS ads 103 = E103 at *
          generalize erS ads 109 = E109 at *
          generalize erS ads 110 = E110 at *
          generalize erS ads 113 = E113 at *
          go_enter Tryz.func155, Tryz.ntmps155
          go_wp2_with (first
            | (go_at_call 150; refine (HN.out).mono ?_; rintro e w1 ⟨rfl, rfl⟩)
            | (go_at_call 156; refine (HH.out).mono ?_; rintro e w2 ⟨rfl, hb⟩
               have HB2 := Lib.hid (below_next HB0.out hb)
               have HK2 := Lib.hid (HK0.out.next hb)
               have g1032 : w2.cell? ⟨1, 0, none⟩ = some E103 := G103.out w2 HB2.out
               have g1092 : w2.cell? ⟨6, 0, none⟩ = some E109 := G109.out w2 HB2.out
               have g1102 : w2.cell? ⟨0, 0, none⟩ = some E110 := G110.out w2 HB2.out
               have g1132 : w2.cell? ⟨2, 0, none⟩ = some E113 := G113.out w2 HB2.out
               have x02 : w2.cell? ⟨w.heap.size, 0, none⟩ = some (.string (str s)) := Blk.cell HK2.out 0
               have x12 : w2.cell? ⟨w.heap.size, 1, none⟩ = some (.int .u32 a) := Blk.cell HK2.out 1
               have x22 : w2.cell? ⟨w.heap.size, 2, none⟩ = some (.int .i64 b) := Blk.cell HK2.out 2
               clear hb)
            | (go_at_call 158; refine (HV.out _).mono ?_; rintro e w3 ⟨rfl, hb⟩
               have HB3 := Lib.hid (below_next HB2.out hb)
               have HK3 := Lib.hid (HK2.out.next hb)
               have g1033 : w3.cell? ⟨1, 0, none⟩ = some E103 := G103.out w3 HB3.out
               have g1093 : w3.cell? ⟨6, 0, none⟩ = some E109 := G109.out w3 HB3.out
               have g1103 : w3.cell? ⟨0, 0, none⟩ = some E110 := G110.out w3 HB3.out
               have g1133 : w3.cell? ⟨2, 0, none⟩ = some E113 := G113.out w3 HB3.out
               have x03 : w3.cell? ⟨w.heap.size, 0, none⟩ = some (.string (str s)) := Blk.cell HK3.out 0
               have x13 : w3.cell? ⟨w.heap.size, 1, none⟩ = some (.int .u32 a) := Blk.cell HK3.out 1
               have x23 : w3.cell? ⟨w.heap.size, 2, none⟩ = some (.int .i64 b) := Blk.cell HK3.out 2
               clear hb))
          have k0 : ∀ W, Below w3.heap.size w3 W → W.cell? ⟨w.heap.size, 0, none⟩ = some (.string (str s)) := fun W hb => (hb.cell (World.block_lt_of_cell? _ _ x03)).trans x03
          have k1 : ∀ W, Below w3.heap.size w3 W → W.cell? ⟨w.heap.size, 1, none⟩ = some (.int .u32 a) := fun W hb => (hb.cell (World.block_lt_of_cell? _ _ x13)).trans x13
          have k2 : ∀ W, Below w3.heap.size w3 W → W.cell? ⟨w.heap.size, 2, none⟩ = some (.int .i64 b) := fun W hb => (hb.cell (World.block_lt_of_cell? _ _ x23)).trans x23
          have hS0 : Below w3.heap.size w3 w3.drew := (Below.refl _ _).drew
          refine wp_region_held_drew (S := fun w' => Below w3.heap.size w3 w') (by kernel_rfl) hS0 (fun hHeld => ?_)
          have hH : Below w3.heap.size w3 w3.drew := hHeld
          clear hHeld hS0
          refine wpAnyH_take (i := 0) (v := .pointer (some ⟨w.heap.size, 1, none⟩)) rfl (by kernel_rfl) (by kernel_rfl) (by kernel_rfl) (fun _ _ _ h => h) (Or.inl ⟨by rfl, fun w' hSw => by (try dsimp only at hSw); go_simp⟩) hH ?_
          try go_simp
          refine wpAnyH_take (i := 1) (v := .agg #[.int .u32 a, .int .i64 b]) rfl (by kernel_rfl) (by kernel_rfl) (by kernel_rfl) (fun _ _ _ h => h) (Or.inl ⟨by rfl, fun w' hSw => by (try dsimp only at hSw); go_simp⟩) hH ?_
          try go_simp
          refine wpAnyH_ready (rs := [2]) (by kernel_rfl) (by simp) ?_
          refine AllReadyH.cons rfl (fun K hK => ?_) AllReadyH.nil
          go_simp
          refine (groups_any _).mono ?_
          rintro e wa ⟨rfl, hb⟩
          have hb' := below_next (w := w3) hH hb
          refine hK.out _ _ hb' (fun hHeld => ?_)
          clear hK K hH hb hHeld
          have hH := hb'
          clear hb'
          try go_simp
          refine wpAnyH_ready (rs := [3]) (by kernel_rfl) (by simp) ?_
          refine AllReadyH.cons rfl (fun K hK => ?_) AllReadyH.nil
          go_simp
          refine (HW1.out _).mono ?_
          rintro e wa ⟨rfl, hb⟩
          have hb' := below_next (w := w3) hH hb
          refine hK.out _ _ hb' (fun hHeld => ?_)
          clear hK K hH hb hHeld
          have hH := hb'
          clear hb'
          try go_simp
          refine wpAnyH_take (i := 4) (v := .bool true) rfl (by kernel_rfl) (by kernel_rfl) (by kernel_rfl) (fun _ _ _ h => h) (Or.inl ⟨by rfl, fun w' hSw => by (try dsimp only at hSw); go_simp⟩) hH ?_
          try go_simp
          refine wpAnyH_take (i := 5) (v := undef) rfl (by kernel_rfl) (by kernel_rfl) (by kernel_rfl) (fun _ _ _ h => h) (Or.inr ⟨by rfl, rfl⟩) hH ?_
          try go_simp
          refine wpAnyH_take (i := 6) (v := undef) rfl (by kernel_rfl) (by kernel_rfl) (by kernel_rfl) (fun _ _ _ h => h) (Or.inr ⟨by rfl, rfl⟩) hH ?_
          try go_simp
          refine wpAnyH_take (i := 7) (v := undef) rfl (by kernel_rfl) (by kernel_rfl) (by kernel_rfl) (fun _ _ _ h => h) (Or.inr ⟨by rfl, rfl⟩) hH ?_
          try go_simp
          refine wpAnyH_take (i := 8) (v := undef) rfl (by kernel_rfl) (by kernel_rfl) (by kernel_rfl) (fun _ _ _ h => h) (Or.inr ⟨by rfl, rfl⟩) hH ?_
          try go_simp
          refine wpAnyH_take (i := 9) (v := .bool true) rfl (by kernel_rfl) (by kernel_rfl) (by kernel_rfl) (fun _ _ _ h => h) (Or.inl ⟨by rfl, fun w' hSw => by (try dsimp only at hSw); go_simp⟩) hH ?_
          try go_simp
          refine wpAnyH_take (i := 10) (v := .bool true) rfl (by kernel_rfl) (by kernel_rfl) (by kernel_rfl) (fun _ _ _ h => h) (Or.inl ⟨by rfl, fun w' hSw => by (try dsimp only at hSw); go_simp⟩) hH ?_
          try go_simp
          refine wpAnyH_done (by kernel_rfl) ?_ _
          have HB4 := Lib.hid (below_next HB3.out hH)
          have g113z := G113.out _ HB4.out
          clear hH
          go_wp2
          go_ret
          exact ⟨rfl, HB4.out⟩
        | false =>
          cases hw2 : Ad.within 3758096384 4 a b with
          | true =>
            have e : lcode (s, a, b) ah = 113 := by unfold lcode; simp [hq, hh, hv, hw1, hw2]
            rw [e]
            rw [hw1] at HW1
            rw [hw2] at HW2
            clear e hq hh hv hw1 hw2
            generalize erS ads 103 = E103 at *
            generalize erS ads 109 = E109 at *
            generalize erS ads 110 = E110 at *
            generalize erS ads 113 = E113 at *
            go_enter Tryz.func155, Tryz.ntmps155
            go_wp2_with (first
              | (go_at_call 150; refine (HN.out).mono ?_; rintro e w1 ⟨rfl, rfl⟩)
              | (go_at_call 156; refine (HH.out).mono ?_; rintro e w2 ⟨rfl, hb⟩
                 have HB2 := Lib.hid (below_next HB0.out hb)
                 have HK2 := Lib.hid (HK0.out.next hb)
                 have g1032 : w2.cell? ⟨1, 0, none⟩ = some E103 := G103.out w2 HB2.out
                 have g1092 : w2.cell? ⟨6, 0, none⟩ = some E109 := G109.out w2 HB2.out
                 have g1102 : w2.cell? ⟨0, 0, none⟩ = some E110 := G110.out w2 HB2.out
                 have g1132 : w2.cell? ⟨2, 0, none⟩ = some E113 := G113.out w2 HB2.out
                 have x02 : w2.cell? ⟨w.heap.size, 0, none⟩ = some (.string (str s)) := Blk.cell HK2.out 0
                 have x12 : w2.cell? ⟨w.heap.size, 1, none⟩ = some (.int .u32 a) := Blk.cell HK2.out 1
                 have x22 : w2.cell? ⟨w.heap.size, 2, none⟩ = some (.int .i64 b) := Blk.cell HK2.out 2
                 clear hb)
              | (go_at_call 158; refine (HV.out _).mono ?_; rintro e w3 ⟨rfl, hb⟩
                 have HB3 := Lib.hid (below_next HB2.out hb)
                 have HK3 := Lib.hid (HK2.out.next hb)
                 have g1033 : w3.cell? ⟨1, 0, none⟩ = some E103 := G103.out w3 HB3.out
                 have g1093 : w3.cell? ⟨6, 0, none⟩ = some E109 := G109.out w3 HB3.out
                 have g1103 : w3.cell? ⟨0, 0, none⟩ = some E110 := G110.out w3 HB3.out
                 have g1133 : w3.cell? ⟨2, 0, none⟩ = some E113 := G113.out w3 HB3.out
                 have x03 : w3.cell? ⟨w.heap.size, 0, none⟩ = some (.string (str s)) := Blk.cell HK3.out 0
                 have x13 : w3.cell? ⟨w.heap.size, 1, none⟩ = some (.int .u32 a) := Blk.cell HK3.out 1
                 have x23 : w3.cell? ⟨w.heap.size, 2, none⟩ = some (.int .i64 b) := Blk.cell HK3.out 2
                 clear hb))
            have k0 : ∀ W, Below w3.heap.size w3 W → W.cell? ⟨w.heap.size, 0, none⟩ = some (.string (str s)) := fun W hb => (hb.cell (World.block_lt_of_cell? _ _ x03)).trans x03
            have k1 : ∀ W, Below w3.heap.size w3 W → W.cell? ⟨w.heap.size, 1, none⟩ = some (.int .u32 a) := fun W hb => (hb.cell (World.block_lt_of_cell? _ _ x13)).trans x13
            have k2 : ∀ W, Below w3.heap.size w3 W → W.cell? ⟨w.heap.size, 2, none⟩ = some (.int .i64 b) := fun W hb => (hb.cell (World.block_lt_of_cell? _ _ x23)).trans x23
            have hS0 : Below w3.heap.size w3 w3.drew := (Below.refl _ _).drew
            refine wp_region_held_drew (S := fun w' => Below w3.heap.size w3 w') (by kernel_rfl) hS0 (fun hHeld => ?_)
            have hH : Below w3.heap.size w3 w3.drew := hHeld
            clear hHeld hS0
            refine wpAnyH_take (i := 0) (v := .pointer (some ⟨w.heap.size, 1, none⟩)) rfl (by kernel_rfl) (by kernel_rfl) (by kernel_rfl) (fun _ _ _ h => h) (Or.inl ⟨by rfl, fun w' hSw => by (try dsimp only at hSw); go_simp⟩) hH ?_
            try go_simp
            refine wpAnyH_take (i := 1) (v := .agg #[.int .u32 a, .int .i64 b]) rfl (by kernel_rfl) (by kernel_rfl) (by kernel_rfl) (fun _ _ _ h => h) (Or.inl ⟨by rfl, fun w' hSw => by (try dsimp only at hSw); go_simp⟩) hH ?_
            try go_simp
            refine wpAnyH_ready (rs := [2]) (by kernel_rfl) (by simp) ?_
            refine AllReadyH.cons rfl (fun K hK => ?_) AllReadyH.nil
            go_simp
            refine (groups_any _).mono ?_
            rintro e wa ⟨rfl, hb⟩
            have hb' := below_next (w := w3) hH hb
            refine hK.out _ _ hb' (fun hHeld => ?_)
            clear hK K hH hb hHeld
            have hH := hb'
            clear hb'
            try go_simp
            refine wpAnyH_ready (rs := [3]) (by kernel_rfl) (by simp) ?_
            refine AllReadyH.cons rfl (fun K hK => ?_) AllReadyH.nil
            go_simp
            refine (HW1.out _).mono ?_
            rintro e wa ⟨rfl, hb⟩
            have hb' := below_next (w := w3) hH hb
            refine hK.out _ _ hb' (fun hHeld => ?_)
            clear hK K hH hb hHeld
            have hH := hb'
            clear hb'
            try go_simp
            refine wpAnyH_take (i := 4) (v := .bool false) rfl (by kernel_rfl) (by kernel_rfl) (by kernel_rfl) (fun _ _ _ h => h) (Or.inl ⟨by rfl, fun w' hSw => by (try dsimp only at hSw); go_simp⟩) hH ?_
            try go_simp
            refine wpAnyH_take (i := 6) (v := .pointer (some ⟨w.heap.size, 1, none⟩)) rfl (by kernel_rfl) (by kernel_rfl) (by kernel_rfl) (fun _ _ _ h => h) (Or.inl ⟨by rfl, fun w' hSw => by (try dsimp only at hSw); go_simp⟩) hH ?_
            try go_simp
            refine wpAnyH_take (i := 7) (v := .agg #[.int .u32 a, .int .i64 b]) rfl (by kernel_rfl) (by kernel_rfl) (by kernel_rfl) (fun _ _ _ h => h) (Or.inl ⟨by rfl, fun w' hSw => by (try dsimp only at hSw); go_simp⟩) hH ?_
            try go_simp
            refine wpAnyH_ready (rs := [5]) (by kernel_rfl) (by simp) ?_
            refine AllReadyH.cons rfl (fun K hK => ?_) AllReadyH.nil
            go_simp
            refine (groups_any _).mono ?_
            rintro e wa ⟨rfl, hb⟩
            have hb' := below_next (w := w3) hH hb
            refine hK.out _ _ hb' (fun hHeld => ?_)
            clear hK K hH hb hHeld
            have hH := hb'
            clear hb'
            try go_simp
            refine wpAnyH_ready (rs := [8]) (by kernel_rfl) (by simp) ?_
            refine AllReadyH.cons rfl (fun K hK => ?_) AllReadyH.nil
            go_simp
            refine (HW2.out _).mono ?_
            rintro e wa ⟨rfl, hb⟩
            have hb' := below_next (w := w3) hH hb
            refine hK.out _ _ hb' (fun hHeld => ?_)
            clear hK K hH hb hHeld
            have hH := hb'
            clear hb'
            try go_simp
            refine wpAnyH_take (i := 9) (v := .bool true) rfl (by kernel_rfl) (by kernel_rfl) (by kernel_rfl) (fun _ _ _ h => h) (Or.inl ⟨by rfl, fun w' hSw => by (try dsimp only at hSw); go_simp⟩) hH ?_
            try go_simp
            refine wpAnyH_take (i := 10) (v := .bool true) rfl (by kernel_rfl) (by kernel_rfl) (by kernel_rfl) (fun _ _ _ h => h) (Or.inl ⟨by rfl, fun w' hSw => by (try dsimp only at hSw); go_simp⟩) hH ?_
            try go_simp
            refine wpAnyH_done (by kernel_rfl) ?_ _
            have HB4 := Lib.hid (below_next HB3.out hH)
            have g113z := G113.out _ HB4.out
            clear hH
            go_wp2
            go_ret
            exact ⟨rfl, HB4.out⟩
          | false =>
            have e : lcode (s, a, b) ah = 0 := by unfold lcode; simp [hq, hh, hv, hw1, hw2]
            rw [e]
            rw [hw1] at HW1
            rw [hw2] at HW2
            clear e hq hh hv hw1 hw2
            have e0 : erS ads 0 = .nilIface := rfl
            rw [e0]
            clear e0
            generalize erS ads 103 = E103 at *
            generalize erS ads 109 = E109 at *
            generalize erS ads 110 = E110 at *
            generalize erS ads 113 = E113 at *
            go_enter Tryz.func155, Tryz.ntmps155
            go_wp2_with (first
              | (go_at_call 150; refine (HN.out).mono ?_; rintro e w1 ⟨rfl, rfl⟩)
              | (go_at_call 156; refine (HH.out).mono ?_; rintro e w2 ⟨rfl, hb⟩
                 have HB2 := Lib.hid (below_next HB0.out hb)
                 have HK2 := Lib.hid (HK0.out.next hb)
                 have g1032 : w2.cell? ⟨1, 0, none⟩ = some E103 := G103.out w2 HB2.out
                 have g1092 : w2.cell? ⟨6, 0, none⟩ = some E109 := G109.out w2 HB2.out
                 have g1102 : w2.cell? ⟨0, 0, none⟩ = some E110 := G110.out w2 HB2.out
                 have g1132 : w2.cell? ⟨2, 0, none⟩ = some E113 := G113.out w2 HB2.out
                 have x02 : w2.cell? ⟨w.heap.size, 0, none⟩ = some (.string (str s)) := Blk.cell HK2.out 0
                 have x12 : w2.cell? ⟨w.heap.size, 1, none⟩ = some (.int .u32 a) := Blk.cell HK2.out 1
                 have x22 : w2.cell? ⟨w.heap.size, 2, none⟩ = some (.int .i64 b) := Blk.cell HK2.out 2
                 clear hb)
              | (go_at_call 158; refine (HV.out _).mono ?_; rintro e w3 ⟨rfl, hb⟩
                 have HB3 := Lib.hid (below_next HB2.out hb)
                 have HK3 := Lib.hid (HK2.out.next hb)
                 have g1033 : w3.cell? ⟨1, 0, none⟩ = some E103 := G103.out w3 HB3.out
                 have g1093 : w3.cell? ⟨6, 0, none⟩ = some E109 := G109.out w3 HB3.out
                 have g1103 : w3.cell? ⟨0, 0, none⟩ = some E110 := G110.out w3 HB3.out
                 have g1133 : w3.cell? ⟨2, 0, none⟩ = some E113 := G113.out w3 HB3.out
                 have x03 : w3.cell? ⟨w.heap.size, 0, none⟩ = some (.string (str s)) := Blk.cell HK3.out 0
                 have x13 : w3.cell? ⟨w.heap.size, 1, none⟩ = some (.int .u32 a) := Blk.cell HK3.out 1
                 have x23 : w3.cell? ⟨w.heap.size, 2, none⟩ = some (.int .i64 b) := Blk.cell HK3.out 2
                 clear hb))
            have k0 : ∀ W, Below w3.heap.size w3 W → W.cell? ⟨w.heap.size, 0, none⟩ = some (.string (str s)) := fun W hb => (hb.cell (World.block_lt_of_cell? _ _ x03)).trans x03
            have k1 : ∀ W, Below w3.heap.size w3 W → W.cell? ⟨w.heap.size, 1, none⟩ = some (.int .u32 a) := fun W hb => (hb.cell (World.block_lt_of_cell? _ _ x13)).trans x13
            have k2 : ∀ W, Below w3.heap.size w3 W → W.cell? ⟨w.heap.size, 2, none⟩ = some (.int .i64 b) := fun W hb => (hb.cell (World.block_lt_of_cell? _ _ x23)).trans x23
            have hS0 : Below w3.heap.size w3 w3.drew := (Below.refl _ _).drew
            refine wp_region_held_drew (S := fun w' => Below w3.heap.size w3 w') (by kernel_rfl) hS0 (fun hHeld => ?_)
            have hH : Below w3.heap.size w3 w3.drew := hHeld
            clear hHeld hS0
            refine wpAnyH_take (i := 0) (v := .pointer (some ⟨w.heap.size, 1, none⟩)) rfl (by kernel_rfl) (by kernel_rfl) (by kernel_rfl) (fun _ _ _ h => h) (Or.inl ⟨by rfl, fun w' hSw => by (try dsimp only at hSw); go_simp⟩) hH ?_
            try go_simp
            refine wpAnyH_take (i := 1) (v := .agg #[.int .u32 a, .int .i64 b]) rfl (by kernel_rfl) (by kernel_rfl) (by kernel_rfl) (fun _ _ _ h => h) (Or.inl ⟨by rfl, fun w' hSw => by (try dsimp only at hSw); go_simp⟩) hH ?_
            try go_simp
            refine wpAnyH_ready (rs := [2]) (by kernel_rfl) (by simp) ?_
            refine AllReadyH.cons rfl (fun K hK => ?_) AllReadyH.nil
            go_simp
            refine (groups_any _).mono ?_
            rintro e wa ⟨rfl, hb⟩
            have hb' := below_next (w := w3) hH hb
            refine hK.out _ _ hb' (fun hHeld => ?_)
            clear hK K hH hb hHeld
            have hH := hb'
            clear hb'
            try go_simp
            refine wpAnyH_ready (rs := [3]) (by kernel_rfl) (by simp) ?_
            refine AllReadyH.cons rfl (fun K hK => ?_) AllReadyH.nil
            go_simp
            refine (HW1.out _).mono ?_
            rintro e wa ⟨rfl, hb⟩
            have hb' := below_next (w := w3) hH hb
            refine hK.out _ _ hb' (fun hHeld => ?_)
            clear hK K hH hb hHeld
            have hH := hb'
            clear hb'
            try go_simp
            refine wpAnyH_take (i := 4) (v := .bool false) rfl (by kernel_rfl) (by kernel_rfl) (by kernel_rfl) (fun _ _ _ h => h) (Or.inl ⟨by rfl, fun w' hSw => by (try dsimp only at hSw); go_simp⟩) hH ?_
            try go_simp
            refine wpAnyH_take (i := 6) (v := .pointer (some ⟨w.heap.size, 1, none⟩)) rfl (by kernel_rfl) (by kernel_rfl) (by kernel_rfl) (fun _ _ _ h => h) (Or.inl ⟨by rfl, fun w' hSw => by (try dsimp only at hSw); go_simp⟩) hH ?_
            try go_simp
            refine wpAnyH_take (i := 7) (v := .agg #[.int .u32 a, .int .i64 b]) rfl (by kernel_rfl) (by kernel_rfl) (by kernel_rfl) (fun _ _ _ h => h) (Or.inl ⟨by rfl, fun w' hSw => by (try dsimp only at hSw); go_simp⟩) hH ?_
            try go_simp
            refine wpAnyH_ready (rs := [5]) (by kernel_rfl) (by simp) ?_
            refine AllReadyH.cons rfl (fun K hK => ?_) AllReadyH.nil
            go_simp
            refine (groups_any _).mono ?_
            rintro e wa ⟨rfl, hb⟩
            have hb' := below_next (w := w3) hH hb
            refine hK.out _ _ hb' (fun hHeld => ?_)
            clear hK K hH hb hHeld
            have hH := hb'
            clear hb'
            try go_simp
            refine wpAnyH_ready (rs := [8]) (by kernel_rfl) (by simp) ?_
            refine AllReadyH.cons rfl (fun K hK => ?_) AllReadyH.nil
            go_simp
            refine (HW2.out _).mono ?_
            rintro e wa ⟨rfl, hb⟩
            have hb' := below_next (w := w3) hH hb
            refine hK.out _ _ hb' (fun hHeld => ?_)
            clear hK K hH hb hHeld
            have hH := hb'
            clear hb'
            try go_simp
            refine wpAnyH_take (i := 9) (v := .bool false) rfl (by kernel_rfl) (by kernel_rfl) (by kernel_rfl) (fun _ _ _ h => h) (Or.inl ⟨by rfl, fun w' hSw => by (try dsimp only at hSw); go_simp⟩) hH ?_
            try go_simp
            refine wpAnyH_take (i := 10) (v := .bool false) rfl (by kernel_rfl) (by kernel_rfl) (by kernel_rfl) (fun _ _ _ h => h) (Or.inl ⟨by rfl, fun w' hSw => by (try dsimp only at hSw); go_simp⟩) hH ?_
            try go_simp
            refine wpAnyH_done (by kernel_rfl) ?_ _
            have HB4 := Lib.hid (below_next HB3.out hH)
            clear hH
            go_wp2
            go_ret
            exact ⟨rfl, HB4.out⟩
end Go.Proofs.YtdljpokhcfhhfaaGreatDoor
namespace Go.Proofs.YtdljpokhcfhhfaaGreatDoor
open Go.RowKit Go.Lib Lx
theorem ranges11 (a b a1 b1 r1 : Int) (bk : Nat) (W : World) (h0 : W.cell? ⟨bk, 0, none⟩ = some (.int .u32 a)) (h1 : W.cell? ⟨bk, 1, none⟩ = some (.int .i64 b)) :
    Calls Tryz.prog 174 #[.agg #[.int .u32 a1, .int .i64 b1, .int .u32 r1], .pointer (some ⟨bk, 0, none⟩)] W fun e w' => e = .returned (.bool (a1 == a && b1 == b)) ∧ Below W.heap.size W w' := by
  have hb := World.block_lt_of_cell? _ _ h0
  have HB := Lib.hid (Below.refl W.heap.size W)
  go_enter Tryz.func174, Tryz.ntmps174
  go_wp2
  all_goals go_ret
  all_goals exact ⟨ret_bool (by simp_all), HB.out.alloc (Nat.le_refl _) _⟩
theorem ports11 (r l a r1 l1 a1 : Int) (bk : Nat) (W : World) (h0 : W.cell? ⟨bk, 0, none⟩ = some (.int .i64 r)) (h1 : W.cell? ⟨bk, 1, none⟩ = some (.int .i64 l)) (h2 : W.cell? ⟨bk, 2, none⟩ = some (.int .u32 a)) :
    Calls Tryz.prog 167 #[.agg #[.int .i64 r1, .int .i64 l1, .int .u32 a1], .pointer (some ⟨bk, 0, none⟩)] W fun e w' => e = .returned (.bool (a1 == a || r1 == r && l1 == l)) ∧ Below W.heap.size W w' := by
  have hb := World.block_lt_of_cell? _ _ h0
  have HB := Lib.hid (Below.refl W.heap.size W)
  go_enter Tryz.func167, Tryz.ntmps167
  go_wp2
  all_goals go_ret
  all_goals exact ⟨ret_bool (by simp_all), HB.out.alloc (Nat.le_refl _) _⟩
theorem taken1 (l s g r1 l1 a1 : Int) (bk : Nat) (W : World) (_h0 : W.cell? ⟨bk, 0, none⟩ = some (.int .i64 l)) (h1 : W.cell? ⟨bk, 1, none⟩ = some (.int .u32 s)) (_h2 : W.cell? ⟨bk, 2, none⟩ = some (.int .u32 g)) :
    Calls Tryz.prog 220 #[.agg #[.int .i64 r1, .int .i64 l1, .int .u32 a1], .pointer (some ⟨bk, 0, none⟩)] W fun e w' => e = .returned (.bool (a1 == s)) ∧ Below W.heap.size W w' := by
  have hb := World.block_lt_of_cell? _ _ h1
  have HB := Lib.hid (Below.refl W.heap.size W)
  go_enter Tryz.func220, Tryz.ntmps220
  go_wp2
  go_ret
  exact ⟨rfl, HB.out.alloc (Nat.le_refl _) _⟩
theorem taken2 (l s g l1 s1 g1 : Int) (bk : Nat) (W : World) (h0 : W.cell? ⟨bk, 0, none⟩ = some (.int .i64 l)) (h1 : W.cell? ⟨bk, 1, none⟩ = some (.int .u32 s)) (h2 : W.cell? ⟨bk, 2, none⟩ = some (.int .u32 g)) :
    Calls Tryz.prog 222 #[.agg #[.int .i64 l1, .int .u32 s1, .int .u32 g1], .pointer (some ⟨bk, 0, none⟩)] W fun e w' => e = .returned (.bool ((s1 == s && g1 == g) || (s1 == s && !(l1 == l)))) ∧ Below W.heap.size W w' := by
  have hb := World.block_lt_of_cell? _ _ h1
  have HB := Lib.hid (Below.refl W.heap.size W)
  go_enter Tryz.func222, Tryz.ntmps222
  go_wp2
  all_goals go_ret
  all_goals exact ⟨ret_bool (by first | rfl | simp_all | (rename_i q1 q2; rw [beq_eq_false_iff_ne.2 q2, Bool.false_or]; rfl)), HB.out.alloc (Nat.le_refl _) _⟩
theorem members11 (a : Int) (W : World) (h0 : 0 ≤ a) (h1 : a ≤ 4294967295) :
    Calls Tryz.prog 181 #[.int .u32 a] W fun e w' => e = .returned (.bool (!oneA a)) ∧ Below W.heap.size W w' := by
  have H := Lib.hid (fun W => single_any a W h0 h1)
  have HB := Lib.hid (Below.refl W.heap.size W)
  generalize oneA a = q at *
  go_enter Tryz.func181, Tryz.ntmps181
  go_wp2_with (go_at_call 170; refine (H.out _).mono ?_; rintro e w1 ⟨rfl, rfl⟩)
  go_ret
  exact ⟨rfl, HB.out⟩
theorem AR.items {w : World} {A : Option Addr} {n : Nat} {xs : List Int} (h : AR w A n xs) : IAddr w A n xs := by
  refine ⟨h.len, fun hn => ?_⟩
  obtain ⟨b, o, e, hlt, hc⟩ := h.2.2 hn
  refine ⟨b, o, e, hlt, fun i x hx j v hv => ?_⟩
  have hi : i < n := by have := (List.getElem?_eq_some_iff.1 hx).1; rw [h.len] at this; exact this
  have h1 := hc i hi
  rw [List.getD_eq_getElem?_getD, hx] at h1
  match j, hv with
  | 0, hv =>
    simp [CAddr] at hv
    subst hv
    simpa using h1
  | j + 1, hv => simp [CAddr] at hv
set_option maxHeartbeats 1000000 in
theorem index_any (a : Int) (A : Option Addr) (n c : Nat) (xs : List Int) (w : World) (hr : IAddr w A n xs) (hn : n ≤ 1000000) :
    Calls Tryz.prog 254 #[.slice A n c, .int .u32 a] w fun e w' => e = .returned (.int .i64 (idxI (fun x => a == x) xs)) ∧ w = w' := by
  have HR := Lib.hid hr
  clear hr
  go_enter Tryz.func254, Tryz.ntmps254
  go_wp2
  go_loop [8] (fun i => ∃ k : Nat, k ≤ n ∧ i = .int .i64 k ∧ Hid (∀ (j : Nat) x, j < k → xs[j]? = some x → (a == x) = false)) (fun i => n - (intOf i).toNat)
  case atStart => exact ⟨0, Nat.zero_le _, rfl, fun j x hj => absurd hj (Nat.not_lt_zero _)⟩
  case round =>
    obtain ⟨k, hk, rfl, hno⟩ := hrel
    rcases Nat.lt_or_ge k n with hlt | hge
    · obtain ⟨bq, oq, x, rfl, hb, hx, hc⟩ := IAddr.cells HR.out hlt
      have hi0 : (k : Int) < n := by omega
      have HX := Lib.hid hx
      clear hx
      cases hq : (a == x) with
      | true =>
        have HQ := Lib.hid hq
        go_wp2
        go_ret
        refine ⟨ret_int ?_, rfl⟩
        rw [idxI_hit xs k _ HX.out HQ.out hno.out]
      | false =>
        have HQ := Lib.hid hq
        go_wp2
        go_round
        case rel => exact ⟨k + 1, by omega, by go_num, (show Hid _ from fun j y hj hy => by
            by_cases e : j = k
            · subst e; rw [HX.out] at hy; injection hy with hy; rw [← hy]; exact HQ.out
            · exact hno.out j y (by omega) hy)⟩
        case measure => simp [intOf]; omega
    · obtain rfl : k = n := by omega
      have HE := Lib.hid (idxI_none xs (p := fun x => a == x) fun j x hx => hno.out j x (by have := (List.getElem?_eq_some_iff.1 hx).1; rw [HR.out.len] at this; exact this) hx)
      clear hno
      go_wp2
      go_ret
      refine ⟨ret_int ?_, rfl⟩
      rw [HE.out]
theorem any_eq_contains (a : Int) : ∀ xs : List Int, xs.any (fun x => a == x) = xs.contains a
  | [] => rfl
  | x :: xs => by rw [List.any_cons, any_eq_contains a xs, List.contains_cons]
theorem contains_any (a : Int) (A : Option Addr) (n c : Nat) (xs : List Int) (w : World) (hr : IAddr w A n xs) (hn : n ≤ 1000000) :
    Calls Tryz.prog 223 #[.slice A n c, .int .u32 a] w fun e w' => e = .returned (.bool (xs.contains a)) ∧ w = w' := by
  have H := Lib.hid (index_any a A n c xs w hr hn)
  have HA := Lib.hid ((idxI_any (p := fun x => a == x) xs).trans (any_eq_contains a xs))
  generalize idxI (fun x => a == x) xs = v at *
  generalize xs.contains a = r at *
  go_enter Tryz.func223, Tryz.ntmps223
  go_wp2_with (go_at_call 254; refine H.out.mono ?_; rintro e w1 ⟨rfl, rfl⟩)
  go_ret
  exact ⟨ret_bool HA.out, rfl⟩
theorem twice_here {ah l : List Int} {a : Int} (h : ah.contains a = true) : twice ah (a :: l) = true := by simp [twice] at *; exact .inl h
theorem twice_next {ah l : List Int} {a : Int} (h : ah.contains a = false) : twice ah (a :: l) = twice (ah ++ [a]) l := by
  show (ah.contains a || twice (ah ++ [a]) l) = _
  rw [h, Bool.false_or]
theorem drop_at {α : Type} {xs : List α} {k : Nat} {x : α} (h : xs[k]? = some x) : xs.drop k = x :: xs.drop (k + 1) := by
  obtain ⟨hk, he⟩ := List.getElem?_eq_some_iff.1 h
  rw [List.drop_eq_getElem_cons hk, he]
theorem take_at {α : Type} {xs : List α} {k : Nat} {x : α} (h : xs[k]? = some x) : xs.take (k + 1) = xs.take k ++ [x] := by
  obtain ⟨hk, he⟩ := List.getElem?_eq_some_iff.1 h
  rw [List.take_succ_eq_append_getElem hk, he]
set_option maxHeartbeats 1000000 in
theorem repeats_any (A : Option Addr) (n c : Nat) (xs : List Int) (w : World) (hr : IAddr w A n xs) (hn : n ≤ 1000000) (hnc : n ≤ c) :
    Calls Tryz.prog 182 #[.slice A n c] w fun e w' => e = .returned (.bool (twice [] xs)) ∧ w = w' := by
  have HR := Lib.hid hr
  clear hr
  go_enter Tryz.func182, Tryz.ntmps182
  go_wp2
  go_loop [7] (fun i => ∃ k : Nat, k ≤ n ∧ i = .int .i64 k ∧ Hid (twice [] xs = twice (xs.take k) (xs.drop k))) (fun i => n - (intOf i).toNat)
  case atStart => exact ⟨0, Nat.zero_le _, rfl, rfl⟩
  case round =>
    obtain ⟨k, hk, rfl, htw⟩ := hrel
    rcases Nat.lt_or_ge k n with hlt | hge
    · obtain ⟨bq, oq, x, rfl, hb, hx, hc⟩ := IAddr.cells HR.out hlt
      have hi0 : (k : Int) < n := by omega
      have hkc : (k : Int) ≤ c := by omega
      have HX := Lib.hid hx
      have HC := Lib.hid (contains_any x (some ⟨bq, oq, none⟩) k c (xs.take k) w (IR.take HR.out (by omega)) (by omega))
      clear hx
      cases hq : (xs.take k).contains x with
      | true =>
        have HT := Lib.hid (twice_here (l := xs.drop (k + 1)) hq)
        rw [hq] at HC
        clear hq
        go_wp2_with (go_at_call 223; refine HC.out.mono ?_; rintro e w1 ⟨rfl, rfl⟩)
        go_ret
        exact ⟨ret_bool (by rw [htw.out, drop_at HX.out, HT.out]), rfl⟩
      | false =>
        have HT := Lib.hid (twice_next (l := xs.drop (k + 1)) hq)
        rw [hq] at HC
        clear hq
        go_wp2_with (go_at_call 223; refine HC.out.mono ?_; rintro e w1 ⟨rfl, rfl⟩)
        go_round
        case rel => exact ⟨k + 1, by omega, by go_num, (show Hid _ from by show _ = _; rw [htw.out, drop_at HX.out, HT.out, take_at HX.out])⟩
        case measure => simp [intOf]; omega
    · obtain rfl : k = n := by omega
      have HE : Hid (twice [] xs = false) := by
        show _ = _
        rw [htw.out, List.drop_of_length_le (by rw [HR.out.len]; omega)]; rfl
      clear htw
      go_wp2
      go_ret
      exact ⟨ret_bool HE.out.symm, rfl⟩
end Go.Proofs.YtdljpokhcfhhfaaGreatDoor

