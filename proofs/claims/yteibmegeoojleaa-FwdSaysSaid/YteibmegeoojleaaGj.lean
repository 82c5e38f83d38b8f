/- The document's Find, Used, IsLost; over the seat's program. -/
import Derived.Test.YteibmegeoojleaaGi
namespace Go.Proofs.Yteibmegeoojleaa
open Go.ChangeShapes Go.WideShapes Go.ChangeAt Go.RowKit Sm Go.Maps
/-- is a row a router's, of a key? -/
def isR (r : Int) (k : Int × Int) (p : PRow) : Bool := (p.r == r) && ((p.k.1 == k.1) && (p.k.2 == k.2))
/-- the place of the first row of a router and a key -/
def findI (l : List PRow) (r : Int) (k : Int × Int) : Int := match l.findIdx? (isR r k) with
  | none => -1
  | some i => (i : Int)
theorem findI_hit {ms : List PMr} {r : Int} {k : Int × Int} {i : Nat} {m : PMr} (h : ms[i]? = some m) (h1 : isR r k m.p = true) (h2 : ∀ (j : Nat) y, j < i → ms[j]? = some y → isR r k y.p = false) : findI (ms.map PMr.p) r k = (i : Int) := by
  have : (ms.map PMr.p).findIdx? (isR r k) = some i := by
    rw [List.findIdx?_eq_some_iff_getElem]
    obtain ⟨hl, he⟩ := List.getElem?_eq_some_iff.1 h
    refine ⟨by simpa using hl, by simpa [he] using h1, fun j hj => ?_⟩
    have := h2 j ms[j] hj (List.getElem?_eq_getElem (by omega))
    simpa using this
  unfold findI
  rw [this]
theorem findI_none {ms : List PMr} {r : Int} {k : Int × Int} (h2 : ∀ (j : Nat) y, ms[j]? = some y → isR r k y.p = false) : findI (ms.map PMr.p) r k = -1 := by
  have : (ms.map PMr.p).findIdx? (isR r k) = none := by
    rw [List.findIdx?_eq_none_iff]
    intro x hx
    obtain ⟨m, hm, rfl⟩ := List.mem_map.1 hx
    obtain ⟨j, hj⟩ := List.mem_iff_getElem?.1 hm
    exact h2 j m hj
  unfold findI
  rw [this]
theorem findI_R (l : List PRow) (r : Int) (k : Int × Int) : (findI l r k = -1 ∧ findR l r k = none) ∨ ∃ (i : Nat) (p : PRow), findI l r k = (i : Int) ∧ l[i]? = some p ∧ findR l r k = some p := by
  unfold findI
  cases h : l.findIdx? (isR r k) with
  | none =>
    refine .inl ⟨rfl, ?_⟩
    rw [List.findIdx?_eq_none_iff] at h
    unfold findR
    rw [List.find?_eq_none]
    intro x hx
    have := h x hx
    unfold isR at this
    rw [this]; decide
  | some i =>
    rw [List.findIdx?_eq_some_iff_getElem] at h
    obtain ⟨hl, h1, h2⟩ := h
    refine .inr ⟨i, l[i], rfl, List.getElem?_eq_getElem hl, findR_hit (List.getElem?_eq_getElem hl) (by unfold isR at h1; simpa using h1) (fun j y hj hy => ?_)⟩
    obtain ⟨hjl, rfl⟩ := List.getElem?_eq_some_iff.1 hy
    have := h2 j hj
    unfold isR at this
    simpa using this
/-- the place of the row by which a key's packets go -/
def usedI (l : List PRow) (r : Int) (k : Int × Int) : Int := if 0 ≤ findI l r k then findI l r k else findI l r (0, k.2)
theorem usedI_R (l : List PRow) (r : Int) (k : Int × Int) : (usedI l r k = -1 ∧ rowR l r k = none) ∨ ∃ (i : Nat) (p : PRow), usedI l r k = (i : Int) ∧ l[i]? = some p ∧ rowR l r k = some p := by
  unfold usedI rowR
  rcases findI_R l r k with ⟨h1, h2⟩ | ⟨i, p, h1, h2, h3⟩
  · rw [h1, h2, if_neg (by decide)]
    exact findI_R l r (0, k.2)
  · rw [h1, h3, if_pos (by omega)]
    exact .inr ⟨i, p, rfl, h2, rfl⟩
set_option maxRecDepth 100000 in
set_option maxHeartbeats 400000 in
theorem dfind_any (A : Option Addr) (n c : Nat) (L : List PMr) (r k1 k2 : Int) (w : World) (h : RI CRw 6 w A n L) (hn : n ≤ 1000) :
    Calls Try.prog 22 #[.slice A n c, .int .i64 r, .agg #[.int .u32 k1, .int .u32 k2]] w fun e w' => e = .returned (.int .i64 (findI (L.map PMr.p) r (k1, k2))) ∧ Below w.heap.size w w' := by
  have HB0 := Lib.hid ((Below.refl w.heap.size w).alloc (Nat.le_refl _) (.cells #[.int .u32 k1, .int .u32 k2] 27))
  have HK := Lib.hid (Blk.new w 27 #[.int .u32 k1, .int .u32 k2])
  have HR := Lib.hid h
  have HLEN := Lib.hid h.len
  have HF : Hid ((∀ (i : Nat) m, L[i]? = some m → isR r (k1, k2) m.p = true → (∀ (j : Nat) y, j < i → L[j]? = some y → isR r (k1, k2) y.p = false) → findI (L.map PMr.p) r (k1, k2) = (i : Int)) ∧ ((∀ (j : Nat) y, L[j]? = some y → isR r (k1, k2) y.p = false) → findI (L.map PMr.p) r (k1, k2) = -1)) := Lib.hid ⟨fun i m h1 h2 h3 => findI_hit h1 h2 h3, fun h => findI_none h⟩
  clear h
  go_enter Try.func22, Try.ntmps22
  go_upto_region 1 with fail
  generalize w.alloc (.cells #[.int .u32 k1, .int .u32 k2] 27) = W0 at *
  go_wp2_with fail
  go_loopw [7] (fun iv wr => ∃ (i : Nat), i ≤ n ∧ iv = .int .i64 i ∧ Hid (∀ (j : Nat) m, j < i → L[j]? = some m → isR r (k1, k2) m.p = false) ∧ Hid (Below W0.heap.size W0 wr)) (fun iv _ => n - (intOf iv).toNat)
  case atStart => exact ⟨0, Nat.zero_le _, rfl, Lib.hid (fun j m hj => absurd hj (Nat.not_lt_zero _)), Lib.hid (Below.refl _ _)⟩
  case round =>
    obtain ⟨i, hi, rfl, HNO, HB⟩ := hrel
    have HBX := Lib.hid (below_next HB0.out HB.out)
    rcases Nat.lt_or_ge i n with hlt | hge
    · have hi0 : (i : Int) < (n : Int) := by omega
      obtain ⟨b5, o5, x, rfl, hbl, hx, hcl⟩ := (HR.out.next HBX.out).at_ hlt
      have HXI := Lib.hid hx
      obtain ⟨⟨x0, x1, x2, ⟨x3, x4⟩, xs⟩, xA, xc⟩ := x
      have h0 : wr.cell? ⟨b5, o5 + i * 6, none⟩ = some (.int .i64 x0) := hcl 0 _ rfl
      have h1 : wr.cell? ⟨b5, o5 + i * 6 + 3, none⟩ = some (.int .u32 x3) := hcl 3 _ rfl
      have h2 : wr.cell? ⟨b5, o5 + i * 6 + 4, none⟩ = some (.int .u32 x4) := hcl 4 _ rfl
      have a0 : ∀ s : Snc wr, s.W.cell? ⟨b5, o5 + i * 6, none⟩ = some (.int .i64 x0) := fun s => (s.b.cell (p := ⟨b5, o5 + i * 6, none⟩) hbl).trans h0
      have a1 : ∀ s : Snc wr, s.W.cell? ⟨b5, o5 + i * 6 + 3, none⟩ = some (.int .u32 x3) := fun s => (s.b.cell (p := ⟨b5, o5 + i * 6 + 3, none⟩) hbl).trans h1
      have a2 : ∀ s : Snc wr, s.W.cell? ⟨b5, o5 + i * 6 + 4, none⟩ = some (.int .u32 x4) := fun s => (s.b.cell (p := ⟨b5, o5 + i * 6 + 4, none⟩) hbl).trans h2
      have p0 : ∀ s : Snc wr, s.W.cell? ⟨w.heap.size, 0, none⟩ = some (.int .u32 k1) := fun s => ((HK.out.next HB.out).next s.b).cell 0
      have p1 : ∀ s : Snc wr, s.W.cell? ⟨w.heap.size, 1, none⟩ = some (.int .u32 k2) := fun s => ((HK.out.next HB.out).next s.b).cell 1
      clear hx hcl hbl h0 h1 h2
      cases e1 : (x0 == r) with
      | false =>
            have HNM : Hid (((x0 == r) && ((x3 == k1) && (x4 == k2))) = false) := Lib.hid (by rw [e1]; rfl)
            go_upto_region 4 with fail
            refine wp_region_since (by kernel_rfl) (by kernel_rfl) ?_
            try simp only [List.append_eq, List.cons_append, List.nil_append]
            repeat (go_big_quiet_step (fail))
            refine wpQuiet_nil ?_
            rintro w9_ ⟨P8_, rfl⟩
            have HBZ := Lib.hid (below_next HB.out P8_.b)
            have HBY := Lib.hid (below_next HBX.out P8_.b)
            clear a0 a1 a2 p0 p1 e1
            go_wp2_with fail
            go_roundw
            case rel => exact ⟨i + 1, by omega, by go_num, Lib.hid (fun j y hj hy => by
              by_cases e : j = i
              · subst e; rw [HXI.out] at hy; cases hy; exact HNM.out
              · exact HNO.out j y (by omega) hy), HBZ⟩
            case measure => simp [intOf]; omega
      | true =>
        cases e2 : ((x3 == k1) && (x4 == k2)) with
        | false =>
            have HNM : Hid (((x0 == r) && ((x3 == k1) && (x4 == k2))) = false) := Lib.hid (by rw [e1, e2]; rfl)
            have R1 : ∀ P : Snc wr, Calls Try.prog 14 #[.agg #[.int .u32 x3, .int .u32 x4], .agg #[.int .u32 k1, .int .u32 k2]] P.W fun e w' => e = .returned (.bool false) ∧ ∃ Q : Snc wr, w' = Q.W := fun P => Calls.since (by rw [← e2]; exact skey_any x3 x4 k1 k2 P.W)
            clear e2
            go_upto_region 4 with fail
            refine wp_region_since (by kernel_rfl) (by kernel_rfl) ?_
            try simp only [List.append_eq, List.cons_append, List.nil_append]
            repeat (go_big_quiet_step ((go_at_call 14; with_reducible exact R1 _)))
            refine wpQuiet_nil ?_
            rintro w9_ ⟨P8_, rfl⟩
            have HBZ := Lib.hid (below_next HB.out P8_.b)
            have HBY := Lib.hid (below_next HBX.out P8_.b)
            clear a0 a1 a2 p0 p1 e1
            clear R1
            go_wp2_with fail
            go_roundw
            case rel => exact ⟨i + 1, by omega, by go_num, Lib.hid (fun j y hj hy => by
              by_cases e : j = i
              · subst e; rw [HXI.out] at hy; cases hy; exact HNM.out
              · exact HNO.out j y (by omega) hy), HBZ⟩
            case measure => simp [intOf]; omega
        | true =>
            have HNM : Hid (((x0 == r) && ((x3 == k1) && (x4 == k2))) = true) := Lib.hid (by rw [e1, e2]; rfl)
            have R1 : ∀ P : Snc wr, Calls Try.prog 14 #[.agg #[.int .u32 x3, .int .u32 x4], .agg #[.int .u32 k1, .int .u32 k2]] P.W fun e w' => e = .returned (.bool true) ∧ ∃ Q : Snc wr, w' = Q.W := fun P => Calls.since (by rw [← e2]; exact skey_any x3 x4 k1 k2 P.W)
            clear e2
            go_upto_region 4 with fail
            refine wp_region_since (by kernel_rfl) (by kernel_rfl) ?_
            try simp only [List.append_eq, List.cons_append, List.nil_append]
            repeat (go_big_quiet_step ((go_at_call 14; with_reducible exact R1 _)))
            refine wpQuiet_nil ?_
            rintro w9_ ⟨P8_, rfl⟩
            have HBZ := Lib.hid (below_next HB.out P8_.b)
            have HBY := Lib.hid (below_next HBX.out P8_.b)
            clear a0 a1 a2 p0 p1 e1
            clear R1
            go_wp2_with fail
            go_ret
            exact ⟨by rw [HF.out.1 i _ HXI.out HNM.out HNO.out]; rfl, HBY.out⟩
    · obtain rfl : i = n := by omega
      have hd : decide ((i : Int) < (i : Int)) = false := by simp
      go_wp2
      go_ret
      exact ⟨by rw [HF.out.2 (fun j y hy => HNO.out j y (by have := (List.getElem?_eq_some_iff.1 hy).1; have := HLEN.out; omega) hy)]; rfl, HBX.out⟩
set_option maxRecDepth 100000 in
set_option maxHeartbeats 400000 in
theorem dlost_any (A : Option Addr) (n c : Nat) (L : List Lo) (r k1 k2 : Int) (w : World) (h : RI CLo 3 w A n L) (hn : n ≤ 1000) :
    Calls Try.prog 20 #[.slice A n c, .int .i64 r, .agg #[.int .u32 k1, .int .u32 k2]] w fun e w' => e = .returned (.bool (decide ((r, (k1, k2)) ∈ L))) ∧ Below w.heap.size w w' := by
  have HB0 := Lib.hid ((Below.refl w.heap.size w).alloc (Nat.le_refl _) (.cells #[.int .u32 k1, .int .u32 k2] 27))
  have HK := Lib.hid (Blk.new w 27 #[.int .u32 k1, .int .u32 k2])
  have HR := Lib.hid h
  have HLEN := Lib.hid h.len
  have HF : Hid ((∀ (i : Nat) m, L[i]? = some m → ((m.1 == r) && ((m.2.1 == k1) && (m.2.2 == k2))) = true → decide ((r, (k1, k2)) ∈ L) = true) ∧ ((∀ (j : Nat) y, L[j]? = some y → ((y.1 == r) && ((y.2.1 == k1) && (y.2.2 == k2))) = false) → decide ((r, (k1, k2)) ∈ L) = false)) := Lib.hid ⟨fun i m h1 h2 => by
    simp only [Bool.and_eq_true, beq_iff_eq] at h2
    obtain ⟨rfl, rfl, rfl⟩ := h2
    exact decide_eq_true (List.mem_of_getElem? h1), fun h => decide_eq_false (fun hm => by
    obtain ⟨j, hj⟩ := List.mem_iff_getElem?.1 hm
    have := h j _ hj
    simp at this)⟩
  clear h
  go_enter Try.func20, Try.ntmps20
  go_upto_region 1 with fail
  generalize w.alloc (.cells #[.int .u32 k1, .int .u32 k2] 27) = W0 at *
  go_wp2_with fail
  go_loopw [7] (fun iv wr => ∃ (i : Nat), i ≤ n ∧ iv = .int .i64 i ∧ Hid (∀ (j : Nat) m, j < i → L[j]? = some m → ((m.1 == r) && ((m.2.1 == k1) && (m.2.2 == k2))) = false) ∧ Hid (Below W0.heap.size W0 wr)) (fun iv _ => n - (intOf iv).toNat)
  case atStart => exact ⟨0, Nat.zero_le _, rfl, Lib.hid (fun j m hj => absurd hj (Nat.not_lt_zero _)), Lib.hid (Below.refl _ _)⟩
  case round =>
    obtain ⟨i, hi, rfl, HNO, HB⟩ := hrel
    have HBX := Lib.hid (below_next HB0.out HB.out)
    rcases Nat.lt_or_ge i n with hlt | hge
    · have hi0 : (i : Int) < (n : Int) := by omega
      obtain ⟨b5, o5, x, rfl, hbl, hx, hcl⟩ := (HR.out.next HBX.out).at_ hlt
      have HXI := Lib.hid hx
      obtain ⟨x0, x1, x2⟩ := x
      have h0 : wr.cell? ⟨b5, o5 + i * 3, none⟩ = some (.int .i64 x0) := hcl 0 _ rfl
      have h1 : wr.cell? ⟨b5, o5 + i * 3 + 1, none⟩ = some (.int .u32 x1) := hcl 1 _ rfl
      have h2 : wr.cell? ⟨b5, o5 + i * 3 + 2, none⟩ = some (.int .u32 x2) := hcl 2 _ rfl
      have a0 : ∀ s : Snc wr, s.W.cell? ⟨b5, o5 + i * 3, none⟩ = some (.int .i64 x0) := fun s => (s.b.cell (p := ⟨b5, o5 + i * 3, none⟩) hbl).trans h0
      have a1 : ∀ s : Snc wr, s.W.cell? ⟨b5, o5 + i * 3 + 1, none⟩ = some (.int .u32 x1) := fun s => (s.b.cell (p := ⟨b5, o5 + i * 3 + 1, none⟩) hbl).trans h1
      have a2 : ∀ s : Snc wr, s.W.cell? ⟨b5, o5 + i * 3 + 2, none⟩ = some (.int .u32 x2) := fun s => (s.b.cell (p := ⟨b5, o5 + i * 3 + 2, none⟩) hbl).trans h2
      have p0 : ∀ s : Snc wr, s.W.cell? ⟨w.heap.size, 0, none⟩ = some (.int .u32 k1) := fun s => ((HK.out.next HB.out).next s.b).cell 0
      have p1 : ∀ s : Snc wr, s.W.cell? ⟨w.heap.size, 1, none⟩ = some (.int .u32 k2) := fun s => ((HK.out.next HB.out).next s.b).cell 1
      clear hx hcl hbl h0 h1 h2
      cases e1 : (x0 == r) with
      | false =>
            have HNM : Hid (((x0 == r) && ((x1 == k1) && (x2 == k2))) = false) := Lib.hid (by rw [e1]; rfl)
            go_upto_region 4 with fail
            refine wp_region_since (by kernel_rfl) (by kernel_rfl) ?_
            try simp only [List.append_eq, List.cons_append, List.nil_append]
            repeat (go_big_quiet_step (fail))
            refine wpQuiet_nil ?_
            rintro w9_ ⟨P8_, rfl⟩
            have HBZ := Lib.hid (below_next HB.out P8_.b)
            have HBY := Lib.hid (below_next HBX.out P8_.b)
            clear a0 a1 a2 p0 p1 e1
            go_wp2_with fail
            go_roundw
            case rel => exact ⟨i + 1, by omega, by go_num, Lib.hid (fun j y hj hy => by
              by_cases e : j = i
              · subst e; rw [HXI.out] at hy; cases hy; exact HNM.out
              · exact HNO.out j y (by omega) hy), HBZ⟩
            case measure => simp [intOf]; omega
      | true =>
        cases e2 : ((x1 == k1) && (x2 == k2)) with
        | false =>
            have HNM : Hid (((x0 == r) && ((x1 == k1) && (x2 == k2))) = false) := Lib.hid (by rw [e1, e2]; rfl)
            have R1 : ∀ P : Snc wr, Calls Try.prog 14 #[.agg #[.int .u32 x1, .int .u32 x2], .agg #[.int .u32 k1, .int .u32 k2]] P.W fun e w' => e = .returned (.bool false) ∧ ∃ Q : Snc wr, w' = Q.W := fun P => Calls.since (by rw [← e2]; exact skey_any x1 x2 k1 k2 P.W)
            clear e2
            go_upto_region 4 with fail
            refine wp_region_since (by kernel_rfl) (by kernel_rfl) ?_
            try simp only [List.append_eq, List.cons_append, List.nil_append]
            repeat (go_big_quiet_step ((go_at_call 14; with_reducible exact R1 _)))
            refine wpQuiet_nil ?_
            rintro w9_ ⟨P8_, rfl⟩
            have HBZ := Lib.hid (below_next HB.out P8_.b)
            have HBY := Lib.hid (below_next HBX.out P8_.b)
            clear a0 a1 a2 p0 p1 e1
            clear R1
            go_wp2_with fail
            go_roundw
            case rel => exact ⟨i + 1, by omega, by go_num, Lib.hid (fun j y hj hy => by
              by_cases e : j = i
              · subst e; rw [HXI.out] at hy; cases hy; exact HNM.out
              · exact HNO.out j y (by omega) hy), HBZ⟩
            case measure => simp [intOf]; omega
        | true =>
            have HNM : Hid (((x0 == r) && ((x1 == k1) && (x2 == k2))) = true) := Lib.hid (by rw [e1, e2]; rfl)
            have R1 : ∀ P : Snc wr, Calls Try.prog 14 #[.agg #[.int .u32 x1, .int .u32 x2], .agg #[.int .u32 k1, .int .u32 k2]] P.W fun e w' => e = .returned (.bool true) ∧ ∃ Q : Snc wr, w' = Q.W := fun P => Calls.since (by rw [← e2]; exact skey_any x1 x2 k1 k2 P.W)
            clear e2
            go_upto_region 4 with fail
            refine wp_region_since (by kernel_rfl) (by kernel_rfl) ?_
            try simp only [List.append_eq, List.cons_append, List.nil_append]
            repeat (go_big_quiet_step ((go_at_call 14; with_reducible exact R1 _)))
            refine wpQuiet_nil ?_
            rintro w9_ ⟨P8_, rfl⟩
            have HBZ := Lib.hid (below_next HB.out P8_.b)
            have HBY := Lib.hid (below_next HBX.out P8_.b)
            clear a0 a1 a2 p0 p1 e1
            clear R1
            go_wp2_with fail
            go_ret
            exact ⟨by rw [HF.out.1 i _ HXI.out HNM.out]; rfl, HBY.out⟩
    · obtain rfl : i = n := by omega
      have hd : decide ((i : Int) < (i : Int)) = false := by simp
      go_wp2
      go_ret
      exact ⟨by rw [HF.out.2 (fun j y hy => HNO.out j y (by have := (List.getElem?_eq_some_iff.1 hy).1; have := HLEN.out; omega) hy)]; rfl, HBX.out⟩
set_option maxRecDepth 100000 in
set_option maxHeartbeats 400000 in
theorem dused_any (A : Option Addr) (n c : Nat) (L : List PMr) (r k1 k2 : Int) (w : World) (h : RI CRw 6 w A n L) (hn : n ≤ 1000) :
    Calls Try.prog 13 #[.slice A n c, .int .i64 r, .agg #[.int .u32 k1, .int .u32 k2]] w fun e w' => e = .returned (.int .i64 (usedI (L.map PMr.p) r (k1, k2))) ∧ Below w.heap.size w w' := by
  have HB0 := Lib.hid ((Below.refl w.heap.size w).alloc (Nat.le_refl _) (.cells #[.int .u32 k1, .int .u32 k2] 27))
  have HK := Lib.hid (Blk.new w 27 #[.int .u32 k1, .int .u32 k2])
  have HF := Lib.hid (fun W (hW : Below w.heap.size w W) k1 => dfind_any A n c L r k1 k2 W (h.next hW) hn)
  have HU : Hid (usedI (L.map PMr.p) r (k1, k2) = if 0 ≤ findI (L.map PMr.p) r (k1, k2) then findI (L.map PMr.p) r (k1, k2) else findI (L.map PMr.p) r (0, k2)) := Lib.hid rfl
  clear h hn
  generalize usedI (L.map PMr.p) r (k1, k2) = U at *
  have HF1 := Lib.hid (fun W hW => HF.out W hW k1)
  have HF2 := Lib.hid (fun W hW => HF.out W hW 0)
  clear HF
  generalize findI (L.map PMr.p) r (k1, k2) = a at *
  generalize findI (L.map PMr.p) r (0, k2) = b at *
  go_enter Try.func13, Try.ntmps13
  go_upto_region 1 with fail
  generalize w.alloc (.cells #[.int .u32 k1, .int .u32 k2] 27) = W0 at *
  have z0 : W0.cell? ⟨w.heap.size, 0, none⟩ = some (.int .u32 k1) := HK.out.cell 0
  have z1 : W0.cell? ⟨w.heap.size, 1, none⟩ = some (.int .u32 k2) := HK.out.cell 1
  by_cases ha : 0 ≤ a
  · have e1 : decide ((0 : Int) ≤ a) = true := by simp [ha]
    rw [if_pos ha] at HU
    go_wp2_with (go_at_call 22; refine (HF1.out W0 HB0.out).mono ?_; rintro e w1 ⟨rfl, hb⟩; have HB1 := Lib.hid (below_next HB0.out hb); clear hb)
    go_ret
    exact ⟨by rw [HU.out]; rfl, HB1.out⟩
  · have e1 : decide ((0 : Int) ≤ a) = false := by simp; omega
    rw [if_neg ha] at HU
    go_upto_region 4 with (go_at_call 22; refine (HF1.out W0 HB0.out).mono ?_; rintro e w1 ⟨rfl, hb⟩; have HB1 := Lib.hid (below_next HB0.out hb); have HK1 := Lib.hid (HK.out.next hb); clear hb)
    clear z0 z1
    have z2 : w1.cell? ⟨w.heap.size, 1, none⟩ = some (.int .u32 k2) := HK1.out.cell 1
    go_wp2_with (go_at_call 22; refine (HF2.out _ HB1.out).mono ?_; rintro e w2 ⟨rfl, hb⟩; have HB2 := Lib.hid (below_next HB1.out hb); clear hb)
    go_ret
    exact ⟨by rw [HU.out]; rfl, HB2.out⟩
end Go.Proofs.Yteibmegeoojleaa

