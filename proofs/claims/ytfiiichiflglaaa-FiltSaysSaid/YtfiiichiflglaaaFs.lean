/- The document's Filtered; over the seat's program. -/
import Derived.Test.YtfiiichiflglaaaFr
namespace Go.Proofs.Ytfiiichiflglaaa
open Go.ChangeShapes Go.WideShapes Go.ChangeAt Go.RowKit Sm Go.Maps
theorem any_take {ms : List Mb} {k : Nat} {m : Mb} (h : ms[k]? = some m) : anyM (ms.take (k + 1)) = (anyM (ms.take k) || !m.o) := by
  unfold anyM
  rw [but_take h]
  cases m.o
  · simp
  · simp
/-- what a member brings -/
def cnd (V o : Bool) (ms : List Mb) (a : Int) : Bool := !V || (!o && keptP ms a)
def accM (V : Bool) (ms : List Mb) (m : Mb) : List Int := m.xs.filter (cnd V m.o ms)
def accL (V : Bool) (ms : List Mb) (ks : List Mb) : List Int := ks.flatMap (accM V ms)
theorem acc_take {V : Bool} {ms : List Mb} {k : Nat} {m : Mb} (h : ms[k]? = some m) : accL V ms (ms.take (k + 1)) = accL V ms (ms.take k) ++ accM V ms m := by
  unfold accL
  rw [List.take_add_one, h]
  simp
theorem acc_of (ms : List Mb) (a : Int) : a ∈ accL (anyM ms) ms ms ↔ a ∈ ofL ms := by
  unfold accL accM cnd
  rw [List.mem_flatMap]
  by_cases hp : 0 < (but ms).length
  · have hV : anyM ms = true := by unfold anyM; exact decide_eq_true hp
    have ho : ofL ms = refL (but ms) (flat (onl ms)) := by unfold ofL; rw [if_pos hp]
    rw [hV, ho, mem_ref]
    have hk : keptP ms a = true ↔ (∀ m ∈ but ms, a ∈ m.xs) ∧ a ∉ flat (onl ms) := by
      unfold keptP
      rw [List.all_eq_true]
      constructor
      · intro h
        refine ⟨fun m hm => ?_, fun hf => ?_⟩
        · obtain ⟨hm, h0⟩ := mem_but.1 hm
          have := h m hm
          rw [h0] at this
          simpa using this
        · obtain ⟨m, hm, ha⟩ := mem_flat.1 hf
          obtain ⟨hm, h0⟩ := mem_onl.1 hm
          have := h m hm
          rw [h0] at this
          simp at this
          exact this ha
      · rintro ⟨h1, h2⟩ m hm
        cases h0 : m.o with
        | false => simpa using h1 m (mem_but.2 ⟨hm, h0⟩)
        | true =>
          have : a ∉ m.xs := fun ha => h2 (mem_flat.2 ⟨m, mem_onl.2 ⟨hm, h0⟩, ha⟩)
          simpa using this
    constructor
    · rintro ⟨m, hm, ha⟩
      rw [List.mem_filter] at ha
      obtain ⟨ha, hc⟩ := ha
      simp only [Bool.not_true, Bool.false_or, Bool.and_eq_true, Bool.not_eq_true'] at hc
      obtain ⟨h1, h2⟩ := hk.1 hc.2
      exact ⟨mem_flat.2 ⟨m, mem_but.2 ⟨hm, hc.1⟩, ha⟩, h1, h2⟩
    · rintro ⟨hf, h1, h2⟩
      obtain ⟨m, hm, ha⟩ := mem_flat.1 hf
      obtain ⟨hm, h0⟩ := mem_but.1 hm
      refine ⟨m, hm, List.mem_filter.2 ⟨ha, ?_⟩⟩
      rw [h0, hk.2 ⟨h1, h2⟩]
      rfl
  · have hV : anyM ms = false := by unfold anyM; exact decide_eq_false hp
    have ho : ofL ms = groupsL (flat (onl ms)) := by unfold ofL; rw [if_neg hp]
    rw [hV, ho, grp_mem, mem_flat]
    have hall : ∀ m ∈ ms, m.o = true := fun m hm => by
      cases h0 : m.o with
      | true => rfl
      | false => exact absurd (List.length_pos_of_mem (mem_but.2 ⟨hm, h0⟩)) hp
    constructor
    · rintro ⟨m, hm, ha⟩
      exact ⟨m, mem_onl.2 ⟨hm, hall m hm⟩, (List.mem_filter.1 ha).1⟩
    · rintro ⟨m, hm, ha⟩
      exact ⟨m, (mem_onl.1 hm).1, List.mem_filter.2 ⟨ha, rfl⟩⟩
theorem acc_len {V : Bool} {ms : List Mb} : ∀ {ks : List Mb}, (∀ m ∈ ks, m.xs.length ≤ 100) → (accL V ms ks).length ≤ ks.length * 100
  | [], _ => by simp [accL]
  | m :: ks, h => by
    have h1 := acc_len (V := V) (ms := ms) (ks := ks) (fun x hx => h x (List.mem_cons_of_mem _ hx))
    have h2 := h m (List.mem_cons_self ..)
    have h3 : (accM V ms m).length ≤ m.xs.length := List.length_filter_le _ _
    unfold accL at *
    rw [List.flatMap_cons, List.length_append, List.length_cons]
    omega
theorem filt_take1 {p : Int → Bool} {ys : List Int} {j : Nat} {x a : Int} (h : ys[j]? = some x) : a ∈ (ys.take (j + 1)).filter p ↔ a ∈ (ys.take j).filter p ∨ (a = x ∧ p x = true) := by
  rw [List.take_add_one, h, List.filter_append, List.mem_append]
  by_cases hp : p x = true
  · simp [hp]
  · simp [hp]
theorem ret_fd (tm : Array Value) (N : Nat) (W : World) (v0 v1 : Value) (h2 : tm.getD 2 undef = .pointer (some ⟨N, 0, none⟩)) (c0 : W.cell? ⟨N, 0, none⟩ = some v0) (c1 : W.cell? ⟨N, 1, none⟩ = some v1) :
    (results Try.f11 tm).run Try.prog W = .ok (.agg #[v0, v1]) W := by
  have h2' : tm[2]?.getD undef = .pointer (some ⟨N, 0, none⟩) := by simpa using h2
  simp [results, Try.results11, go_sem, h2', c0, c1]
/-- the two variables under way: N the result, N + 1 the filter -/
structure FD (w : World) (V : Bool) (A : Option Addr) (L : List Int) (c : Nat) (wr : World) : Prop where
  b : Below w.heap.size w wr
  k0 : Blk wr w.heap.size 31 #[.bool false, .slice none 0 0]
  k1 : Blk wr (w.heap.size + 1) 31 #[.bool V, .slice A L.length c]
  ar : AR wr A L.length L
theorem FD.next {w wr w' : World} {V : Bool} {A : Option Addr} {L : List Int} {c : Nat} (h : FD w V A L c wr) (hb : Below wr.heap.size wr w') : FD w V A L c w' :=
  ⟨h.b.trans (hb.mono h.b.size), h.k0.next hb, h.k1.next hb, h.ar.next hb⟩
theorem FD.set0 {w wr : World} {V U : Bool} {A : Option Addr} {L : List Int} {c : Nat} (h : FD w V A L c wr) : FD w U A L c (wr.setCell ⟨w.heap.size + 1, 0, none⟩ (.bool U)) :=
  ⟨h.b.setCell (p := ⟨w.heap.size + 1, 0, none⟩) (Nat.le_succ _) _, h.k0.far (by simp) _, h.k1.set_to 0 _ rfl, ar_store h.ar h.k1 (by decide) _⟩
theorem FD.set1 {w wr : World} {V : Bool} {A B : Option Addr} {L K : List Int} {c d : Nat} (h : FD w V A L c wr) (hr : AR wr B K.length K) : FD w V B K d (wr.setCell ⟨w.heap.size + 1, 1, none⟩ (.slice B K.length d)) :=
  ⟨h.b.setCell (p := ⟨w.heap.size + 1, 1, none⟩) (Nat.le_succ _) _, h.k0.far (by simp) _, h.k1.set_to 1 _ rfl, ar_store hr h.k1 (by decide) _⟩
set_option maxRecDepth 100000 in
set_option maxHeartbeats 8000000 in
theorem filtered_any (A : Option Addr) (n c : Nat) (ms : List Mb) (w : World) (h : MR w A n ms) (hn : n ≤ 100) (hx : ∀ m ∈ ms, m.n ≤ 100) :
    Calls Try.prog 11 #[.slice A n c] w fun e w' => ∃ (A' : Option Addr) (c' : Nat), e = .returned (.agg #[.bool (anyM ms), .slice A' (ofL ms).length c']) ∧ AR w' A' (ofL ms).length (ofL ms) ∧ Below w.heap.size w w' := by
  have H := Lib.hid h
  have HL := Lib.hid h.r.len
  have HX := Lib.hid hx
  have HF0 : Hid (FD w false none [] 0 ((w.alloc (.cells #[.bool false, .slice none 0 0] 31)).alloc (.cells #[.bool false, .slice none 0 0] 31))) := Lib.hid (by
    have h1 := Blk.new w 31 #[.bool false, .slice none 0 0]
    have h2 := Blk.new (w.alloc (.cells #[.bool false, .slice none 0 0] 31)) 31 #[.bool false, .slice none 0 0]
    rw [sz_alloc] at h2
    exact ⟨((Below.refl w.heap.size w).alloc (Nat.le_refl _) _).alloc (by rw [sz_alloc]; omega) _, h1.alloc _, h2, AR.none_ _ _⟩)
  clear h hx
  go_enter Try.func11, Try.ntmps11
  go_upto_region 2 with fail
  generalize (w.alloc (.cells #[.bool false, .slice none 0 0] 31)).alloc (.cells #[.bool false, .slice none 0 0] 31) = W2 at *
  go_wp2
  go_loopw [4] (fun iv wr => ∃ (k : Nat) (V : Bool), k ≤ n ∧ iv = .int .i64 (k : Int) ∧ Hid (anyM (ms.take k) = V) ∧ Hid (FD w V none [] 0 wr)) (fun iv _ => n - (intOf iv).toNat)
  case atStart => exact ⟨0, false, Nat.zero_le _, rfl, Lib.hid rfl, HF0⟩
  case round =>
    obtain ⟨k, V, hk, rfl, HV, HF⟩ := hrel
    clear HF0
    have z0 : wr.cell? ⟨w.heap.size + 1, 0, none⟩ = some (.bool V) := HF.out.k1.cell 0
    have f0 : wr.frozen? ⟨w.heap.size + 1, 0, none⟩ = false := HF.out.k1.frozen 0
    rcases Nat.lt_or_ge k n with hlt | hge
    · obtain ⟨b, o, ⟨l1, g1, o1, A1, n1, c1, ys1⟩, rfl, hb, hm, hr, k0, k1, k2, k3⟩ := (H.out.next HF.out.b).cell hlt
      have hi0 : (k : Int) < (n : Int) := by omega
      have hi1 : (0 : Int) ≤ (k : Int) := by omega
      have HT := Lib.hid (any_take hm)
      simp only at HT
      rw [HV.out] at HT
      clear hm hr hb
      cases V with
      | true =>
        have HF2 := Lib.hid (HF.out.set0 (U := true))
        clear HF
        go_wp2
        go_roundw
        case rel => exact ⟨k + 1, true, by omega, by go_num, Lib.hid (by rw [HT.out]; rfl), HF2⟩
        case measure => simp [intOf]; omega
      | false =>
        have HF2 := Lib.hid (HF.out.set0 (U := !o1))
        clear HF
        go_wp2
        go_roundw
        case rel => exact ⟨k + 1, !o1, by omega, by go_num, Lib.hid (by rw [HT.out]; rfl), HF2⟩
        case measure => simp [intOf]; omega
    · have q1 : ¬ (k : Int) < (n : Int) := by omega
      have HVV : Hid (anyM ms = V) := Lib.hid (by have := HV.out; rw [List.take_of_length_le (by rw [HL.out]; exact hge)] at this; exact this)
      go_wp2
      clear z0 f0 HV q1
      generalize hw3 : wr = w3 at *
      clear hw3
      go_loopw [5] (fun iv wr => ∃ (k : Nat) (L : List Int) (A' : Option Addr) (c' : Nat), k ≤ n ∧ iv = .int .i64 (k : Int) ∧ Hid (L.Pairwise (· < ·) ∧ (∀ a, a ∈ L ↔ a ∈ accL V ms (ms.take k)) ∧ L.length ≤ c') ∧ Hid (FD w V A' L c' wr)) (fun iv _ => n - (intOf iv).toNat)
      case atStart => exact ⟨0, [], none, 0, Nat.zero_le _, rfl, Lib.hid ⟨List.Pairwise.nil, fun a => by simp [accL], Nat.le_refl _⟩, HF⟩
      case round =>
        clear HF
        obtain ⟨k, L, A4, c4, hk, rfl, HLm, HF⟩ := hrel
        rcases Nat.lt_or_ge k n with hlt | hge
        · obtain ⟨b, o, ⟨l1, g1, o1, A1, n1, c1, ys1⟩, hA, hb, hm, hr, _, _, k2, k3⟩ := (H.out.next HF.out.b).cell hlt
          have hi0 : (k : Int) < (n : Int) := by omega
          have hi1 : (0 : Int) ≤ (k : Int) := by omega
          have HTk := Lib.hid (acc_take (V := V) (ms := ms) hm)
          have hn1 : n1 ≤ 100 := HX.out _ (List.mem_of_getElem? hm)
          have HCm : Hid (∀ W, Below w.heap.size w W → W.cell? ⟨b, o + k * 4 + 2, none⟩ = some (.bool o1) ∧ W.cell? ⟨b, o + k * 4 + 3, none⟩ = some (.slice A1 n1 c1) ∧ AR W A1 n1 ys1) := Lib.hid fun W hW => by
            obtain ⟨b', o', m', hA', hb', hm', hr', _, _, k2', k3'⟩ := (H.out.next hW).cell hlt
            rw [hA] at hA'
            cases hA'
            rw [hm] at hm'
            cases hm'
            exact ⟨k2', k3', hr'⟩
          clear hr k2 k3 hb hm
          subst hA
          go_wp2
          generalize hw4 : wr = w4 at *
          clear hw4
          have HLm0 : Hid (L.Pairwise (· < ·) ∧ (∀ a, a ∈ L ↔ a ∈ accL V ms (ms.take k) ∨ a ∈ (ys1.take 0).filter (cnd V o1 ms)) ∧ L.length ≤ c4) := Lib.hid ⟨HLm.out.1, fun a => by rw [HLm.out.2.1]; simp, HLm.out.2.2⟩
          go_loopw [6] (fun jv wr => ∃ (j : Nat) (L : List Int) (A' : Option Addr) (c' : Nat), j ≤ n1 ∧ jv = .int .i64 (j : Int) ∧ Hid (L.Pairwise (· < ·) ∧ (∀ a, a ∈ L ↔ a ∈ accL V ms (ms.take k) ∨ a ∈ (ys1.take j).filter (cnd V o1 ms)) ∧ L.length ≤ c') ∧ Hid (FD w V A' L c' wr)) (fun jv _ => n1 - (intOf jv).toNat)
          case atStart => exact ⟨0, L, A4, c4, Nat.zero_le _, rfl, HLm0, HF⟩
          case round =>
            clear HLm0 HLm HF
            obtain ⟨j, L, A4, c4, hj, rfl, HLm, HFq⟩ := hrel
            obtain ⟨k2, k3, hr⟩ := HCm.out wr HFq.out.b
            rcases Nat.lt_or_ge j n1 with hjlt | hjge
            · obtain ⟨b5, o5, rfl, hb5, hx5⟩ := hr.at_ hjlt
              have hgj : ys1[j]? = some (ys1.getD j 0) := by rw [List.getD_eq_getElem?_getD, List.getElem?_eq_getElem (by rw [hr.len]; exact hjlt)]; rfl
              have hia : isA (ys1.getD j 0) := hr.isAs _ (List.mem_of_getElem? hgj)
              generalize ys1.getD j 0 = x at *
              have hj0 : (j : Int) < (n1 : Int) := by omega
              have hj1 : (0 : Int) ≤ (j : Int) := by omega
              have hlr : L.length ≤ 1000000 := by
                have h1 := lt_room (L := L) (S := accL V ms (ms.take k) ++ (ys1.take j).filter (cnd V o1 ms)) HLm.out.1 (fun a => by rw [List.mem_append]; exact HLm.out.2.1 a)
                have h2 := acc_len (V := V) (ms := ms) (ks := ms.take k) (fun m hm => by rw [(H.out.a m (List.mem_of_mem_take hm)).len]; exact HX.out m (List.mem_of_mem_take hm))
                have h3 := List.length_filter_le (cnd V o1 ms) (ys1.take j)
                rw [List.length_append] at h1
                rw [List.length_take] at h2 h3
                omega
              have z0 : wr.cell? ⟨w.heap.size + 1, 0, none⟩ = some (.bool V) := HFq.out.k1.cell 0
              clear hr
              cases V with
              | false =>
                have HCN : Hid (cnd false o1 ms x = true) := Lib.hid rfl
                have HPut := Lib.hid (put_any A4 L.length c4 L x wr HFq.out.ar hlr HLm.out.2.2 hia)
                have HL2 : Hid ((putP L x).Pairwise (· < ·) ∧ ∀ a, a ∈ putP L x ↔ a ∈ accL false ms (ms.take k) ∨ a ∈ (ys1.take (j + 1)).filter (cnd false o1 ms)) := Lib.hid ⟨put_lt HLm.out.1, fun a => by rw [put_mem, HLm.out.2.1, filt_take1 hgj, or_assoc]; simp [HCN.out]⟩
                generalize putP L x = L2 at *
                clear hia
                have z1 : wr.cell? ⟨w.heap.size + 1, 1, none⟩ = some (.slice A4 L.length c4) := HFq.out.k1.cell 1
                go_wp2_with (go_at_call 27; (with_reducible refine HPut.out.mono ?_); rintro e w6 ⟨A6, c6, rfl, har6, hc6, hb6⟩; have HF6 := Lib.hid (HFq.out.next hb6); have y1 := HF6.out.k1.cell 1; have g1 := HF6.out.k1.frozen 1; simp at y1)
                have HF7 := Lib.hid (HF6.out.set1 (K := L2) (d := c6) har6)
                clear har6 hb6 HF6 y1 g1 HFq
                go_wp2
                go_roundw
                case rel => exact ⟨j + 1, L2, A6, c6, by omega, by go_num, Lib.hid ⟨HL2.out.1, HL2.out.2, hc6⟩, HF7⟩
                case measure => simp [intOf]; omega
              | true =>
                cases o1 with
                | true =>
                  have HCN : Hid (cnd true true ms x = false) := Lib.hid rfl
                  have HL2 : Hid (L.Pairwise (· < ·) ∧ (∀ a, a ∈ L ↔ a ∈ accL true ms (ms.take k) ∨ a ∈ (ys1.take (j + 1)).filter (cnd true true ms)) ∧ L.length ≤ c4) := Lib.hid ⟨HLm.out.1, fun a => by rw [HLm.out.2.1, filt_take1 hgj]; simp [HCN.out], HLm.out.2.2⟩
                  go_wp2
                  go_roundw
                  case rel => exact ⟨j + 1, L, A4, c4, by omega, by go_num, HL2, HFq⟩
                  case measure => simp [intOf]; omega
                | false =>
                  have HKe := Lib.hid (kept_any (some ⟨b, o, none⟩) n c ms x wr (H.out.next HFq.out.b) (by omega) (fun m hm => by have := HX.out m hm; omega))
                  obtain ⟨KV, hKV⟩ : ∃ KV, keptP ms x = KV := ⟨_, rfl⟩
                  rw [hKV] at HKe
                  have HCN : Hid (cnd true false ms x = KV) := Lib.hid hKV
                  clear hKV
                  cases KV with
                  | true =>
                    go_upto_region 14 with (go_at_call 26; (with_reducible refine HKe.out.mono ?_); rintro e w5 ⟨rfl, hb5⟩)
                    replace HFq := Lib.hid (HFq.out.next hb5)
                    clear hb5
                    have HPut := Lib.hid (put_any A4 L.length c4 L x w5 HFq.out.ar hlr HLm.out.2.2 hia)
                    have HL2 : Hid ((putP L x).Pairwise (· < ·) ∧ ∀ a, a ∈ putP L x ↔ a ∈ accL true ms (ms.take k) ∨ a ∈ (ys1.take (j + 1)).filter (cnd true false ms)) := Lib.hid ⟨put_lt HLm.out.1, fun a => by rw [put_mem, HLm.out.2.1, filt_take1 hgj, or_assoc]; simp [HCN.out]⟩
                    generalize putP L x = L2 at *
                    clear hia
                    have z1 : w5.cell? ⟨w.heap.size + 1, 1, none⟩ = some (.slice A4 L.length c4) := HFq.out.k1.cell 1
                    go_wp2_with (go_at_call 27; (with_reducible refine HPut.out.mono ?_); rintro e w6 ⟨A6, c6, rfl, har6, hc6, hb6⟩; have HF6 := Lib.hid (HFq.out.next hb6); have y1 := HF6.out.k1.cell 1; have g1 := HF6.out.k1.frozen 1; simp at y1)
                    have HF7 := Lib.hid (HF6.out.set1 (K := L2) (d := c6) har6)
                    clear har6 hb6 HF6 y1 g1 HFq
                    go_wp2
                    go_roundw
                    case rel => exact ⟨j + 1, L2, A6, c6, by omega, by go_num, Lib.hid ⟨HL2.out.1, HL2.out.2, hc6⟩, HF7⟩
                    case measure => simp [intOf]; omega
                  | false =>
                    go_wp2_with (go_at_call 26; (with_reducible refine HKe.out.mono ?_); rintro e w5 ⟨rfl, hb5⟩)
                    replace HFq := Lib.hid (HFq.out.next hb5)
                    clear hb5
                    have HL2 : Hid (L.Pairwise (· < ·) ∧ (∀ a, a ∈ L ↔ a ∈ accL true ms (ms.take k) ∨ a ∈ (ys1.take (j + 1)).filter (cnd true false ms)) ∧ L.length ≤ c4) := Lib.hid ⟨HLm.out.1, fun a => by rw [HLm.out.2.1, filt_take1 hgj]; simp [HCN.out], HLm.out.2.2⟩
                    go_wp2
                    go_roundw
                    case rel => exact ⟨j + 1, L, A4, c4, by omega, by go_num, HL2, HFq⟩
                    case measure => simp [intOf]; omega
            · have q1 : ¬ (j : Int) < (n1 : Int) := by omega
              have HLe : Hid (L.Pairwise (· < ·) ∧ (∀ a, a ∈ L ↔ a ∈ accL V ms (ms.take (k + 1))) ∧ L.length ≤ c4) := Lib.hid ⟨HLm.out.1, fun a => by
                rw [HLm.out.2.1, HTk.out, List.mem_append]
                rw [show ys1.take j = ys1 by rw [List.take_of_length_le (by rw [hr.len]; exact hjge)]]
                exact Iff.rfl, HLm.out.2.2⟩
              clear hr
              go_wp2
              go_roundw
              case rel => exact ⟨k + 1, L, A4, c4, by omega, by go_num, HLe, HFq⟩
              case measure => simp [intOf]; omega
        · have q1 : ¬ (k : Int) < (n : Int) := by omega
          have HLL : Hid (L = ofL ms) := Lib.hid <| lt_unique HLm.out.1 (of_lt ms) (fun a => by
            rw [HLm.out.2.1, ← acc_of ms a, HVV.out]
            rw [show ms.take k = ms by rw [List.take_of_length_le (by rw [HL.out]; exact hge)]])
          have z0 : wr.cell? ⟨w.heap.size + 1, 0, none⟩ = some (.bool V) := HF.out.k1.cell 0
          have z1 : wr.cell? ⟨w.heap.size + 1, 1, none⟩ = some (.slice A4 L.length c4) := HF.out.k1.cell 1
          have y0 : wr.cell? ⟨w.heap.size, 0, none⟩ = some (.bool false) := HF.out.k0.cell 0
          have y1 : wr.cell? ⟨w.heap.size, 1, none⟩ = some (.slice none 0 0) := HF.out.k0.cell 1
          have g0 : wr.frozen? ⟨w.heap.size, 0, none⟩ = false := HF.out.k0.frozen 0
          have g1 : wr.frozen? ⟨w.heap.size, 1, none⟩ = false := HF.out.k0.frozen 1
          obtain ⟨W9, eW, hb9, hk9, hr9⟩ := flt_store (w0 := w) (b := V) (c := c4) HF.out.b HF.out.k0 (Nat.le_refl _) HF.out.ar
          go_wp2
          refine bodyPost_ret (ret_fd _ w.heap.size _ (.bool V) (.slice A4 L.length c4) rfl (hk9.cell 0) (hk9.cell 1)) rfl ?_
          rw [HVV.out, ← HLL.out]
          first | exact ⟨A4, c4, rfl, hr9, hb9⟩ | exact ⟨A4, ⟨c4, rfl⟩, hr9, hb9⟩
end Go.Proofs.Ytfiiichiflglaaa

