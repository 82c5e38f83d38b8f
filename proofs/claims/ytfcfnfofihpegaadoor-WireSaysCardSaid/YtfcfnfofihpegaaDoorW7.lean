/- Contracts of package wire's writers, over the seat's program. -/
import Derived.Test.YtfcfnfofihpegaaDoorW1
import Derived.Test.YtfcfnfofihpegaaDoorAppB
namespace Go.Proofs.YtfcfnfofihpegaaDoor
open Go.RowKit Sm
theorem drop_succ_getD (xs : List Int) (k : Nat) (h : k < xs.length) : xs.drop k = xs.getD k 0 :: xs.drop (k + 1) := by
  rw [List.drop_eq_getElem_cons h]
  simp [List.getD, h]
theorem flat_take (xs : List Int) (k : Nat) (h : k < xs.length) : flat (xs.take (k + 1)) = flat (xs.take k) ++ b4 (xs.getD k 0) := by
  rw [take_succ_getD xs k h, flat_append]
  simp [flat]
theorem IsAs.at_ {xs : List Int} (h : IsAs xs) (i : Nat) : isA (xs.getD i 0) := by
  rw [List.getD_eq_getElem?_getD]
  cases hx : xs[i]? with
  | none => exact ⟨by simp, by simp⟩
  | some x => exact h x (List.mem_of_getElem? hx)
theorem IsAs.take {xs : List Int} (h : IsAs xs) (k : Nat) : IsAs (xs.take k) := fun x hx => h x (List.mem_of_mem_take hx)
theorem wide_u16 {v : Int} (h0 : 0 ≤ v) (h1 : v ≤ 65535) : v / 256 % 256 = v / 256 := by omega
theorem putNumber_any (base n : Nat) (s : Value) (xs : List Int) (v : Int) (w : World) (hown : w.ownsRow base 5 1 s n (B8 xs)) (hn : n ≤ 1000000) (hbase : base ≤ w.heap.size) (hv0 : 0 ≤ v) (hv1 : v ≤ 65535) :
    Calls Tryd.prog 25 #[s, .int .i64 v] w fun e w' => ∃ A' c', e = .returned (.slice A' (n + 2) c') ∧ w'.ownsRow base 5 1 (.slice A' (n + 2) c') (n + 2) (B8 (xs ++ b2 v)) ∧ Below base w w' := by
  obtain ⟨i0, hi, hz0, hz1, hz2⟩ := info_parts info_u8
  have HB2 := Lib.hid (b2_b hv0 hv1)
  go_enter Tryd.func25, Tryd.ntmps25
  go_wp2_with (at_builtin; refine wpList_append_br rfl _ _ 29 rfl base 5 i0 Tryd.underlying29 hi hz0 hz1 hz2 _ n xs rfl (hown.alloc _) _ 2 2 (b2 v) rfl (BR_lit (b2 v) HB2.out _ (by rfl) _ 2 rfl (by rfl)) (by omega) (by omega) (by simp; omega) ?_; intro v6 w6 hown6 hb6)
  obtain ⟨A6, c6, rfl⟩ := own_slicea hown6
  go_ret
  exact ⟨A6, c6, rfl, hown6, ((Below.refl base w).alloc hbase _).trans hb6⟩
theorem wpList_append_brg {P : Program} {w : World} {ops : Array Oper} {rest : List Oper} {o : Oper} {a : Act} {Q : Exit → Act → World → Prop} (hgd : o.guard = none) (s x : Operand) (t : TypeId)
    (ho : o.op = .call { callee := .builtin .append, args := #[s, x], argTypes := #[t, t] })
    (base : Nat) (e : TypeId) (i : TypeInfo) (ht : P.underlying t = some (.slice e)) (hi : P.info? e = some i) (hz : i.zero = some (.int .u8 0)) (hsize : i.size = 1) (hby : i.bytes = 1)
    (v : Value) (n : Nat) (xs : List Int) (hs : a.eval s = v) (hown : w.ownsRow base e 1 v n (B8 xs))
    (b : Nat) (m c : Nat) (ys : List Int) (hx : a.eval x = .slice (some ⟨b, 0, none⟩) m c) (hbr : BR w (some ⟨b, 0, none⟩) m ys) (hn : n ≤ 1048576) (hm : m ≤ 1048576) (hbase : base ≤ w.heap.size)
    (h : ∀ v' w', w'.ownsRow base e 1 v' (n + m) (B8 (xs ++ ys)) → w.grownBy w' v.ownBlock → wpList P ops Q rest (a.put o.dst v') w') : wpList P ops Q (o :: rest) a w := by
  refine wpList_append_own w hgd s x t ho base e i (.int .u8 0) 1 1 ht hi hz hsize hby rfl (by decide) v n (B8 xs) hs hown ⟨b, 0, none⟩ m c (B8 ys) hx (by rw [B8_len, hbr.len]; omega) ?_ (B8_one _) (by unfold maxLen; omega) (by omega) hbase ?_
  · intro j u hj
    have hjm : j < m := by
      have := (List.getElem?_eq_some_iff.1 hj).1
      rw [B8_len, hbr.len] at this
      exact this
    obtain ⟨b', o', e', _, hc⟩ := hbr.2.2 (by omega)
    cases e'
    rw [WideShapes.add_plain, hc j hjm, ← hj, B8_at (by rw [hbr.len]; exact hjm)]
  · intro v' w' h2 h3 _
    exact h v' w' (by rw [B8_app]; exact h2) h3
/-- a slice of addresses that an append to bytes leaves as it is: it lies below, or in a block of addresses -/
def Safe (base : Nat) (w : World) (A : Option Addr) (m : Nat) : Prop := 0 < m → ∀ b o, A = some ⟨b, o, none⟩ → b < base ∨ ∃ cs, Blk w b 23 cs
theorem safe_ne {base : Nat} {w : World} {A : Option Addr} {m n b o : Nat} {v : Value} {ys : List Value} (h : Safe base w A m) (hm : 0 < m) (hA : A = some ⟨b, o, none⟩) (hown : w.ownsRow base 5 1 v n ys) : some b ≠ v.ownBlock := by
  intro e
  rcases hown.2 with ⟨rfl, _⟩ | ⟨g, cap, cur, rfl, hbg, hh, _⟩
  · cases e
  · cases e
    rcases h hm _ _ hA with h1 | ⟨cs, h1⟩
    · simp only at h1; omega
    · unfold Blk at h1
      simp only at h1
      rw [hh] at h1
      cases h1
theorem safe_grown {base : Nat} {w w' : World} {A : Option Addr} {m n : Nat} {v : Value} {ys : List Value} {ls : List Int} (h : Safe base w A m) (hA : AR w A m ls) (hown : w.ownsRow base 5 1 v n ys) (hg : w.grownBy w' v.ownBlock) : Safe base w' A m ∧ AR w' A m ls := by
  have hk : 0 < m → ∀ b o, A = some ⟨b, o, none⟩ → b < w.heap.size → w'.heap[b]? = w.heap[b]? := fun hm b o e hlt => hg.block b hlt (safe_ne h hm e hown)
  constructor
  · intro hm b o e
    rcases h hm b o e with h1 | ⟨cs, h1⟩
    · exact .inl h1
    · exact .inr ⟨cs, (hk hm b o e h1.lt).trans h1⟩
  · refine ⟨hA.1, hA.2.1, fun hm => ?_⟩
    obtain ⟨b, o, e, hlt, hc⟩ := hA.2.2 hm
    exact ⟨b, o, e, Nat.lt_of_lt_of_le hlt hg.size, fun i hi => (World.cell?_of_block (a := ⟨b, o + i, none⟩) (hk hm b o e hlt)).trans (hc i hi)⟩
theorem safe_next {base : Nat} {w w' : World} {A : Option Addr} {m : Nat} (h : Safe base w A m) (hb : Below w.heap.size w w') : Safe base w' A m := fun hm b o e => by
  rcases h hm b o e with h1 | ⟨cs, h1⟩
  · exact .inl h1
  · exact .inr ⟨cs, h1.next hb⟩
theorem arr4 (a b c d : Int) : B8 [a, b, c, d] = (#[.int .u8 a, .int .u8 b, .int .u8 c, .int .u8 d] : Array Value).toList := rfl
set_option maxHeartbeats 1000000 in
theorem putAddrs_any (base n : Nat) (s : Value) (xs : List Int) (A : Option Addr) (m c : Nat) (ls : List Int) (w : World) (hown : w.ownsRow base 5 1 s n (B8 xs)) (hn : n ≤ 1000) (hbase : base ≤ w.heap.size) (hA : AR w A m ls) (hm : m ≤ 1000) (hS : Safe base w A m) :
    Calls Tryd.prog 24 #[s, .slice A m c] w fun e w' => ∃ A' c', e = .returned (.slice A' (n + 4 * m) c') ∧ w'.ownsRow base 5 1 (.slice A' (n + 4 * m) c') (n + 4 * m) (B8 (xs ++ flat ls)) ∧ Below base w w' := by
  obtain ⟨i0, hi, hz0, hz1, hz2⟩ := info_parts info_u8
  have hl := hA.len
  go_enter Tryd.func24, Tryd.ntmps24
  go_wp2_with fail
  go_loopw [0, 10] (fun v i wr => ∃ k : Nat, k ≤ m ∧ i = .int .i64 k ∧ wr.ownsRow base 5 1 v (n + 4 * k) (B8 (xs ++ flat (ls.take k))) ∧ AR wr A m ls ∧ Safe base wr A m ∧ Below base w wr) (fun _ i _ => m - (intOf i).toNat)
  case atStart => exact ⟨0, Nat.zero_le _, rfl, by simpa [flat] using hown, hA, hS, Below.refl _ _⟩
  case round =>
    obtain ⟨k, hk, rfl, hown, hA, hS, hbw⟩ := hrel
    rcases Nat.lt_or_ge k m with hlt | hge
    · obtain ⟨b, o, rfl, hb0, hc0⟩ := hA.at_ hlt
      have HT := Lib.hid (flat_take ls k (by omega))
      have HI := Lib.hid (IsAs.at_ hA.isAs k)
      have HA := Lib.hid hA
      have HS := Lib.hid hS
      have HO := Lib.hid hown
      have HW := Lib.hid hbw
      generalize ls.getD k 0 = u at *
      generalize flat (ls.take k) = L at *
      have hi0 : (k : Int) < m := by omega
      clear hA hS hown hbw
      go_wp2_with (first
        | (go_at_call 46; refine (abytes_any u _ HI.out).mono ?_; rintro e w1 ⟨rfl, hb1⟩)
        | (at_builtin; refine wpList_append_brg rfl _ _ 29 rfl base 5 i0 Tryd.underlying29 hi hz0 hz1 hz2 _ (n + 4 * k) _ rfl ((own_next HO.out hb1).alloc _) _ 4 4 (b4 u) rfl (BR_lit (b4 u) (b4_b HI.out) _ (by rfl) _ 4 rfl (by rfl)) (by omega) (by omega) (by simp; have := HW.out.size; have := hb1.size; omega) ?_; intro v6 w6 hown6 hg6))
      have hbn := below_next hb1 ((Below.refl w1.heap.size w1).alloc (Nat.le_refl _) (.cells #[.int .u8 (u / 16777216), .int .u8 (u / 65536 % 256), .int .u8 (u / 256 % 256), .int .u8 (u % 256)] 76))
      have hs6 := safe_grown (safe_next HS.out hbn) (HA.out.next hbn) ((own_next HO.out hb1).alloc _) hg6
      have hb6 := (HW.out.trans (hbn.mono (by have := HW.out.size; omega))).trans ((own_grown ((own_next HO.out hb1).alloc (.cells #[.int .u8 (u / 16777216), .int .u8 (u / 65536 % 256), .int .u8 (u / 256 % 256), .int .u8 (u % 256)] 76)) hg6 (by have := HW.out.size; have := hbn.size; omega)))
      go_wp2
      go_roundw
      case rel => exact ⟨k + 1, by omega, by go_num, by rw [HT.out, ← List.append_assoc]; exact hown6, hs6.2, hs6.1, hb6⟩
      case measure => simp [intOf]; omega
    · obtain rfl : k = m := by omega
      rw [List.take_of_length_le (by omega)] at hown
      obtain ⟨A6, c6, hv⟩ := own_slicea hown
      subst hv
      go_wp2
      go_ret
      exact ⟨A6, c6, rfl, hown, hbw⟩
end Go.Proofs.YtfcfnfofihpegaaDoor
