/- The document's FilterKeys and Filtered; over the seat's program. -/
import Derived.Test.YtfiiichiflglaaaFq
import Derived.Test.YtfiiichiflglaaaFiltRises
namespace Go.Proofs.Ytfiiichiflglaaa
open Go.ChangeShapes Go.WideShapes Go.ChangeAt Go.RowKit Sm Go.Maps
theorem lt_room {L : List Int} {S : List Int} (h : L.Pairwise (· < ·)) (hm : ∀ a, a ∈ L ↔ a ∈ S) : L.length ≤ S.length := by
  rw [lt_unique h (grp_lt S) (fun a => (hm a).trans (grp_mem S a).symm)]
  exact grp_len S
theorem take_mem1 {xs : List Int} {k : Nat} {u a : Int} (h : xs[k]? = some u) : a ∈ xs.take (k + 1) ↔ a ∈ xs.take k ∨ a = u := by
  rw [List.take_add_one, h]
  simp
set_option maxRecDepth 100000 in
set_option maxHeartbeats 8000000 in
theorem fkeys_any (b : Bool) (A : Option Addr) (n c : Nat) (xs : List Int) (g : Int) (w : World) (h : AR w A n xs) (hn : n ≤ 100000) :
    Calls Try.prog 18 #[.agg #[.bool b, .slice A n c], .int .u32 g] w fun e w' => ∃ (A' : Option Addr) (c' : Nat), e = .returned (.slice A' (keysL b xs g).length c') ∧ RI CKy 2 w' A' (keysL b xs g).length (keysL b xs g) ∧ Below w.heap.size w w' := by
  have hk := Blk.new w 31 #[.bool b, .slice A n c]
  have hB := (Below.refl w.heap.size w).alloc (Nat.le_refl _) (.cells #[.bool b, .slice A n c] 31)
  have har := h.next hB
  have HB := Lib.hid hB
  have hl := h.len
  clear h hB
  obtain ⟨i0, hi, hz, hsz, hby⟩ := info_parts infoK
  go_enter Try.func18, Try.ntmps18
  go_upto_region 1 with fail
  generalize w.alloc (.cells #[.bool b, .slice A n c] 31) = W1 at *
  generalize hNN : w.heap.size = N at *
  have z0 : W1.cell? ⟨N, 0, none⟩ = some (.bool b) := hk.cell 0
  have z1 : W1.cell? ⟨N, 1, none⟩ = some (.slice A n c) := hk.cell 1
  have HZ : Hid (N ≤ W1.heap.size) := Lib.hid (Nat.le_of_lt hk.lt)
  have HKb := Lib.hid hk
  clear hk
  cases b with
  | true =>
    go_wp2
    go_ret
    refine ⟨some ⟨W1.heap.size, 0, none⟩, 1, rfl, ri_one (k := (0, g)) (Blk.new W1 _ _), ?_⟩
    rw [hNN]
    exact HB.out.alloc HZ.out _
  | false =>
    have HR := Lib.hid har
    have HG : Hid (keysL false xs g = (groupsL xs).map (fun s => (s, g))) := Lib.hid rfl
    clear har
    go_wp2
    go_loopw [5, 6] (fun v iv wr => ∃ (k : Nat) (L : List Int) (A' : Option Addr) (c' : Nat), k ≤ n ∧ iv = .int .i64 (k : Int) ∧ v = .slice A' L.length c' ∧ Hid (L.Pairwise (· < ·) ∧ (∀ a, a ∈ L ↔ a ∈ xs.take k) ∧ L.length ≤ c') ∧ Hid (AR wr A' L.length L) ∧ Hid (Below W1.heap.size W1 wr)) (fun _ iv _ => n - (intOf iv).toNat)
    case atStart => exact ⟨0, [], none, 0, Nat.zero_le _, rfl, rfl, Lib.hid ⟨List.Pairwise.nil, fun a => by simp, Nat.le_refl _⟩, Lib.hid (AR.none_ _ _), Lib.hid (Below.refl _ _)⟩
    case round =>
      obtain ⟨k, L, A4, c4, hk, rfl, rfl, HL, HA, HP⟩ := hrel
      clear z0 z1
      have z1 : wr.cell? ⟨N, 1, none⟩ = some (.slice A n c) := (HKb.out.next HP.out).cell 1
      rcases Nat.lt_or_ge k n with hlt | hge
      · obtain ⟨b5, o5, rfl, hb5, hx5⟩ := (HR.out.next HP.out).at_ hlt
        have hgk : xs[k]? = some (xs.getD k 0) := by rw [List.getD_eq_getElem?_getD, List.getElem?_eq_getElem (by omega)]; rfl
        have hia : isA (xs.getD k 0) := HR.out.isAs _ (List.mem_of_getElem? hgk)
        generalize xs.getD k 0 = u at *
        have hi0 : (k : Int) < (n : Int) := by omega
        have hi1 : (0 : Int) ≤ (k : Int) := by omega
        have hlr : L.length ≤ 1000000 := by
          have := lt_room HL.out.1 HL.out.2.1
          rw [List.length_take] at this
          omega
        have HPut := Lib.hid (put_any A4 L.length c4 L u wr HA.out hlr HL.out.2.2 hia)
        have HL2 : Hid ((putP L u).Pairwise (· < ·) ∧ ∀ a, a ∈ putP L u ↔ a ∈ xs.take (k + 1)) := Lib.hid ⟨put_lt HL.out.1, fun a => by rw [put_mem, take_mem1 hgk, HL.out.2.1]⟩
        generalize putP L u = L2 at *
        clear hgk hia HL HA
        go_wp2_with (go_at_call 27; (with_reducible refine HPut.out.mono ?_); rintro e w5 ⟨A6, c6, rfl, har6, hc6, hb6⟩)
        have HP6 := Lib.hid (HP.out.trans (hb6.mono HP.out.size))
        have HA6 := Lib.hid har6
        clear har6 hb6 HP
        go_wp2
        go_roundw
        case rel => exact ⟨k + 1, L2, A6, c6, by omega, by go_num, rfl, Lib.hid ⟨HL2.out.1, HL2.out.2, hc6⟩, HA6, HP6⟩
        case measure => simp [intOf]; omega
      · have q1 : ¬ (k : Int) < (n : Int) := by omega
        obtain rfl : k = n := by omega
        have hG : L = groupsL xs := lt_unique HL.out.1 (grp_lt xs) (fun a => by rw [HL.out.2.1, grp_mem, ← hl, List.take_length])
        rw [← hG] at HG
        have hgl : L.length ≤ 100000 := by rw [hG]; exact Nat.le_trans (grp_len xs) (by omega)
        clear hG
        go_wp2
        have HZr : Hid (N ≤ wr.heap.size) := Lib.hid (Nat.le_trans HZ.out HP.out.size)
        have HBr := Lib.hid (HB.out.trans (HP.out.mono HZ.out))
        clear z1 q1 HP HR HKb HB
        generalize hw5 : wr = w5 at *
        clear hw5
        go_loopw [7, 8] (fun v iv wr => ∃ j : Nat, j ≤ L.length ∧ iv = .int .i64 (j : Int) ∧ Hid (wr.ownsRow w5.heap.size 48 2 v ((L.take j).map (fun s => (s, g))).length (((L.take j).map (fun s => (s, g))).flatMap CKy)) ∧ Hid (Below w5.heap.size w5 wr)) (fun _ iv _ => L.length - (intOf iv).toNat)
        case atStart => exact ⟨0, Nat.zero_le _, rfl, Lib.hid (World.ownsRow_nil _ _ _ _), Lib.hid (Below.refl _ _)⟩
        case round =>
          obtain ⟨j, hj, rfl, HO, HP⟩ := hrel
          generalize u7 = v7 at *
          rcases Nat.lt_or_ge j L.length with hjlt | hjge
          · have hi0 : (j : Int) < (L.length : Int) := by omega
            have hi1 : (0 : Int) ≤ (j : Int) := by omega
            obtain ⟨b6, o6, rfl, hb6, hx⟩ := (HA.out.next HP.out).at_ hjlt
            have hgj : L[j]? = some (L.getD j 0) := by rw [List.getD_eq_getElem?_getD, List.getElem?_eq_getElem hjlt]; rfl
            generalize L.getD j 0 = x at *
            have HC := Lib.hid (flat_keys L g j x hgj)
            have HLk : Hid (((L.take j).map (fun s => (s, g))).length + 1 = ((L.take (j + 1)).map (fun s => (s, g))).length) := Lib.hid (by simp; omega)
            have HL0 : ((L.take j).map (fun s => (s, g))).length ≤ 100000 := by simp; omega
            generalize ((L.take j).map (fun s => (s, g))).length = L1 at *
            generalize ((L.take j).map (fun s => (s, g))).flatMap CKy = C1 at *
            have HO1 := Lib.hid (HO.out.alloc (.cells #[.int .u32 x, .int .u32 g] 48))
            have HP1 := Lib.hid (HP.out.alloc HP.out.size (.cells #[.int .u32 x, .int .u32 g] 48))
            clear hgj HO HP hb6
            go_wp2_with (at_builtin; refine wpList_append_own _ rfl _ _ 39 rfl w5.heap.size 48 i0 (.agg #[.int .u32 0, .int .u32 0]) 2 8 Try.underlying39 hi hz hsz hby rfl (by decide) v7 L1 C1 rfl HO1.out ⟨wr.heap.size, 0, none⟩ 1 1 [.int .u32 x, .int .u32 g] rfl rfl (lit_cells (Blk.new _ _ _)) (by intro u hu; simp at hu; rcases hu with rfl | rfl <;> rfl) (by unfold maxLen; omega) (by omega) HP1.out.size ?_; intro v9 w9 hown9 hg9 _)
            have HO9 : Hid (w9.ownsRow w5.heap.size 48 2 v9 ((L.take (j + 1)).map (fun s => (s, g))).length (((L.take (j + 1)).map (fun s => (s, g))).flatMap CKy)) := Lib.hid (by rw [← HLk.out, HC.out]; exact hown9)
            have HP9 := Lib.hid (HP1.out.grown hg9 HP1.out.size (fun g e => (HO1.out.lt g e).1))
            clear hown9 hg9 HO1 HP1 hx
            go_wp2
            go_roundw
            case rel => exact ⟨j + 1, by omega, by go_num, HO9, HP9⟩
            case measure => simp [intOf]; omega
          · have q1 : ¬ (j : Int) < (L.length : Int) := by omega
            obtain rfl : j = L.length := by omega
            rw [List.take_length] at HO
            obtain ⟨A8, c8, hv8, hc8, hr8⟩ := RI.of_own (enc := CKy) (k := 2) (fun _ => rfl) HO.out
            subst hv8
            go_wp2
            go_ret
            rw [HG.out]
            have hb8 := HBr.out.trans (HP.out.mono HZr.out)
            first | exact ⟨A8, ⟨c8, by simp⟩, hr8, hb8⟩ | exact ⟨A8, c8, by simp, hr8, hb8⟩
end Go.Proofs.Ytfiiichiflglaaa

