/- Contract of package ip's Read, over the seat's program. -/
import Derived.Test.YtgjpclmkjoghiaaDoorIp2
namespace Go.Proofs.YtgjpclmkjoghiaaDoor
open Go.RowKit Sm
theorem BR.upto {w : World} {A : Option Addr} {n : Nat} {xs : List Int} (h : BR w A n xs) {m : Nat} (hm : m ≤ n) : BR w A m (xs.take m) :=
  ⟨by have := h.len; simp; omega, h.isB.take m, fun h0 => by
    obtain ⟨b, o, e, hlt, hc⟩ := h.2.2 (by omega)
    exact ⟨b, o, e, hlt, fun i hi => by rw [hc i (by omega)]; simp [List.getD, hi]⟩⟩
namespace Sm
theorem rsh_take (xs : List Int) : rsh (xs.take 20) = rsh xs := by
  unfold rsh; rw [getD_take (by omega), getD_take (by omega), getD_take (by omega), getD_take (by omega)]
theorem rn_take (xs : List Int) {k : Nat} (h : k + 1 < 20) : rn (xs.take 20) k = rn xs k := by
  unfold rn; rw [getD_take (by omega), getD_take (by omega)]
theorem ra_take (xs : List Int) {k : Nat} (h : k + 3 < 20) : ra (xs.take 20) k = ra xs k := by
  unfold ra; rw [getD_take (by omega), getD_take (by omega), getD_take (by omega), getD_take (by omega)]
theorem ra_take16 (xs : List Int) : ra (xs.take 20) 16 = ra xs 16 := by
  unfold ra; rw [getD_take (by omega), getD_take (by omega), getD_take (by omega), getD_take (by omega)]
end Sm
def hz : Value := .agg #[.int .i64 0, .int .i64 0, .int .i64 0, .int .i64 0, .int .u32 0, .int .u32 0]
theorem keep6 {w W : World} {t : TypeId} (h : Keep w t 6 W) : (W.cell? ⟨w.heap.size, 0, none⟩ = some (rd W ⟨w.heap.size, 0, none⟩) ∧ W.cell? ⟨w.heap.size, 1, none⟩ = some (rd W ⟨w.heap.size, 1, none⟩) ∧ W.cell? ⟨w.heap.size, 2, none⟩ = some (rd W ⟨w.heap.size, 2, none⟩) ∧ W.cell? ⟨w.heap.size, 3, none⟩ = some (rd W ⟨w.heap.size, 3, none⟩) ∧ W.cell? ⟨w.heap.size, 4, none⟩ = some (rd W ⟨w.heap.size, 4, none⟩) ∧ W.cell? ⟨w.heap.size, 5, none⟩ = some (rd W ⟨w.heap.size, 5, none⟩)) ∧
    W.frozen? ⟨w.heap.size, 0, none⟩ = false ∧ W.frozen? ⟨w.heap.size, 1, none⟩ = false ∧ W.frozen? ⟨w.heap.size, 2, none⟩ = false ∧ W.frozen? ⟨w.heap.size, 3, none⟩ = false ∧ W.frozen? ⟨w.heap.size, 4, none⟩ = false ∧ W.frozen? ⟨w.heap.size, 5, none⟩ = false :=
  ⟨⟨h.cell 0 (by omega), h.cell 1 (by omega), h.cell 2 (by omega), h.cell 3 (by omega), h.cell 4 (by omega), h.cell 5 (by omega)⟩, h.frozen 0, h.frozen 1, h.frozen 2, h.frozen 3, h.frozen 4, h.frozen 5⟩
theorem Keep.all6 {w W : World} {t : TypeId} (h : Keep w t 6 W) (v0 v1 v2 v3 v4 v5 : Value) : Keep w t 6 ((((((W.setCell ⟨w.heap.size, 0, none⟩ v0).setCell ⟨w.heap.size, 1, none⟩ v1).setCell ⟨w.heap.size, 2, none⟩ v2).setCell ⟨w.heap.size, 3, none⟩ v3).setCell ⟨w.heap.size, 4, none⟩ v4).setCell ⟨w.heap.size, 5, none⟩ v5) :=
  (((((h.store 0 v0).store 1 v1).store 2 v2).store 3 v3).store 4 v4).store 5 v5
section
variable (er : Int → Value) (A : Option Addr) (n c : Nat) (xs : List Int) (w : World)
theorem read_end (hE : EnvE er w) (hn : n < 20) :
    Calls Tryd.prog 11 #[.slice A n c] w fun e w' => e = .returned (.tuple #[hz, er 101]) ∧ Below w.heap.size w w' := by
  have hk : Keep w 25 6 (w.alloc (.cells #[.int .i64 0, .int .i64 0, .int .i64 0, .int .i64 0, .int .u32 0, .int .u32 0] 25)) := Keep.new _ _ _
  have hc := (hE.below hk.1).2.2.1
  have hlt := World.block_lt_of_cell? w _ hE.2.2.1
  have hne : w.heap.size ≠ 1 := by simp at hlt; omega
  have hne' : 1 ≠ w.heap.size := hne.symm
  have hi : (n : Int) < 20 := by omega
  have HK := Lib.hid hk
  clear hE hlt hn hk
  generalize er 101 = E at *
  go_enter Tryd.func11, Tryd.ntmps11
  go_wp2_with fail
  go_region
  go_wp2
  exact bodyPost_ret (v := .tuple #[.agg #[.int .i64 0, .int .i64 0, .int .i64 0, .int .i64 0, .int .u32 0, .int .u32 0], E]) (by simp [results, Tryd.results11, go_sem]) rfl ⟨rfl, HK.out.1.drew⟩
/-- what holds ahead of each way that reads twenty bytes -/
theorem read_pre (h : BR w A n xs) (hn : 20 ≤ n) : ∃ b o, A = some ⟨b, o, none⟩ ∧ ∀ W, Below w.heap.size w W → BR W (some ⟨b, o, none⟩) 20 (xs.take 20) := by
  obtain ⟨b, o, rfl, _, _⟩ := h.2.2 (by omega)
  exact ⟨b, o, rfl, fun W hW => (h.next hW).upto hn⟩
set_option maxHeartbeats 1000000 in
theorem read_shape (hE : EnvE er w) (h : BR w A n xs) (hn : 20 ≤ n) (hc : n ≤ c) (hs : rsh xs = false) :
    Calls Tryd.prog 11 #[.slice A n c] w fun e w' => e = .returned (.tuple #[hz, er 102]) ∧ Below w.heap.size w w' := by
  obtain ⟨b, o, rfl, HB⟩ := read_pre A n xs w h hn
  have hk : Keep w 25 6 (w.alloc (.cells #[.int .i64 0, .int .i64 0, .int .i64 0, .int .i64 0, .int .u32 0, .int .u32 0] 25)) := Keep.new _ _ _
  have hS := shaped_any _ 20 c _ _ (HB _ hk.1) (by omega)
  rw [rsh_take, hs] at hS
  have hc1 := (hE.below hk.1).2.2.2.1
  have hlt := World.block_lt_of_cell? w _ hE.2.2.2.1
  have hne : w.heap.size ≠ 2 := by simp at hlt; omega
  have hne' : 2 ≠ w.heap.size := hne.symm
  have hi : ¬ (n : Int) < 20 := by omega
  have hi2 : (20 : Int) ≤ (c : Int) := by omega
  have HK := Lib.hid hk
  clear hE hlt hk h hs HB
  generalize er 102 = E at *
  go_enter Tryd.func11, Tryd.ntmps11
  go_wp2_with (go_at_call 27; refine hS.mono ?_; rintro e w1 ⟨rfl, rfl⟩)
  go_region
  go_wp2
  exact bodyPost_ret (v := .tuple #[.agg #[.int .i64 0, .int .i64 0, .int .i64 0, .int .i64 0, .int .u32 0, .int .u32 0], E]) (by simp [results, Tryd.results11, go_sem]) rfl ⟨rfl, HK.out.1.drew⟩
set_option maxHeartbeats 1000000 in
theorem read_sum (hE : EnvE er w) (h : BR w A n xs) (hn : 20 ≤ n) (hc : n ≤ c) (hs : rsh xs = true) (ho : oc (tot (xs.take 20)) ≠ 65535) :
    Calls Tryd.prog 11 #[.slice A n c] w fun e w' => e = .returned (.tuple #[hz, er 105]) ∧ Below w.heap.size w w' := by
  obtain ⟨b, o, rfl, HB⟩ := read_pre A n xs w h hn
  have hk : Keep w 25 6 (w.alloc (.cells #[.int .i64 0, .int .i64 0, .int .i64 0, .int .i64 0, .int .u32 0, .int .u32 0] 25)) := Keep.new _ _ _
  have hS := shaped_any _ 20 c _ _ (HB _ hk.1) (by omega)
  rw [rsh_take, hs] at hS
  have hC := check_any _ 20 c _ _ (HB _ hk.1) (by omega)
  rw [decide_eq_false ho] at hC
  have hlt := World.block_lt_of_cell? w _ hE.2.2.2.2.2
  have hne : w.heap.size ≠ 3 := by simp at hlt; omega
  have hne' : 3 ≠ w.heap.size := hne.symm
  have hi : ¬ (n : Int) < 20 := by omega
  have hi2 : (20 : Int) ≤ (c : Int) := by omega
  have HK := Lib.hid hk
  have HE := Lib.hid hE
  clear hE hlt hk h hs ho HB
  go_enter Tryd.func11, Tryd.ntmps11
  go_wp2_with (first
    | (go_at_call 27; refine hS.mono ?_; rintro e w1 ⟨rfl, rfl⟩)
    | (go_at_call 28; refine hC.mono ?_; rintro e w1 ⟨rfl, hb⟩
       have hk1 := HK.out.next hb
       have hc1 := (HE.out.below hk1.1).2.2.2.2.2
       obtain ⟨⟨t0, t1, t2, t3, t4, t5⟩, f0, f1, f2, f3, f4, f5⟩ := keep6 hk1
       have HK1 := Lib.hid hk1
       clear hb hk1))
  go_region
  go_wp2
  exact bodyPost_ret (v := .tuple #[.agg #[.int .i64 0, .int .i64 0, .int .i64 0, .int .i64 0, .int .u32 0, .int .u32 0], er 105]) (by simp [results, Tryd.results11, go_sem, t0, t1, t2, t3, t4, t5]) rfl ⟨rfl, (HK1.out.all6 _ _ _ _ _ _).1.drew⟩
set_option maxHeartbeats 1000000 in
theorem read_len (hE : EnvE er w) (h : BR w A n xs) (hn : 20 ≤ n) (hc : n ≤ c) (hs : rsh xs = true) (ho : oc (tot (xs.take 20)) = 65535) (hl : rn xs 2 < 20) :
    Calls Tryd.prog 11 #[.slice A n c] w fun e w' => e = .returned (.tuple #[hz, er 103]) ∧ Below w.heap.size w w' := by
  obtain ⟨b, o, rfl, HB⟩ := read_pre A n xs w h hn
  have hk : Keep w 25 6 (w.alloc (.cells #[.int .i64 0, .int .i64 0, .int .i64 0, .int .i64 0, .int .u32 0, .int .u32 0] 25)) := Keep.new _ _ _
  have hS := shaped_any _ 20 c _ _ (HB _ hk.1) (by omega)
  rw [rsh_take, hs] at hS
  have hC := check_any _ 20 c _ _ (HB _ hk.1) (by omega)
  rw [decide_eq_true ho] at hC
  have hF := Lib.hid (fun W (hW : Below w.heap.size w W) => fields_any _ c _ W (HB W hW) (by omega))
  have hlt := World.block_lt_of_cell? w _ hE.2.2.2.2.1
  have hne : w.heap.size ≠ 0 := by simp at hlt; omega
  have hne' : 0 ≠ w.heap.size := hne.symm
  have hi : ¬ (n : Int) < 20 := by omega
  have hi2 : (20 : Int) ≤ (c : Int) := by omega
  have HK := Lib.hid hk
  have HE := Lib.hid hE
  unfold hv at hF
  rw [rn_take _ (by omega)] at hF
  clear hE hlt hk h hs ho HB
  generalize rn xs 2 = l at *
  generalize rn (xs.take 20) 4 = i at *
  generalize (xs.take 20).getD 8 0 = t at *
  generalize (xs.take 20).getD 9 0 = p at *
  generalize ra (xs.take 20) 12 = f at *
  generalize ra (xs.take 20) 16 = g at *
  go_enter Tryd.func11, Tryd.ntmps11
  go_wp2_with (first
    | (go_at_call 27; refine hS.mono ?_; rintro e w1 ⟨rfl, rfl⟩)
    | (go_at_call 28; refine hC.mono ?_; rintro e w1 ⟨rfl, hb⟩
       have HK1 := Lib.hid (HK.out.next hb)
       clear hb)
    | (go_at_call 29; refine (hF.out _ HK1.out.1).mono ?_; rintro e w2 ⟨rfl, hb⟩
       have hk2 := HK1.out.next hb
       have hk3 : Keep w 25 6 (w2.alloc (.cells #[.int .i64 l, .int .i64 i, .int .i64 t, .int .i64 p, .int .u32 f, .int .u32 g] 25)) := hk2.next ((Below.refl _ _).alloc (Nat.le_refl _) _)
       have hc1 := (HE.out.below hk3.1).2.2.2.2.1
       obtain ⟨⟨t0, t1, t2, t3, t4, t5⟩, f0, f1, f2, f3, f4, f5⟩ := keep6 hk3
       have HK1 := Lib.hid hk3
       clear hb hk2 hk3))
  go_region
  go_wp2
  exact bodyPost_ret (v := .tuple #[.agg #[.int .i64 0, .int .i64 0, .int .i64 0, .int .i64 0, .int .u32 0, .int .u32 0], er 103]) (by simp [results, Tryd.results11, go_sem, t0, t1, t2, t3, t4, t5]) rfl ⟨rfl, (HK1.out.all6 _ _ _ _ _ _).1.drew⟩
set_option maxHeartbeats 1000000 in
theorem read_ok (h : BR w A n xs) (hn : 20 ≤ n) (hc : n ≤ c) (hs : rsh xs = true) (ho : oc (tot (xs.take 20)) = 65535) (hl : 20 ≤ rn xs 2) :
    Calls Tryd.prog 11 #[.slice A n c] w fun e w' => e = .returned (.tuple #[hv (rn xs 2) (rn xs 4) (xs.getD 8 0) (xs.getD 9 0) (ra xs 12) (ra xs 16), .nilIface]) ∧ Below w.heap.size w w' := by
  obtain ⟨b, o, rfl, HB⟩ := read_pre A n xs w h hn
  have hk : Keep w 25 6 (w.alloc (.cells #[.int .i64 0, .int .i64 0, .int .i64 0, .int .i64 0, .int .u32 0, .int .u32 0] 25)) := Keep.new _ _ _
  have hS := shaped_any _ 20 c _ _ (HB _ hk.1) (by omega)
  rw [rsh_take, hs] at hS
  have hC := check_any _ 20 c _ _ (HB _ hk.1) (by omega)
  rw [decide_eq_true ho] at hC
  have hF := Lib.hid (fun W (hW : Below w.heap.size w W) => fields_any _ c _ W (HB W hW) (by omega))
  have hi : ¬ (n : Int) < 20 := by omega
  have hi2 : (20 : Int) ≤ (c : Int) := by omega
  have HK := Lib.hid hk
  rw [rn_take _ (by omega), rn_take _ (by omega), getD_take (by omega), getD_take (by omega), ra_take _ (by omega), ra_take16] at hF
  unfold hv at hF ⊢
  clear hk h hs ho HB
  generalize rn xs 2 = l at *
  generalize rn xs 4 = i at *
  generalize xs.getD 8 0 = t at *
  generalize xs.getD 9 0 = p at *
  generalize ra xs 12 = f at *
  generalize ra xs 16 = g at *
  go_enter Tryd.func11, Tryd.ntmps11
  go_wp2_with (first
    | (go_at_call 27; refine hS.mono ?_; rintro e w1 ⟨rfl, rfl⟩)
    | (go_at_call 28; refine hC.mono ?_; rintro e w1 ⟨rfl, hb⟩
       have HK1 := Lib.hid (HK.out.next hb)
       clear hb)
    | (go_at_call 29; refine (hF.out _ HK1.out.1).mono ?_; rintro e w2 ⟨rfl, hb⟩
       have hk2 := HK1.out.next hb
       have hk3 : Keep w 25 6 (w2.alloc (.cells #[.int .i64 l, .int .i64 i, .int .i64 t, .int .i64 p, .int .u32 f, .int .u32 g] 25)) := hk2.next ((Below.refl _ _).alloc (Nat.le_refl _) _)
       obtain ⟨⟨t0, t1, t2, t3, t4, t5⟩, f0, f1, f2, f3, f4, f5⟩ := keep6 hk3
       have HK1 := Lib.hid hk3
       clear hb hk2 hk3))
  exact bodyPost_ret (v := .tuple #[.agg #[.int .i64 l, .int .i64 i, .int .i64 t, .int .i64 p, .int .u32 f, .int .u32 g], .nilIface]) (by simp [results, Tryd.results11, go_sem, t0, t1, t2, t3, t4, t5]) rfl ⟨rfl, (HK1.out.all6 _ _ _ _ _ _).1⟩
theorem read_any (hE : EnvE er w) (h : BR w A n xs) (hc : n ≤ c) :
    Calls Tryd.prog 11 #[.slice A n c] w fun e w' => e = .returned (.tuple #[rv xs, er (rcode xs)]) ∧ Below w.heap.size w w' := by
  have hl := h.len
  by_cases h20 : n < 20
  · have e : rcode xs = 101 := by unfold rcode; rw [if_pos (by omega)]
    unfold rv; rw [e, if_neg (by omega)]
    exact read_end er A n c w hE h20
  by_cases hs : rsh xs = true
  · by_cases ho : oc (tot (xs.take 20)) = 65535
    · by_cases hq : rn xs 2 < 20
      · have e : rcode xs = 103 := by unfold rcode; rw [if_neg (by omega), if_neg (by rw [hs]; simp), if_neg (by rw [ho]; simp), if_pos hq]
        unfold rv; rw [e, if_neg (by omega)]
        exact read_len er A n c xs w hE h (by omega) hc hs ho hq
      · have e : rcode xs = 0 := by unfold rcode; rw [if_neg (by omega), if_neg (by rw [hs]; simp), if_neg (by rw [ho]; simp), if_neg hq]
        unfold rv; rw [e, if_pos rfl, hE.1]
        exact read_ok A n c xs w h (by omega) hc hs ho (by omega)
    · have e : rcode xs = 105 := by unfold rcode; rw [if_neg (by omega), if_neg (by rw [hs]; simp), if_pos ho]
      unfold rv; rw [e, if_neg (by omega)]
      exact read_sum er A n c xs w hE h (by omega) hc hs ho
  · have hs' : rsh xs = false := by simpa using hs
    have e : rcode xs = 102 := by unfold rcode; rw [if_neg (by omega), if_pos hs']
    unfold rv; rw [e, if_neg (by omega)]
    exact read_shape er A n c xs w hE h (by omega) hc hs'
end
end Go.Proofs.YtgjpclmkjoghiaaDoor
