/- On a link a router is connected, at no cost; links within one another: the narrowest. -/
import Derived.Test.YtahnnaagpeinkaaGreatDoorRg
import Derived.RangeFuncBox
namespace Go.Proofs.YtahnnaagpeinkaaGreatDoor
open Go.RowKit Lx Sm Go.Maps Go.Sort Go.Shelf
def conLs (k : Nat) : List (List UInt8 × Int × Int) := (List.range k).map fun i : Nat => (nm 108 i, 167772160, 8 + 4 * (i : Int))
def conPs (k : Nat) : List (Int × Int × Int) := (List.range k).map fun i : Nat => (0, (i : Int), 167772160 + (i : Int) + 1)
def conCfg (n : Nat) : Cfg := ⟨[([97], 0)], conLs n, conPs n, [], [], [], []⟩
theorem conLs_len (k : Nat) : (conLs k).length = k := by simp [conLs]
theorem conPs_len (k : Nat) : (conPs k).length = k := by simp [conPs]
theorem conLs_s (k : Nat) : conLs (k + 1) = conLs k ++ [(nm 108 k, 167772160, 8 + 4 * (k : Int))] := by simp [conLs, List.range_succ]
theorem conPs_s (k : Nat) : conPs (k + 1) = conPs k ++ [(0, (k : Int), 167772160 + (k : Int) + 1)] := by simp [conPs, List.range_succ]
theorem con_valid : ∀ n : Fin 6, vcode (conCfg n.val) = 0 := by decide +kernel
theorem con_good : ∀ n : Fin 6, (∀ y ∈ conLs n.val, (0 ≤ y.2.1 ∧ y.2.1 ≤ 4294967295) ∧ 0 ≤ y.2.2 ∧ y.2.2 ≤ 32) ∧ (∀ y ∈ conPs n.val, (0 ≤ y.2.2 ∧ y.2.2 ≤ 4294967295) ∧ (0 ≤ y.1 ∧ y.1 < (conCfg n.val).rs.length ∧ 0 ≤ y.2.1 ∧ y.2.1 < (conCfg n.val).ls.length)) := by decide +kernel
theorem con_ribok (n : Nat) (h : n ≤ 5) : RibOK (conCfg n) :=
  ⟨fun y hy => ((con_good ⟨n, by omega⟩).1 y hy).2, fun y hy => ⟨((con_good ⟨n, by omega⟩).2 y hy).2.2.2.1, ((con_good ⟨n, by omega⟩).2 y hy).2.2.2.2⟩, fun y hy => (by cases hy), fun y hy => (by cases hy)⟩
theorem con_rn (n : Nat) : ∀ y ∈ (conCfg n).rs, (str y.1).size ≤ 281474976710656 := by
  intro y hy
  simp only [conCfg, List.mem_singleton] at hy
  subst hy
  show (1 : Nat) ≤ _
  decide
theorem con_ln (n : Nat) : ∀ y ∈ (conCfg n).ls, (str y.1).size ≤ 281474976710656 := by
  intro y hy
  simp only [conCfg, conLs, List.mem_map] at hy
  obtain ⟨i, _, rfl⟩ := hy
  show (2 : Nat) ≤ _
  decide
theorem con_near : ∀ n : Fin 6, 0 < n.val → ∀ j : Fin 24, (nearP (conCfg n.val) 0 (167772160 + 2 ^ (23 - j.val))).1 = [((min (j.val / 4) (n.val - 1) : Nat) : Int)] := by decide +kernel
theorem con_look : ∀ n : Fin 6, 0 < n.val → ∀ j : Fin 24, lookA (conCfg n.val) 0 (167772160 + 2 ^ (23 - j.val)) = ((((min (j.val / 4) (n.val - 1) : Nat) : Int), 0, 0), true) := by decide +kernel
theorem con_or : ∀ j : Fin 24, bits BinOp.or IntKind.u32 167772160 (2 ^ (23 - j.val) % 4294967296) = 167772160 + 2 ^ (23 - j.val) := by decide +kernel
set_option maxRecDepth 100000 in
theorem num_small (k : Nat) (h : k < 5) (w : World) :
    Calls Tryz.prog 22 #[.int .i64 (k : Int)] w fun e w' => e = .returned (.string (str [UInt8.ofNat (48 + k)])) ∧ Below w.heap.size w w' := by
  rcases (show k = 0 ∨ k = 1 ∨ k = 2 ∨ k = 3 ∨ k = 4 by omega) with rfl | rfl | rfl | rfl | rfl <;> (
    go_enter Tryz.func22, Tryz.ntmps22
    go_wp2
    go_ret
    exact ⟨by rfl, Below.refl _ _⟩)
theorem cat_small (k : Nat) (h : k < 5) : (⟨#[108]⟩ : ByteArray) ++ str [UInt8.ofNat (48 + k)] = str (nm 108 k) := by
  rcases (show k = 0 ∨ k = 1 ∨ k = 2 ∨ k = 3 ∨ k = 4 by omega) with rfl | rfl | rfl | rfl | rfl <;> rfl
/-- a network's variable whose links and ports grow -/
structure GL (w0 : World) (R vl vp : Value) (ls : List (List UInt8 × Int × Int)) (ps : List (Int × Int × Int)) (W : World) : Prop where
  blk : Blk W w0.heap.size 30 #[R, vl, vp, .slice none 0 0, .slice none 0 0, .slice none 0 0, .slice none 0 0]
  l : W.ownsRow w0.heap.size 72 3 vl ls.length (ls.flatMap CLink)
  p : W.ownsRow w0.heap.size 74 3 vp ps.length (ps.flatMap CPort)
  lo : Below w0.heap.size w0 W
theorem GL.step_l {w0 : World} {R vl vp v' : Value} {ls new : List (List UInt8 × Int × Int)} {ps : List (Int × Int × Int)} {W W2 : World} (h : GL w0 R vl vp ls ps W) (hg : W.grownBy W2 vl.ownBlock) (ho : W2.ownsRow w0.heap.size 72 3 v' (ls ++ new).length ((ls ++ new).flatMap CLink)) : GL w0 R v' vp (ls ++ new) ps (W2.setCell ⟨w0.heap.size, 1, none⟩ v') := by
  have hk := blk_by h.blk h.l hg (by decide)
  have hp := own_by h.p h.l hg (by decide)
  exact ⟨hk.set_to 1 v' rfl, ownk_far ho hk.slot (by decide), ownk_far hp hk.slot (by decide), (h.lo.grown hg h.lo.size (fun j e => (h.l.lt j e).1)).setCell (Nat.le_refl _) v'⟩
theorem GL.step_p {w0 : World} {R vl vp v' : Value} {ls : List (List UInt8 × Int × Int)} {ps new : List (Int × Int × Int)} {W W2 : World} (h : GL w0 R vl vp ls ps W) (hg : W.grownBy W2 vp.ownBlock) (ho : W2.ownsRow w0.heap.size 74 3 v' (ps ++ new).length ((ps ++ new).flatMap CPort)) : GL w0 R vl v' ls (ps ++ new) (W2.setCell ⟨w0.heap.size, 2, none⟩ v') := by
  have hk := blk_by h.blk h.p hg (by decide)
  have hl := own_by h.l h.p hg (by decide)
  exact ⟨hk.set_to 2 v' rfl, ownk_far hl hk.slot (by decide), ownk_far ho hk.slot (by decide), (h.lo.grown hg h.lo.size (fun j e => (h.p.lt j e).1)).setCell (Nat.le_refl _) v'⟩
theorem GL.next {w0 : World} {R vl vp : Value} {ls : List (List UInt8 × Int × Int)} {ps : List (Int × Int × Int)} {W W2 : World} (h : GL w0 R vl vp ls ps W) (hb : Below W.heap.size W W2) : GL w0 R vl vp ls ps W2 := ⟨h.blk.next hb, ownk_next h.l hb, ownk_next h.p hb, h.lo.trans (hb.mono h.lo.size)⟩
set_option maxHeartbeats 16000000 in
set_option maxRecDepth 100000 in
theorem law_rcon (ads : List Addr) (a0 a1 : Int) (w : World) (hE : EnvC ads w) :
    Calls Tryz.prog 8 #[.int .i64 a0, .int .i64 a1] w fun e w' => e = .returned (.bool true) ∧ Below w.heap.size w w' := by
  have HF := Lib.hid (first9_any ads w hE)
  have HE := Lib.hid hE
  obtain ⟨m0, hm0, h0⟩ : ∃ m0 : Nat, m0 < 5 ∧ a0 % 5 = (m0 : Int) := ⟨(a0 % 5).toNat, by omega, by omega⟩
  obtain ⟨m, hm⟩ : ∃ m : Nat, (m0 : Int) + 1 = (m : Int) := ⟨m0 + 1, by omega⟩
  obtain ⟨j, hj, h1⟩ : ∃ j : Nat, j < 24 ∧ a1 % 24 = (j : Int) := ⟨(a1 % 24).toNat, by omega, by omega⟩
  have hm5 : m ≤ 5 := by omega
  have hm1 : 0 < m := by omega
  have N0 := Lib.hid fun W => numb a0 5 m0 (by decide) (by decide) h0 W
  have N1 := Lib.hid fun W => numb a1 24 j (by decide) (by decide) h1 W
  clear hE h0 h1
  go_enter Tryz.func8, Tryz.ntmps8
  go_upto_region 6 with (first
    | (go_at_call 9; refine HF.out.mono ?_; rintro e w2 ⟨rfl, hb1⟩; have HB1 := Lib.hid hb1; clear hb1)
    | (go_at_call 19; refine (N0.out _).mono ?_; rintro e w9 ⟨rfl, rfl⟩))
  have HM := Lib.hid hm
  clear hm
  have HB3 := Lib.hid ((Below.refl w2.heap.size w2).alloc (Nat.le_refl _) (.cells #[.string ⟨#[97]⟩, .int .i64 0] 69))
  have HR0 := Lib.hid (Blk.new w2 69 #[.string ⟨#[97]⟩, .int .i64 0])
  have hz3 : w2.heap.size + 1 = (w2.alloc (.cells #[.string ⟨#[97]⟩, .int .i64 0] 69)).heap.size := by simp
  rw [hz3]
  clear hz3
  generalize w2.alloc (.cells #[.string ⟨#[97]⟩, .int .i64 0] 69) = w3 at *
  have HI0 : Hid (GL w3 (.slice (some ⟨w2.heap.size, 0, none⟩) 1 1) (.slice none 0 0) (.slice none 0 0) [] [] (w3.alloc (.cells #[.slice (some ⟨w2.heap.size, 0, none⟩) 1 1, .slice none 0 0, .slice none 0 0, .slice none 0 0, .slice none 0 0, .slice none 0 0, .slice none 0 0] 30))) := Lib.hid ⟨Blk.new _ _ _, by simpa using World.ownsRow_nil _ _ _ _, by simpa using World.ownsRow_nil _ _ _ _, (Below.refl _ _).alloc (Nat.le_refl _) _⟩
  generalize w3.alloc (.cells #[.slice (some ⟨w2.heap.size, 0, none⟩) 1 1, .slice none 0 0, .slice none 0 0, .slice none 0 0, .slice none 0 0, .slice none 0 0, .slice none 0 0] 30) = W5 at *
  go_wp2
  go_loopw [7] (fun i wr => ∃ (k : Nat) (vl vp : Value), k ≤ m ∧ i = .int .i64 k ∧ Hid (GL w3 (.slice (some ⟨w2.heap.size, 0, none⟩) 1 1) vl vp (conLs k) (conPs k) wr)) (fun i _ => m - (intOf i).toNat)
  case atStart => exact ⟨0, _, _, Nat.zero_le _, rfl, HI0⟩
  case round =>
    clear HI0
    obtain ⟨k, vl, vp, hk, rfl, HI⟩ := hrel
    rcases Nat.lt_or_ge k m with hlt | hge
    · have hi0 : (k : Int) < (m : Int) := by omega
      have hNm := fun W => num_small k (by omega) W
      have hCat : (⟨#[108]⟩ : ByteArray) ++ str [UInt8.ofNat (48 + k)] = str (nm 108 k) := cat_small k (by omega)
      have hDs : (str [UInt8.ofNat (48 + k)]).size = 1 := rfl
      generalize str [UInt8.ofNat (48 + k)] = D at *
      have HDs := Lib.hid hDs
      clear hDs
      have HNm := Lib.hid hNm
      have HCat := Lib.hid hCat
      clear hNm hCat
      go_wp2
      have CN : Hid (wr.cell? ⟨w3.heap.size, 1, none⟩ = some vl) := Lib.hid (HI.out.blk.cell 1)
      have RN : Hid (vl.ownBlock ≠ some w3.heap.size) := Lib.hid (row_not HI.out.blk HI.out.l (by decide))
      have HVO := Lib.hid HI.out.l
      have HVLT : Hid (∀ g, vl.ownBlock = some g → g < wr.heap.size) := Lib.hid fun g hg => (HVO.out.lt g hg).2
      have HLO5 : Hid (w3.heap.size ≤ wr.heap.size) := Lib.hid HI.out.lo.size
      have HLL : Hid ((conLs k).length ≤ 1000) := Lib.hid (by rw [conLs_len]; omega)
      refine wp_region_held_drew (S := fun _ => True) (by kernel_rfl) trivial (fun _ => ?_)
      refine wpAnyH_each (md := .any) (m := 1) (rem := [0, 1, 2, 3, 4, 5, 6, 7, 8, 9, 10, 11, 12]) (tail := [13]) (deps := fun i => match i with | 1 => [0] | 3 => [2] | 4 => [3] | 6 => [5] | 7 => [6] | 8 => [7] | 9 => [4, 8] | 10 => [9] | 11 => [1, 10] | _ => []) (Tg wr vl.ownBlock 11) (Kl vl.ownBlock 11)
        (fun ix ds v W => match ix with | 0 => v = .pointer (some ⟨w3.heap.size, 1, none⟩) | 1 => v = vl | 2 => v = .int .i64 (k : Int) | 3 => v = .string D | 4 => v = .string (str (nm 108 k)) | 5 => v = .int .i64 (k : Int) | 6 => v = .int .i64 (4 * (k : Int)) | 7 => v = .int .i64 (8 + 4 * (k : Int)) | 8 => v = .agg #[.int .u32 167772160, .int .i64 (8 + 4 * (k : Int))] | 9 => v = .agg #[.string (str (nm 108 k)), .int .u32 167772160, .int .i64 (8 + 4 * (k : Int))] | 10 => ∃ h, v = .slice (some ⟨h, 0, none⟩) 1 1 ∧ wr.heap.size ≤ h ∧ Blk W h 72 #[.string (str (nm 108 k)), .int .u32 167772160, .int .i64 (8 + 4 * (k : Int))] | 11 => W.ownsRow w3.heap.size 72 3 v ((conLs k) ++ [(nm 108 k, 167772160, 8 + 4 * (k : Int))]).length (((conLs k) ++ [(nm 108 k, 167772160, 8 + 4 * (k : Int))]).flatMap CLink) | 12 => v = .pointer (some ⟨w3.heap.size, 1, none⟩) | _ => True) (eachB_spec (by kernel_rfl)) (fun _ _ _ _ _ _ _ h k => h.stepl k) (fun _ _ _ => trivial) ?_ (fun _ _ _ _ => True) (fun _ _ _ _ _ _ _ _ _ _ _ _ _ _ => ⟨trivial, trivial⟩) ?_ ?_ (Tg.nil (Below.refl _ _).drew)
      · intro i hi j _ hij hjd ds v u l W W' _ _ hk h
        simp only [List.mem_cons, List.not_mem_nil, or_false] at hi
        rcases hi with rfl | rfl | rfl | rfl | rfl | rfl | rfl | rfl | rfl | rfl | rfl | rfl | rfl
        · exact h
        · exact h
        · exact h
        · exact h
        · exact h
        · exact h
        · exact h
        · exact h
        · exact h
        · exact h
        · obtain ⟨h', e, hs, hb⟩ := h
          exact ⟨h', e, hs, (hk.grown.block h' hb.lt (fun e => by have := HVLT.out h' e.symm; omega)).trans hb⟩
        · exact ownk_next h (hk.below (Ne.symm hij))
        · exact h
      · refine AllO.cons [] rfl rfl (fun vs l W hl hT hd => ?_) ?_
        · dsimp only [lay, List.foldl, List.map, dstOf]
          go_wp2
          exact ⟨rfl, _, rfl, Kl.mk (by decide) (Below.refl _ _), rfl⟩
        refine AllO.cons [0] rfl rfl (fun vs l W hl hT hd => ?_) ?_
        · have e0 : vs 0 = .pointer (some ⟨w3.heap.size, 1, none⟩) := hd 0 (by simp)
          have c3 : W.cell? ⟨w3.heap.size, 1, none⟩ = some vl := hT.cell CN.out RN.out
          dsimp only [lay, List.foldl, List.map, dstOf]
          rw [e0]
          go_wp2
          exact ⟨rfl, _, rfl, Kl.mk (by decide) (Below.refl _ _), rfl⟩
        refine AllO.cons [] rfl rfl (fun vs l W hl hT hd => ?_) ?_
        · dsimp only [lay, List.foldl, List.map, dstOf]
          go_wp2
          exact ⟨rfl, _, rfl, Kl.mk (by decide) (Below.refl _ _), rfl⟩
        refine AllO.cons [2] rfl rfl (fun vs l W hl hT hd => ?_) ?_
        · have e2 : vs 2 = .int .i64 (k : Int) := hd 2 (by simp)
          have hC := Lib.hid (HNm.out W)
          dsimp only [lay, List.foldl, List.map, dstOf]
          rw [e2]
          go_wp2_with (go_at_call 22; refine hC.out.mono ?_; rintro e w1 ⟨rfl, hb1⟩)
          exact ⟨rfl, _, rfl, Kl.mk (by decide) hb1, rfl⟩
        refine AllO.cons [3] rfl rfl (fun vs l W hl hT hd => ?_) ?_
        · have e3 : vs 3 = .string D := hd 3 (by simp)
          have hcat := HCat.out
          have hds := HDs.out
          dsimp only [lay, List.foldl, List.map, dstOf]
          rw [e3]
          go_wp2
          exact ⟨rfl, _, rfl, Kl.mk (by decide) (Below.refl _ _), rfl⟩
        refine AllO.cons [] rfl rfl (fun vs l W hl hT hd => ?_) ?_
        · dsimp only [lay, List.foldl, List.map, dstOf]
          go_wp2
          exact ⟨rfl, _, rfl, Kl.mk (by decide) (Below.refl _ _), rfl⟩
        refine AllO.cons [5] rfl rfl (fun vs l W hl hT hd => ?_) ?_
        · have e5 : vs 5 = .int .i64 (k : Int) := hd 5 (by simp)
          dsimp only [lay, List.foldl, List.map, dstOf]
          rw [e5]
          go_wp2
          exact ⟨rfl, _, rfl, Kl.mk (by decide) (Below.refl _ _), rfl⟩
        refine AllO.cons [6] rfl rfl (fun vs l W hl hT hd => ?_) ?_
        · have e6 : vs 6 = .int .i64 (4 * (k : Int)) := hd 6 (by simp)
          dsimp only [lay, List.foldl, List.map, dstOf]
          rw [e6]
          go_wp2
          exact ⟨rfl, _, rfl, Kl.mk (by decide) (Below.refl _ _), rfl⟩
        refine AllO.cons [7] rfl rfl (fun vs l W hl hT hd => ?_) ?_
        · have e7 : vs 7 = .int .i64 (8 + 4 * (k : Int)) := hd 7 (by simp)
          dsimp only [lay, List.foldl, List.map, dstOf]
          rw [e7]
          go_wp2
          exact ⟨rfl, _, rfl, Kl.mk (by decide) (Below.refl _ _), rfl⟩
        refine AllO.cons [4, 8] rfl rfl (fun vs l W hl hT hd => ?_) ?_
        · have e4 : vs 4 = .string (str (nm 108 k)) := hd 4 (by simp)
          have e8 : vs 8 = .agg #[.int .u32 167772160, .int .i64 (8 + 4 * (k : Int))] := hd 8 (by simp)
          dsimp only [lay, List.foldl, List.map, dstOf]
          rw [e4, e8]
          go_wp2
          exact ⟨rfl, _, rfl, Kl.mk (by decide) (Below.refl _ _), rfl⟩
        refine AllO.cons [9] rfl rfl (fun vs l W hl hT hd => ?_) ?_
        · have e9 : vs 9 = .agg #[.string (str (nm 108 k)), .int .u32 167772160, .int .i64 (8 + 4 * (k : Int))] := hd 9 (by simp)
          dsimp only [lay, List.foldl, List.map, dstOf]
          rw [e9]
          go_wp2
          exact ⟨rfl, _, rfl, Kl.mk (by decide) ((Below.refl _ _).alloc (Nat.le_refl _) _), _, rfl, hT.grown.size, Blk.new _ _ _⟩
        refine AllO.cons [1, 10] rfl rfl (fun vs l W hl hT hd => ?_) ?_
        · have e1 : vs 1 = vl := hd 1 (by simp)
          obtain ⟨h', e10, hs', hb'⟩ := hd 10 (by simp)
          dsimp only [lay, List.foldl, List.map, dstOf]
          rw [e1, e10]
          obtain ⟨i0, z0, hi, hz, hzs, hsz, hby⟩ := info_link
          have hbp := hT.pre hl
          refine wpList_append_own_at _ rfl _ _ 23 rfl w3.heap.size 72 i0 z0 3 32 Tryz.underlying23 hi hz hsz hby hzs (by decide) vl (conLs k).length ((conLs k).flatMap CLink) (by rfl) (ownk_next HVO.out hbp) ⟨h', 0, none⟩ 1 1 ([(nm 108 k, 167772160, 8 + 4 * (k : Int))].flatMap CLink) (by rfl) (by rfl) (blk_news hb' (by rfl)) (fun u hu => by
            obtain ⟨y, _, hy⟩ := List.mem_flatMap.1 hu
            exact link_one y u hy) (by have := HLL.out; unfold maxLen; omega) (by have := HLL.out; omega) (Nat.le_trans HLO5.out hT.grown.size) ?_
          intro v' w' hown hg _ _
          refine wpList_nil ?_
          exact ⟨rfl, _, rfl, Kl.app hg, by rw [List.length_append, List.flatMap_append]; exact hown⟩
        refine AllO.cons [] rfl rfl (fun vs l W hl hT hd => ?_) AllO.nil
        · dsimp only [lay, List.foldl, List.map, dstOf]
          go_wp2
          exact ⟨rfl, _, rfl, Kl.mk (by decide) (Below.refl _ _), rfl⟩
      · intro vs l W hall hT hF _ aE LE ha hL
        have e0 : vs 0 = .pointer (some ⟨w3.heap.size, 1, none⟩) := hF 0 (by simp)
        have e1 : vs 1 = vl := hF 1 (by simp)
        have e2 : vs 2 = .int .i64 (k : Int) := hF 2 (by simp)
        have e3 : vs 3 = .string D := hF 3 (by simp)
        have e4 : vs 4 = .string (str (nm 108 k)) := hF 4 (by simp)
        have e5 : vs 5 = .int .i64 (k : Int) := hF 5 (by simp)
        have e6 : vs 6 = .int .i64 (4 * (k : Int)) := hF 6 (by simp)
        have e7 : vs 7 = .int .i64 (8 + 4 * (k : Int)) := hF 7 (by simp)
        have e8 : vs 8 = .agg #[.int .u32 167772160, .int .i64 (8 + 4 * (k : Int))] := hF 8 (by simp)
        have e9 : vs 9 = .agg #[.string (str (nm 108 k)), .int .u32 167772160, .int .i64 (8 + 4 * (k : Int))] := hF 9 (by simp)
        have e12 : vs 12 = .pointer (some ⟨w3.heap.size, 1, none⟩) := hF 12 (by simp)
        obtain ⟨hbs, e10, -, -⟩ := hF 10 (by simp)
        have hown16 := hF 11 (by simp)
        have hL' : LE = #[true, true, true, true, true, true, true, true, true, true, true, true, true, false] := hL.trans (by kernel_rfl)
        dsimp only [lay, List.foldl, dstOf] at ha
        rw [e0, e1, e2, e3, e4, e5, e6, e7, e8, e9, e10, e12] at ha
        clear e0 e1 e2 e3 e4 e5 e6 e7 e8 e9 e10 e12 hL hF
        subst ha hL'
        generalize vs 11 = v16 at *
        obtain ⟨g16, cap16, rfl⟩ := own_some hown16 (by simp only [List.length_append, List.length_cons]; omega)
        have c13 : W.cell? ⟨w3.heap.size, 1, none⟩ = some vl := hT.cell CN.out RN.out
        have f13 : W.frozen? ⟨w3.heap.size, 1, none⟩ = false := (hT.blk HI.out.blk RN.out).frozen _
        have HI6 := Lib.hid (HI.out.step_l hT.grown hown16)
        refine wpAnyH_ready (rs := [13]) (by kernel_rfl) (by simp) ?_
        refine AllReadyH.cons rfl (fun K hK => ?_) AllReadyH.nil
        generalize ((conLs k) ++ [(nm 108 k, 167772160, 8 + 4 * (k : Int))]).length = LN at *
        go_simp
        refine hK.out _ _ trivial (fun _ => ?_)
        clear hK
        clear K
        refine wpAnyH_done (by kernel_rfl) ?_ _
        clear c13 f13 hown16 hall hT
        generalize W.setCell ⟨w3.heap.size, 1, none⟩ (.slice (some ⟨g16, 0, none⟩) LN cap16) = W6 at *
        clear CN RN HVO HVLT HLO5 HLL
        rw [← conLs_s] at HI6
        obtain ⟨i0, z0, hi, hz, hzs, hsz, hby⟩ := info_port
        have q2 : W6.cell? ⟨w3.heap.size, 2, none⟩ = some vp := HI6.out.blk.cell 2
        have hpl : (conPs k).length ≤ 5 := by rw [conPs_len]; omega
        go_wp2_with (
          at_builtin
          refine wpList_append_own _ rfl _ _ 24 rfl w3.heap.size 74 i0 z0 3 24 Tryz.underlying24 hi hz hsz hby hzs (by decide) vp (conPs k).length ((conPs k).flatMap CPort) rfl (HI6.out.p.alloc _) ⟨W6.heap.size, 0, none⟩ 1 1 ([(0, (k : Int), 167772160 + (k : Int) + 1)].flatMap CPort) rfl rfl (blk_news (Blk.new _ _ _) rfl) (fun u hu => by
            obtain ⟨y, _, hy⟩ := List.mem_flatMap.1 hu
            exact port_one y u hy) (by unfold maxLen; omega) (by omega) (by have := HI6.out.lo.size; simp; omega) ?_
          intro v' wz hown1 hgrow1 _
          have hown2 : wz.ownsRow w3.heap.size 74 3 v' (conPs k ++ [(0, (k : Int), 167772160 + (k : Int) + 1)]).length ((conPs k ++ [(0, (k : Int), 167772160 + (k : Int) + 1)]).flatMap CPort) := by rw [List.length_append, List.flatMap_append]; exact hown1
          obtain ⟨Aq, cq, rfl, _, _⟩ := IR.of_own port_len hown2
          have HG := Lib.hid ((HI6.out.next ((Below.refl _ _).alloc (Nat.le_refl _) _)).step_p hgrow1 hown2)
          have hk2 := blk_by (HI6.out.blk.alloc _) (HI6.out.p.alloc _) hgrow1 (by decide)
          have u2 : wz.cell? ⟨w3.heap.size, 2, none⟩ = some vp := hk2.cell 2
          have z2 : wz.frozen? ⟨w3.heap.size, 2, none⟩ = false := hk2.frozen 2
          clear hk2 hown1 hown2 hgrow1)
        clear u2 z2 q2
        rw [← conPs_s] at HG
        have hlen : (conPs (k + 1)).length = (conPs k).length + 1 := by rw [conPs_len, conPs_len]
        rw [hlen] at HG
        clear hlen
        go_roundw
        case rel => exact ⟨k + 1, _, _, by omega, by go_num, HG⟩
        case measure => simp [intOf]; omega
    · obtain rfl : k = m := by omega
      have hi0 : ¬ ((k : Int) < (k : Int)) := by omega
      obtain ⟨Al, cl, rfl, hcl, hil⟩ := IR.of_own link_len HI.out.l
      obtain ⟨Ap, cp, rfl, hcp, hip⟩ := IR.of_own port_len HI.out.p
      have hirr : IRouter wr (some ⟨w2.heap.size, 0, none⟩) 1 [([97], 0)] := by
        have hb := HR0.out.next HI.out.lo
        exact ⟨rfl, fun _ => ⟨_, 0, rfl, hb.lt, fun i x hx q v hv => by
          obtain rfl : i = 0 := by
            rcases i with _ | i
            · rfl
            · simp at hx
          simp only [List.getElem?_cons_zero, Option.some.injEq] at hx
          subst hx
          rw [Nat.zero_mul, Nat.add_zero, Nat.zero_add, hb.cell]
          rcases q with _ | _ | q
          · simp only [CRouter, List.getElem?_cons_zero] at hv
            exact hv
          · simpa [CRouter] using hv
          · simp [CRouter] at hv⟩⟩
      have hcw : CW wr ⟨⟨some ⟨w2.heap.size, 0, none⟩, 1, 1⟩, ⟨Al, (conLs k).length, cl⟩, ⟨Ap, (conPs k).length, cp⟩, ⟨none, 0, 0⟩, ⟨none, 0, 0⟩, ⟨none, 0, 0⟩, ⟨none, 0, 0⟩⟩ (conCfg k) :=
        ⟨hirr, hil, hip, IR.none_ _ _ _ _, IR.none_ _ _ _ _, IR.none_ _ _ _ _, IR.none_ _ _ _ _, ⟨Nat.le_refl _, by show (1 : Nat) ≤ 1000000; decide⟩, ⟨hcl, by show (conLs k).length ≤ 1000000; rw [conLs_len]; omega⟩, ⟨hcp, by show (conPs k).length ≤ 1000000; rw [conPs_len]; omega⟩, ⟨Nat.le_refl _, by show (0 : Nat) ≤ 1000000; decide⟩, ⟨Nat.le_refl _, by show (0 : Nat) ≤ 1000000; decide⟩, ⟨Nat.le_refl _, by show (0 : Nat) ≤ 1000000; decide⟩, ⟨Nat.le_refl _, by show (0 : Nat) ≤ 1000000; decide⟩, fun y hy => (by cases hy),
          ⟨fun y hy => ((con_good ⟨k, by omega⟩).1 y hy).1, fun y hy => ((con_good ⟨k, by omega⟩).2 y hy).1, fun y hy => (by cases hy), fun y hy => (by cases hy), fun y hy => (by cases hy), fun y hy => (by cases hy)⟩⟩
      have HBr := Lib.hid ((HB1.out.trans (HB3.out.mono HB1.out.size)).trans (HI.out.lo.mono (Nat.le_trans HB1.out.size HB3.out.size)))
      have HNW := Lib.hid (new_ok ads _ (conCfg k) [] wr (HE.out.below HBr.out) hcw (con_valid ⟨k, by omega⟩) (con_rn k) (con_ln k) (fun W _ => groups0_any _ W rfl rfl) (fun y hy => ((con_good ⟨k, by omega⟩).2 y hy).2) (fun y hy => (by cases hy)))
      dsimp only at HNW
      have HRO := Lib.hid (con_ribok k hm5)
      have HN := Lib.hid HI.out.blk
      have n0 : wr.cell? ⟨w3.heap.size, 0, none⟩ = some (.slice (some ⟨w2.heap.size, 0, none⟩) 1 1) := HN.out.cell 0
      have n1 : wr.cell? ⟨w3.heap.size, 1, none⟩ = some (.slice Al (conLs k).length cl) := HN.out.cell 1
      have n2 : wr.cell? ⟨w3.heap.size, 2, none⟩ = some (.slice Ap (conPs k).length cp) := HN.out.cell 2
      have n3 : wr.cell? ⟨w3.heap.size, 3, none⟩ = some (.slice none 0 0) := HN.out.cell 3
      have n4 : wr.cell? ⟨w3.heap.size, 4, none⟩ = some (.slice none 0 0) := HN.out.cell 4
      have n5 : wr.cell? ⟨w3.heap.size, 5, none⟩ = some (.slice none 0 0) := HN.out.cell 5
      have n6 : wr.cell? ⟨w3.heap.size, 6, none⟩ = some (.slice none 0 0) := HN.out.cell 6
      clear hcw hirr hil hip hcl hcp
      go_upto_region 15 with (first
        | (go_at_call 19; refine (N1.out _).mono ?_; rintro e w9 ⟨rfl, rfl⟩)
        | (go_at_call 11; refine HNW.out.mono ?_; rintro e w6 ⟨T, x', rfl, hT, hal, hb6⟩; have HT := Lib.hid hT; have HAL := Lib.hid hal; have HB6 := Lib.hid (below_next HBr.out hb6); clear hT hal hb6))
      clear n0 n1 n2 n3 n4 n5 n6
      have hor : bits BinOp.or IntKind.u32 167772160 ((2 : Int) ^ (23 - j) % 4294967296) = 167772160 + 2 ^ (23 - j) := con_or ⟨j, hj⟩
      have hl1 := con_look ⟨k, by omega⟩ hm1 ⟨j, hj⟩
      have hn1 := con_near ⟨k, by omega⟩ hm1 ⟨j, hj⟩
      dsimp only at hl1 hn1
      obtain ⟨p, hp⟩ : ∃ p : Nat, min (j / 4) (k - 1) = p := ⟨_, rfl⟩
      obtain ⟨aa, haa⟩ : ∃ aa, (167772160 + 2 ^ (23 - j) : Int) = aa := ⟨_, rfl⟩
      rw [haa, hp] at hl1 hn1
      rw [haa] at hor
      have hq4 : (j : Int).tdiv 4 = ((j / 4 : Nat) : Int) := by rw [Int.tdiv_eq_ediv_of_nonneg (by omega)]; rfl
      have hw1 : wrap64 ((k : Int) - 1) = ((k - 1 : Nat) : Int) := by unfold wrap64; omega
      have hmin : min ((j / 4 : Nat) : Int) ((k - 1 : Nat) : Int) = (p : Int) := by omega
      have HLK := Lib.hid fun W (hW : Below w6.heap.size w6 W) => look_at HAL.out HRO.out (con_rn k) (con_ln k) 0 aa W (HT.out.next hW)
      rw [hl1] at HLK
      dsimp only at HLK
      have hnp : nearP (conCfg k) 0 aa = ((p : Int) :: [], (nearP (conCfg k) 0 aa).2) := Prod.ext hn1 rfl
      have HCO := Lib.hid fun W (hW : Below w6.heap.size w6 W) => connected_at HAL.out HRO.out (con_rn k) (con_ln k) 0 aa W (HT.out.next hW) hnp
      clear hl1 hn1 haa hnp
      go_upto_region 17 with fail
      go_wp2_with (first
        | (go_at_call 12; refine (HCO.out _ (Below.refl _ _)).mono ?_; rintro e w7 ⟨rfl, hb7⟩; have HB7 := Lib.hid hb7; clear hb7)
        | (go_at_call 14; refine (HLK.out _ HB7.out).mono ?_; rintro e w8 ⟨rfl, hb8⟩; have HB8 := Lib.hid (HB7.out.trans (hb8.mono HB7.out.size)); clear hb8))
      go_ret
      exact ⟨rfl, HB6.out.trans ((HB8.out.alloc HB8.out.size _).mono HB6.out.size)⟩
end Go.Proofs.YtahnnaagpeinkaaGreatDoor

