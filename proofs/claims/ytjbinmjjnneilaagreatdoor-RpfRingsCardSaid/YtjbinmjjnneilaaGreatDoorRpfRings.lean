/- Routers that each send by the next one, in a ring, go round. -/
import Derived.Test.YtjbinmjjnneilaaGreatDoorRpf
import Derived.Test.YtjbinmjjnneilaaGreatDoorGr
import Derived.Test.YtjbinmjjnneilaaGreatDoorSd
import Derived.RangeFuncBox
namespace Go.Proofs.YtjbinmjjnneilaaGreatDoor
open Go.RowKit Lx Sm Go.Maps Go.Sort Go.Shelf
def prRs (k : Nat) : List (List UInt8 × Int) := (List.range k).map fun i : Nat => (nm 114 i, 0)
def prPs (k : Nat) : List (Int × Int × Int) := (List.range k).map fun i : Nat => ((i : Int), 0, adr 0 (i + 1))
def prOs (m k : Nat) : List (Int × Int × Int × Int × Int) := (List.range k).map fun i : Nat => ((i : Int), adr 1 0, 24, adr 0 ((i + 1) % m + 1), 0)
def prSs (s : Bool) : List (Int × Int × Int) := if s then [(1, adr 1 200, 3758161921)] else []
def prCfg (n : Nat) (s : Bool) : Cfg := ⟨prRs n, lsK 2, prPs n, prOs n n, [], prSs s, []⟩
theorem prRs_len (k : Nat) : (prRs k).length = k := by simp [prRs]
theorem prPs_len (k : Nat) : (prPs k).length = k := by simp [prPs]
theorem prOs_len (m k : Nat) : (prOs m k).length = k := by simp [prOs]
theorem prRs_s (k : Nat) : prRs (k + 1) = prRs k ++ [(nm 114 k, 0)] := by simp [prRs, List.range_succ]
theorem prPs_s (k : Nat) : prPs (k + 1) = prPs k ++ [((k : Int), 0, adr 0 (k + 1))] := by simp [prPs, List.range_succ]
theorem prOs_s (m k : Nat) : prOs m (k + 1) = prOs m k ++ [((k : Int), adr 1 0, 24, adr 0 ((k + 1) % m + 1), 0)] := by simp [prOs, List.range_succ]
theorem pr_valid : ∀ n : Fin 7, ∀ s : Bool, 1 < n.val → vcode (prCfg n.val s) = 0 := by decide +kernel
theorem pr_chain : ∀ n : Fin 7, ∀ s : Bool, ∀ q : Fin 7, q.val < n.val → 1 < n.val → chainA (prCfg n.val s) (q.val : Int) (adr 1 200) = ([], false) := by decide +kernel
theorem pr_to : ∀ n : Fin 7, ∀ s : Bool, ∀ q : Fin 7, q.val < n.val → 1 < n.val → toA (prCfg n.val s) (q.val : Int) (adr 1 200) = (((q.val : Int), (((q.val + 1) % n.val : Nat) : Int), 0, false), true) := by decide +kernel
theorem pr_round : ∀ n : Fin 7, ∀ s : Bool, 1 < n.val → roundA (prCfg n.val s) = s := by decide +kernel
theorem pr_good : ∀ n : Fin 7, 1 < n.val → (∀ y ∈ prPs n.val, 0 ≤ y.1 ∧ y.1 < (n.val : Int) ∧ 0 ≤ y.2.1 ∧ y.2.1 < 2 ∧ 0 ≤ y.2.2 ∧ y.2.2 ≤ 4294967295) ∧ (∀ y ∈ prOs n.val n.val, 0 ≤ y.2.2.1 ∧ y.2.2.1 ≤ 32 ∧ 0 ≤ y.2.2.2.2 ∧ y.2.2.2.2 ≤ 65535 ∧ 0 ≤ y.2.1 ∧ y.2.1 ≤ 4294967295 ∧ 0 ≤ y.2.2.2.1 ∧ y.2.2.2.1 ≤ 4294967295) := by decide +kernel
theorem pr_rn (n : Nat) (s : Bool) : ∀ y ∈ (prCfg n s).rs, (str y.1).size ≤ 281474976710656 := by
  intro y hy
  simp only [prCfg, prRs, List.mem_map] at hy
  obtain ⟨i, _, rfl⟩ := hy
  show (2 : Nat) ≤ _
  decide
theorem pr_ln (n : Nat) (s : Bool) : ∀ y ∈ (prCfg n s).ls, (str y.1).size ≤ 281474976710656 := line_ln 1 0
theorem pr_ribok (n : Nat) (s : Bool) (h1 : 1 < n) (h7 : n < 7) : RibOK (prCfg n s) :=
  ⟨(line_ribok (n := 1) (by decide)).l, fun y hy => ⟨((pr_good ⟨n, h7⟩ h1).1 y hy).2.2.1, ((pr_good ⟨n, h7⟩ h1).1 y hy).2.2.2.1⟩, fun y hy => ⟨((pr_good ⟨n, h7⟩ h1).2 y hy).1, ((pr_good ⟨n, h7⟩ h1).2 y hy).2.1⟩, fun y hy => ⟨((pr_good ⟨n, h7⟩ h1).2 y hy).2.2.1, ((pr_good ⟨n, h7⟩ h1).2 y hy).2.2.2.1⟩⟩
theorem pr_ports (n : Nat) (s : Bool) (h1 : 1 < n) (h7 : n < 7) : ∀ y ∈ (prCfg n s).ps, 0 ≤ y.1 ∧ y.1 < (prCfg n s).rs.length ∧ 0 ≤ y.2.1 ∧ y.2.1 < (prCfg n s).ls.length := fun y hy => by
  have h := (pr_good ⟨n, h7⟩ h1).1 y hy
  refine ⟨h.1, ?_, h.2.2.1, h.2.2.2.1⟩
  show y.1 < ((prRs n).length : Int)
  rw [prRs_len]
  exact h.2.1
theorem num_ring (k : Nat) (h : k < 7) (w : World) :
    Calls Tryz.prog 14 #[.int .i64 (k : Int)] w fun e w' => e = .returned (.string (str [UInt8.ofNat (48 + k)])) ∧ Below w.heap.size w w' := by
  rcases (show k = 0 ∨ k = 1 ∨ k = 2 ∨ k = 3 ∨ k = 4 ∨ k = 5 ∨ k = 6 by omega) with rfl | rfl | rfl | rfl | rfl | rfl | rfl <;> (
    go_enter Tryz.func14, Tryz.ntmps14
    go_wp2
    go_ret
    exact ⟨by rfl, Below.refl _ _⟩)
theorem cat_ring (k : Nat) (h : k < 7) : (⟨#[114]⟩ : ByteArray) ++ str [UInt8.ofNat (48 + k)] = str (nm 114 k) := by
  rcases (show k = 0 ∨ k = 1 ∨ k = 2 ∨ k = 3 ∨ k = 4 ∨ k = 5 ∨ k = 6 by omega) with rfl | rfl | rfl | rfl | rfl | rfl | rfl <;> rfl
theorem flatI_at {α : Type} {enc : α → List Value} {k j : Nat} {v : Value} (hk : ∀ x, (enc x).length = k) : ∀ (ys : List α) (i : Nat) (x : α), ys[i]? = some x → (enc x)[j]? = some v → (ys.flatMap enc)[i * k + j]? = some v
  | [], i, x, h, _ => by simp at h
  | y :: ys, i, x, h, hj => by
    rw [List.flatMap_cons]
    cases i with
    | zero =>
      simp only [List.getElem?_cons_zero, Option.some.injEq] at h
      subst h
      rw [Nat.zero_mul, Nat.zero_add, List.getElem?_append_left (List.getElem?_eq_some_iff.1 hj).1]
      exact hj
    | succ i =>
      simp only [List.getElem?_cons_succ] at h
      rw [List.getElem?_append_right (by rw [hk, Nat.succ_mul]; omega), hk, show (i + 1) * k + j - k = i * k + j by rw [Nat.succ_mul]; omega]
      exact flatI_at hk ys i x h hj
theorem ir_of_blk {α : Type} {enc : α → List Value} {k : Nat} {w : World} {n : Nat} {xs : List α} {g : Nat} {t : TypeId} {cs : Array Value} (hk : ∀ x, (enc x).length = k) (h : Blk w g t cs) (e : cs.toList = xs.flatMap enc) (hn : xs.length = n) :
    IR enc k w (some ⟨g, 0, none⟩) n xs :=
  ⟨hn, fun _ => ⟨g, 0, rfl, h.lt, fun i x hx j v hv => by
    rw [Nat.zero_add, h.cell, ← Array.getElem?_toList, e]
    exact flatI_at hk xs i x hx hv⟩⟩
/-- a network's variable whose routers, ports and routes grow -/
structure PG (w0 : World) (L vr vp vo : Value) (rs : List (List UInt8 × Int)) (ps : List (Int × Int × Int)) (os : List (Int × Int × Int × Int × Int)) (W : World) : Prop where
  blk : Blk W w0.heap.size 37 #[vr, L, vp, vo, .slice none 0 0, .slice none 0 0, .slice none 0 0]
  r : W.ownsRow w0.heap.size 55 2 vr rs.length (rs.flatMap CRouter)
  p : W.ownsRow w0.heap.size 57 3 vp ps.length (ps.flatMap CPort)
  o : W.ownsRow w0.heap.size 60 5 vo os.length (os.flatMap CRoute)
  lo : Below w0.heap.size w0 W
section
variable {w0 : World} {L vr vp vo v' : Value} {rs : List (List UInt8 × Int)} {ps : List (Int × Int × Int)} {os : List (Int × Int × Int × Int × Int)} {W W2 : World}
theorem PG.step_r {new : List (List UInt8 × Int)} (h : PG w0 L vr vp vo rs ps os W) (hg : W.grownBy W2 vr.ownBlock) (ho : W2.ownsRow w0.heap.size 55 2 v' (rs ++ new).length ((rs ++ new).flatMap CRouter)) : PG w0 L v' vp vo (rs ++ new) ps os (W2.setCell ⟨w0.heap.size, 0, none⟩ v') := by
  have hk := blk_by h.blk h.r hg (by decide)
  exact ⟨hk.set_to 0 v' rfl, ownk_far ho hk.slot (by decide), ownk_far (own_by h.p h.r hg (by decide)) hk.slot (by decide), ownk_far (own_by h.o h.r hg (by decide)) hk.slot (by decide), (h.lo.grown hg h.lo.size (fun j e => (h.r.lt j e).1)).setCell (Nat.le_refl _) v'⟩
theorem PG.step_p {new : List (Int × Int × Int)} (h : PG w0 L vr vp vo rs ps os W) (hg : W.grownBy W2 vp.ownBlock) (ho : W2.ownsRow w0.heap.size 57 3 v' (ps ++ new).length ((ps ++ new).flatMap CPort)) : PG w0 L vr v' vo rs (ps ++ new) os (W2.setCell ⟨w0.heap.size, 2, none⟩ v') := by
  have hk := blk_by h.blk h.p hg (by decide)
  exact ⟨hk.set_to 2 v' rfl, ownk_far (own_by h.r h.p hg (by decide)) hk.slot (by decide), ownk_far ho hk.slot (by decide), ownk_far (own_by h.o h.p hg (by decide)) hk.slot (by decide), (h.lo.grown hg h.lo.size (fun j e => (h.p.lt j e).1)).setCell (Nat.le_refl _) v'⟩
theorem PG.step_o {new : List (Int × Int × Int × Int × Int)} (h : PG w0 L vr vp vo rs ps os W) (hg : W.grownBy W2 vo.ownBlock) (ho : W2.ownsRow w0.heap.size 60 5 v' (os ++ new).length ((os ++ new).flatMap CRoute)) : PG w0 L vr vp v' rs ps (os ++ new) (W2.setCell ⟨w0.heap.size, 3, none⟩ v') := by
  have hk := blk_by h.blk h.o hg (by decide)
  exact ⟨hk.set_to 3 v' rfl, ownk_far (own_by h.r h.o hg (by decide)) hk.slot (by decide), ownk_far (own_by h.p h.o hg (by decide)) hk.slot (by decide), ownk_far ho hk.slot (by decide), (h.lo.grown hg h.lo.size (fun j e => (h.o.lt j e).1)).setCell (Nat.le_refl _) v'⟩
end
set_option maxHeartbeats 16000000 in
set_option maxRecDepth 100000 in
theorem law_prings (ads : List Addr) (a0 a1 : Int) (s : Bool) (w : World) (hE : EnvC ads w) :
    Calls Tryz.prog 4 #[.int .i64 a0, .int .i64 a1, .bool s] w fun e w' => e = .returned (.bool true) ∧ Below w.heap.size w w' := by
  have HF := Lib.hid (first11_any ads w hE)
  have HE := Lib.hid hE
  obtain ⟨m0, hm0, h0⟩ : ∃ m0 : Nat, m0 < 5 ∧ a0 % 5 = (m0 : Int) := ⟨(a0 % 5).toNat, by omega, by omega⟩
  obtain ⟨m, hm⟩ : ∃ m : Nat, (m0 : Int) + 2 = (m : Int) := ⟨m0 + 2, by omega⟩
  obtain ⟨q, hq, h1⟩ : ∃ q : Nat, q < m ∧ a1 % (m : Int) = (q : Int) := ⟨(a1 % (m : Int)).toNat, by
    have := Int.emod_lt_of_pos a1 (show (0 : Int) < (m : Int) by omega); have := Int.emod_nonneg a1 (show (m : Int) ≠ 0 by omega); omega, by
    have := Int.emod_nonneg a1 (show (m : Int) ≠ 0 by omega); omega⟩
  have hm7 : m < 7 := by omega
  have hm1 : 1 < m := by omega
  have N0 := Lib.hid fun W => numb a0 5 m0 (by decide) (by decide) h0 W
  have N1 := Lib.hid fun W => numb a1 (m : Int) q (by omega) (by omega) h1 W
  have HL0 := Lib.hid fun W => nlink_any 0 (by decide) W
  have HL1 := Lib.hid fun W => nlink_any 1 (by decide) W
  rw [show ((0 : Nat) : Int) = 0 from rfl] at HL0
  rw [show ((1 : Nat) : Int) = 1 from rfl] at HL1
  clear hE h0 h1
  go_enter Tryz.func4, Tryz.ntmps4
  go_upto_region 5 with (first
    | (go_at_call 5; refine HF.out.mono ?_; rintro e w1 ⟨rfl, hb1⟩; have HB1 := Lib.hid hb1; clear hb1)
    | (go_at_call_of 6 (Value.int IntKind.i64 a0); refine (N0.out _).mono ?_; rintro e w2 ⟨rfl, rfl⟩))
  have HM := Lib.hid hm
  clear hm
  go_upto_region 7 with (first
    | (go_at_call_of 6 (Value.int IntKind.i64 a1); refine (N1.out _).mono ?_; rintro e w2 ⟨rfl, rfl⟩)
    | (go_at_call_of 13 (Value.int IntKind.i64 0); refine (HL0.out _).mono ?_; rintro e wa ⟨rfl, hba⟩; have HBa := Lib.hid (below_next HB1.out hba); clear hba)
    | (go_at_call_of 13 (Value.int IntKind.i64 1); refine (HL1.out _).mono ?_; rintro e w2 ⟨rfl, hb2⟩; have HB2 := Lib.hid (below_next HBa.out hb2); clear hb2))
  have HB3 := Lib.hid (HB2.out.alloc HB2.out.size (.cells #[.string (str (nm 108 0)), .int .u32 (adr 0 0), .int .i64 24, .string (str (nm 108 1)), .int .u32 (adr 1 0), .int .i64 24] 51))
  have HB23 := Lib.hid ((Below.refl w2.heap.size w2).alloc (Nat.le_refl _) (.cells #[.string (str (nm 108 0)), .int .u32 (adr 0 0), .int .i64 24, .string (str (nm 108 1)), .int .u32 (adr 1 0), .int .i64 24] 51))
  have HLB := Lib.hid (Blk.new w2 51 #[.string (str (nm 108 0)), .int .u32 (adr 0 0), .int .i64 24, .string (str (nm 108 1)), .int .u32 (adr 1 0), .int .i64 24])
  have hz3 : w2.heap.size + 1 = (w2.alloc (.cells #[.string (str (nm 108 0)), .int .u32 (adr 0 0), .int .i64 24, .string (str (nm 108 1)), .int .u32 (adr 1 0), .int .i64 24] 51)).heap.size := by simp
  rw [hz3]
  clear hz3
  generalize w2.alloc (.cells #[.string (str (nm 108 0)), .int .u32 (adr 0 0), .int .i64 24, .string (str (nm 108 1)), .int .u32 (adr 1 0), .int .i64 24] 51) = w3 at *
  have HI0 : Hid (PG w3 (.slice (some ⟨w2.heap.size, 0, none⟩) 2 2) (.slice none 0 0) (.slice none 0 0) (.slice none 0 0) (prRs 0) (prPs 0) (prOs m 0) (w3.alloc (.cells #[.slice none 0 0, .slice (some ⟨w2.heap.size, 0, none⟩) 2 2, .slice none 0 0, .slice none 0 0, .slice none 0 0, .slice none 0 0, .slice none 0 0] 37))) := Lib.hid ⟨Blk.new _ _ _, by simpa [prRs] using World.ownsRow_nil _ _ _ _, by simpa [prPs] using World.ownsRow_nil _ _ _ _, by simpa [prOs] using World.ownsRow_nil _ _ _ _, (Below.refl _ _).alloc (Nat.le_refl _) _⟩
  generalize w3.alloc (.cells #[.slice none 0 0, .slice (some ⟨w2.heap.size, 0, none⟩) 2 2, .slice none 0 0, .slice none 0 0, .slice none 0 0, .slice none 0 0, .slice none 0 0] 37) = W5 at *
  go_wp2
  go_loopw [9] (fun i wr => ∃ (k : Nat) (vr vp : Value), k ≤ m ∧ i = .int .i64 k ∧ Hid (PG w3 (.slice (some ⟨w2.heap.size, 0, none⟩) 2 2) vr vp (.slice none 0 0) (prRs k) (prPs k) (prOs m 0) wr)) (fun i _ => m - (intOf i).toNat)
  case atStart => exact ⟨0, _, _, Nat.zero_le _, rfl, HI0⟩
  case round =>
    clear HI0
    obtain ⟨k, vr, vp, hk, rfl, HI⟩ := hrel
    rcases Nat.lt_or_ge k m with hlt | hge
    · have hi0 : (k : Int) < (m : Int) := by omega
      have hNm := fun W => num_ring k (by omega) W
      have hCat : (⟨#[114]⟩ : ByteArray) ++ str [UInt8.ofNat (48 + k)] = str (nm 114 k) := cat_ring k (by omega)
      have hDs : (str [UInt8.ofNat (48 + k)]).size = 1 := rfl
      have hPt := fun W => nport_any k 0 (by omega) (by decide) W
      rw [show ((0 : Nat) : Int) = 0 from rfl] at hPt
      have HPt := Lib.hid hPt
      clear hPt
      generalize str [UInt8.ofNat (48 + k)] = D at *
      have HDs := Lib.hid hDs
      clear hDs
      have HNm := Lib.hid hNm
      have HCat := Lib.hid hCat
      clear hNm hCat
      go_wp2
      have CN : Hid (wr.cell? ⟨w3.heap.size, 0, none⟩ = some vr) := Lib.hid (HI.out.blk.cell 0)
      have RN : Hid (vr.ownBlock ≠ some w3.heap.size) := Lib.hid (row_not HI.out.blk HI.out.r (by decide))
      have HVO := Lib.hid HI.out.r
      have HVLT : Hid (∀ g, vr.ownBlock = some g → g < wr.heap.size) := Lib.hid fun g hg => (HVO.out.lt g hg).2
      have HLO5 : Hid (w3.heap.size ≤ wr.heap.size) := Lib.hid HI.out.lo.size
      have HLL : Hid ((prRs k).length ≤ 1000) := Lib.hid (by rw [prRs_len]; omega)
      refine wp_region_held_drew (S := fun _ => True) (by kernel_rfl) trivial (fun _ => ?_)
      refine wpAnyH_each (md := .any) (m := 1) (rem := [0, 1, 2, 3, 4, 5, 6, 7, 8]) (tail := [9]) (deps := fun i => match i with | 1 => [0] | 3 => [2] | 4 => [3] | 5 => [4] | 6 => [5] | 7 => [1, 6] | _ => []) (Tg wr vr.ownBlock 7) (Kl vr.ownBlock 7)
        (fun ix ds v W => match ix with | 0 => v = .pointer (some ⟨w3.heap.size, 0, none⟩) | 1 => v = vr | 2 => v = .int .i64 (k : Int) | 3 => v = .string D | 4 => v = .string (str (nm 114 k)) | 5 => v = .agg #[.string (str (nm 114 k)), .int .i64 0] | 6 => ∃ h, v = .slice (some ⟨h, 0, none⟩) 1 1 ∧ wr.heap.size ≤ h ∧ Blk W h 55 #[.string (str (nm 114 k)), .int .i64 0] | 7 => W.ownsRow w3.heap.size 55 2 v ((prRs k) ++ [(nm 114 k, 0)]).length (((prRs k) ++ [(nm 114 k, 0)]).flatMap CRouter) | 8 => v = .pointer (some ⟨w3.heap.size, 0, none⟩) | _ => True) (eachB_spec (by kernel_rfl)) (fun _ _ _ _ _ _ _ h k => h.stepl k) (fun _ _ _ => trivial) ?_ (fun _ _ _ _ => True) (fun _ _ _ _ _ _ _ _ _ _ _ _ _ _ => ⟨trivial, trivial⟩) ?_ ?_ (Tg.nil (Below.refl _ _).drew)
      · intro i hi j _ hij hjd ds v u l W W' _ _ hk h
        simp only [List.mem_cons, List.not_mem_nil, or_false] at hi
        rcases hi with rfl | rfl | rfl | rfl | rfl | rfl | rfl | rfl | rfl
        · exact h
        · exact h
        · exact h
        · exact h
        · exact h
        · exact h
        · obtain ⟨h', e, hs, hb⟩ := h
          exact ⟨h', e, hs, (hk.grown.block h' hb.lt (fun e => by have := HVLT.out h' e.symm; omega)).trans hb⟩
        · exact ownk_next h (hk.below (Ne.symm hij))
        · exact h
      · refine AllO.cons [] rfl rfl (fun vs l W hl hT hd => ?_) ?_
        · dsimp only [lay, List.foldl, List.map, dstOf]
          go_wp2
          exact ⟨rfl, _, rfl, Kl.mk (by decide) (Below.refl _ _), rfl⟩
        refine AllO.cons [0] rfl rfl (fun vs l W hl hT hd => ?_) ?_
        · have e0 : vs 0 = .pointer (some ⟨w3.heap.size, 0, none⟩) := hd 0 (by simp)
          have c3 : W.cell? ⟨w3.heap.size, 0, none⟩ = some vr := hT.cell CN.out RN.out
          dsimp only [lay, List.foldl, List.map, dstOf]
          rw [e0]
          go_wp2
          exact ⟨rfl, _, rfl, Kl.mk (by decide) (Below.refl _ _), rfl⟩
        refine AllO.cons [] rfl rfl (fun vs l W hl hT hd => ?_) ?_
        · dsimp only [lay, List.foldl, List.map, dstOf]
          go_wp2
          exact ⟨rfl, _, rfl, Kl.mk (by decide) (Below.refl _ _), rfl⟩
        refine AllO.cons [2] rfl rfl (fun vs l W hl hT hd => ?_) ?_
        · have e2 : vs 2 = .int .i64 (k : Int) := hd 2 (by simp)
          have hC := Lib.hid (HNm.out W)
          dsimp only [lay, List.foldl, List.map, dstOf]
          rw [e2]
          go_wp2_with (go_at_call 14; refine hC.out.mono ?_; rintro e w1 ⟨rfl, hb1⟩)
          exact ⟨rfl, _, rfl, Kl.mk (by decide) hb1, rfl⟩
        refine AllO.cons [3] rfl rfl (fun vs l W hl hT hd => ?_) ?_
        · have e3 : vs 3 = .string D := hd 3 (by simp)
          have hcat := HCat.out
          have hds := HDs.out
          dsimp only [lay, List.foldl, List.map, dstOf]
          rw [e3]
          go_wp2
          exact ⟨rfl, _, rfl, Kl.mk (by decide) (Below.refl _ _), rfl⟩
        refine AllO.cons [4] rfl rfl (fun vs l W hl hT hd => ?_) ?_
        · have e4 : vs 4 = .string (str (nm 114 k)) := hd 4 (by simp)
          dsimp only [lay, List.foldl, List.map, dstOf]
          rw [e4]
          go_wp2
          exact ⟨rfl, _, rfl, Kl.mk (by decide) (Below.refl _ _), rfl⟩
        refine AllO.cons [5] rfl rfl (fun vs l W hl hT hd => ?_) ?_
        · have e5 : vs 5 = .agg #[.string (str (nm 114 k)), .int .i64 0] := hd 5 (by simp)
          dsimp only [lay, List.foldl, List.map, dstOf]
          rw [e5]
          go_wp2
          exact ⟨rfl, _, rfl, Kl.mk (by decide) ((Below.refl _ _).alloc (Nat.le_refl _) _), _, rfl, hT.grown.size, Blk.new _ _ _⟩
        refine AllO.cons [1, 6] rfl rfl (fun vs l W hl hT hd => ?_) ?_
        · have e1 : vs 1 = vr := hd 1 (by simp)
          obtain ⟨h', e6, hs', hb'⟩ := hd 6 (by simp)
          dsimp only [lay, List.foldl, List.map, dstOf]
          rw [e1, e6]
          obtain ⟨i0, z0, hi, hz, hzs, hsz, hby⟩ := info_router
          have hbp := hT.pre hl
          refine wpList_append_own_at _ rfl _ _ 29 rfl w3.heap.size 55 i0 z0 2 24 Tryz.underlying29 hi hz hsz hby hzs (by decide) vr (prRs k).length ((prRs k).flatMap CRouter) (by rfl) (ownk_next HVO.out hbp) ⟨h', 0, none⟩ 1 1 ([(nm 114 k, 0)].flatMap CRouter) (by rfl) (by rfl) (blk_news hb' (by rfl)) (fun u hu => by
            obtain ⟨y, _, hy⟩ := List.mem_flatMap.1 hu
            exact router_one y u hy) (by have := HLL.out; unfold maxLen; omega) (by have := HLL.out; omega) (Nat.le_trans HLO5.out hT.grown.size) ?_
          intro v' w' hown hg _ _
          refine wpList_nil ?_
          exact ⟨rfl, _, rfl, Kl.app hg, by rw [List.length_append, List.flatMap_append]; exact hown⟩
        refine AllO.cons [] rfl rfl (fun vs l W hl hT hd => ?_) AllO.nil
        · dsimp only [lay, List.foldl, List.map, dstOf]
          go_wp2
          exact ⟨rfl, _, rfl, Kl.mk (by decide) (Below.refl _ _), rfl⟩
      · intro vs l W hall hT hF _ aE LE ha hL
        have e0 : vs 0 = .pointer (some ⟨w3.heap.size, 0, none⟩) := hF 0 (by simp)
        have e1 : vs 1 = vr := hF 1 (by simp)
        have e2 : vs 2 = .int .i64 (k : Int) := hF 2 (by simp)
        have e3 : vs 3 = .string D := hF 3 (by simp)
        have e4 : vs 4 = .string (str (nm 114 k)) := hF 4 (by simp)
        have e5 : vs 5 = .agg #[.string (str (nm 114 k)), .int .i64 0] := hF 5 (by simp)
        have e8 : vs 8 = .pointer (some ⟨w3.heap.size, 0, none⟩) := hF 8 (by simp)
        obtain ⟨hbs, e6, -, -⟩ := hF 6 (by simp)
        have hown16 := hF 7 (by simp)
        have hL' : LE = #[true, true, true, true, true, true, true, true, true, false] := hL.trans (by kernel_rfl)
        dsimp only [lay, List.foldl, dstOf] at ha
        rw [e0, e1, e2, e3, e4, e5, e6, e8] at ha
        clear e0 e1 e2 e3 e4 e5 e6 e8 hL hF
        subst ha hL'
        generalize vs 7 = v16 at *
        obtain ⟨g16, cap16, rfl⟩ := own_some hown16 (by simp only [List.length_append, List.length_cons]; omega)
        have c13 : W.cell? ⟨w3.heap.size, 0, none⟩ = some vr := hT.cell CN.out RN.out
        have f13 : W.frozen? ⟨w3.heap.size, 0, none⟩ = false := (hT.blk HI.out.blk RN.out).frozen _
        have HI6 := Lib.hid (HI.out.step_r hT.grown hown16)
        refine wpAnyH_ready (rs := [9]) (by kernel_rfl) (by simp) ?_
        refine AllReadyH.cons rfl (fun K hK => ?_) AllReadyH.nil
        generalize ((prRs k) ++ [(nm 114 k, 0)]).length = LN at *
        go_simp
        refine hK.out _ _ trivial (fun _ => ?_)
        clear hK
        clear K
        refine wpAnyH_done (by kernel_rfl) ?_ _
        clear c13 f13 hown16 hall hT
        generalize W.setCell ⟨w3.heap.size, 0, none⟩ (.slice (some ⟨g16, 0, none⟩) LN cap16) = W6 at *
        clear CN RN HVO HVLT HLO5 HLL
        rw [← prRs_s] at HI6
        clear HI HDs HNm HCat
        go_wp2
        have CN : Hid (W6.cell? ⟨w3.heap.size, 2, none⟩ = some vp) := Lib.hid (HI6.out.blk.cell 2)
        have RN : Hid (vp.ownBlock ≠ some w3.heap.size) := Lib.hid (row_not HI6.out.blk HI6.out.p (by decide))
        have HVO := Lib.hid HI6.out.p
        have HVLT : Hid (∀ g, vp.ownBlock = some g → g < W6.heap.size) := Lib.hid fun g hg => (HVO.out.lt g hg).2
        have HLO5 : Hid (w3.heap.size ≤ W6.heap.size) := Lib.hid HI6.out.lo.size
        have HLL : Hid ((prPs k).length ≤ 1000) := Lib.hid (by rw [prPs_len]; omega)
        refine wp_region_held_drew (S := fun _ => True) (by kernel_rfl) trivial (fun _ => ?_)
        refine wpAnyH_each (md := .any) (m := 1) (rem := [0, 1, 2, 3, 4, 5, 6]) (tail := [7]) (deps := fun i => match i with | 1 => [0] | 3 => [2] | 4 => [3] | 5 => [1, 4] | _ => []) (Tg W6 vp.ownBlock 5) (Kl vp.ownBlock 5)
          (fun ix ds v W => match ix with | 0 => v = .pointer (some ⟨w3.heap.size, 2, none⟩) | 1 => v = vp | 2 => v = .int .i64 (k : Int) | 3 => v = .agg #[.int .i64 (k : Int), .int .i64 0, .int .u32 (adr 0 (k + 1))] | 4 => ∃ h, v = .slice (some ⟨h, 0, none⟩) 1 1 ∧ W6.heap.size ≤ h ∧ Blk W h 57 #[.int .i64 (k : Int), .int .i64 0, .int .u32 (adr 0 (k + 1))] | 5 => W.ownsRow w3.heap.size 57 3 v ((prPs k) ++ [((k : Int), 0, adr 0 (k + 1))]).length (((prPs k) ++ [((k : Int), 0, adr 0 (k + 1))]).flatMap CPort) | 6 => v = .pointer (some ⟨w3.heap.size, 2, none⟩) | _ => True) (eachB_spec (by kernel_rfl)) (fun _ _ _ _ _ _ _ h k => h.stepl k) (fun _ _ _ => trivial) ?_ (fun _ _ _ _ => True) (fun _ _ _ _ _ _ _ _ _ _ _ _ _ _ => ⟨trivial, trivial⟩) ?_ ?_ (Tg.nil (Below.refl _ _).drew)
        · intro i hi j _ hij hjd ds v u l W W' _ _ hk h
          simp only [List.mem_cons, List.not_mem_nil, or_false] at hi
          rcases hi with rfl | rfl | rfl | rfl | rfl | rfl | rfl
          · exact h
          · exact h
          · exact h
          · exact h
          · obtain ⟨h', e, hs, hb⟩ := h
            exact ⟨h', e, hs, (hk.grown.block h' hb.lt (fun e => by have := HVLT.out h' e.symm; omega)).trans hb⟩
          · exact ownk_next h (hk.below (Ne.symm hij))
          · exact h
        · refine AllO.cons [] rfl rfl (fun vs l W hl hT hd => ?_) ?_
          · dsimp only [lay, List.foldl, List.map, dstOf]
            go_wp2
            exact ⟨rfl, _, rfl, Kl.mk (by decide) (Below.refl _ _), rfl⟩
          refine AllO.cons [0] rfl rfl (fun vs l W hl hT hd => ?_) ?_
          · have e0 : vs 0 = .pointer (some ⟨w3.heap.size, 2, none⟩) := hd 0 (by simp)
            have c3 : W.cell? ⟨w3.heap.size, 2, none⟩ = some vp := hT.cell CN.out RN.out
            dsimp only [lay, List.foldl, List.map, dstOf]
            rw [e0]
            go_wp2
            exact ⟨rfl, _, rfl, Kl.mk (by decide) (Below.refl _ _), rfl⟩
          refine AllO.cons [] rfl rfl (fun vs l W hl hT hd => ?_) ?_
          · dsimp only [lay, List.foldl, List.map, dstOf]
            go_wp2
            exact ⟨rfl, _, rfl, Kl.mk (by decide) (Below.refl _ _), rfl⟩
          refine AllO.cons [2] rfl rfl (fun vs l W hl hT hd => ?_) ?_
          · have e2 : vs 2 = .int .i64 (k : Int) := hd 2 (by simp)
            have hC := Lib.hid (HPt.out W)
            dsimp only [lay, List.foldl, List.map, dstOf]
            rw [e2]
            go_wp2_with (go_at_call 15; refine hC.out.mono ?_; rintro e w1 ⟨rfl, hb1⟩)
            exact ⟨rfl, _, rfl, Kl.mk (by decide) hb1, rfl⟩
          refine AllO.cons [3] rfl rfl (fun vs l W hl hT hd => ?_) ?_
          · have e3 : vs 3 = .agg #[.int .i64 (k : Int), .int .i64 0, .int .u32 (adr 0 (k + 1))] := hd 3 (by simp)
            dsimp only [lay, List.foldl, List.map, dstOf]
            rw [e3]
            go_wp2
            exact ⟨rfl, _, rfl, Kl.mk (by decide) ((Below.refl _ _).alloc (Nat.le_refl _) _), _, rfl, hT.grown.size, Blk.new _ _ _⟩
          refine AllO.cons [1, 4] rfl rfl (fun vs l W hl hT hd => ?_) ?_
          · have e1 : vs 1 = vp := hd 1 (by simp)
            obtain ⟨h', e4, hs', hb'⟩ := hd 4 (by simp)
            dsimp only [lay, List.foldl, List.map, dstOf]
            rw [e1, e4]
            obtain ⟨i0, z0, hi, hz, hzs, hsz, hby⟩ := info_port
            have hbp := hT.pre hl
            refine wpList_append_own_at _ rfl _ _ 31 rfl w3.heap.size 57 i0 z0 3 24 Tryz.underlying31 hi hz hsz hby hzs (by decide) vp (prPs k).length ((prPs k).flatMap CPort) (by rfl) (ownk_next HVO.out hbp) ⟨h', 0, none⟩ 1 1 ([((k : Int), 0, adr 0 (k + 1))].flatMap CPort) (by rfl) (by rfl) (blk_news hb' (by rfl)) (fun u hu => by
              obtain ⟨y, _, hy⟩ := List.mem_flatMap.1 hu
              exact port_one y u hy) (by have := HLL.out; unfold maxLen; omega) (by have := HLL.out; omega) (Nat.le_trans HLO5.out hT.grown.size) ?_
            intro v' w' hown hg _ _
            refine wpList_nil ?_
            exact ⟨rfl, _, rfl, Kl.app hg, by rw [List.length_append, List.flatMap_append]; exact hown⟩
          refine AllO.cons [] rfl rfl (fun vs l W hl hT hd => ?_) AllO.nil
          · dsimp only [lay, List.foldl, List.map, dstOf]
            go_wp2
            exact ⟨rfl, _, rfl, Kl.mk (by decide) (Below.refl _ _), rfl⟩
        · intro vs l W hall hT hF _ aE LE ha hL
          have e0 : vs 0 = .pointer (some ⟨w3.heap.size, 2, none⟩) := hF 0 (by simp)
          have e1 : vs 1 = vp := hF 1 (by simp)
          have e2 : vs 2 = .int .i64 (k : Int) := hF 2 (by simp)
          have e3 : vs 3 = .agg #[.int .i64 (k : Int), .int .i64 0, .int .u32 (adr 0 (k + 1))] := hF 3 (by simp)
          have e6 : vs 6 = .pointer (some ⟨w3.heap.size, 2, none⟩) := hF 6 (by simp)
          obtain ⟨hbs, e4, -, -⟩ := hF 4 (by simp)
          have hown16 := hF 5 (by simp)
          have hL' : LE = #[true, true, true, true, true, true, true, false] := hL.trans (by kernel_rfl)
          dsimp only [lay, List.foldl, dstOf] at ha
          rw [e0, e1, e2, e3, e4, e6] at ha
          clear e0 e1 e2 e3 e4 e6 hL hF
          subst ha hL'
          generalize vs 5 = v16 at *
          obtain ⟨g16, cap16, rfl⟩ := own_some hown16 (by simp only [List.length_append, List.length_cons]; omega)
          have c13 : W.cell? ⟨w3.heap.size, 2, none⟩ = some vp := hT.cell CN.out RN.out
          have f13 : W.frozen? ⟨w3.heap.size, 2, none⟩ = false := (hT.blk HI6.out.blk RN.out).frozen _
          have HI7 := Lib.hid (HI6.out.step_p hT.grown hown16)
          refine wpAnyH_ready (rs := [7]) (by kernel_rfl) (by simp) ?_
          refine AllReadyH.cons rfl (fun K hK => ?_) AllReadyH.nil
          generalize ((prPs k) ++ [((k : Int), 0, adr 0 (k + 1))]).length = LN at *
          go_simp
          refine hK.out _ _ trivial (fun _ => ?_)
          clear hK
          clear K
          refine wpAnyH_done (by kernel_rfl) ?_ _
          clear c13 f13 hown16 hall hT
          generalize W.setCell ⟨w3.heap.size, 2, none⟩ (.slice (some ⟨g16, 0, none⟩) LN cap16) = W7 at *
          clear CN RN HVO HVLT HLO5 HLL
          rw [← prPs_s] at HI7
          clear HI6 HPt
          go_wp2
          go_roundw
          case rel => exact ⟨k + 1, _, _, by omega, by go_num, HI7⟩
          case measure => simp [intOf]; omega
    · obtain rfl : m = k := by omega
      have hi0 : ¬ ((m : Int) < (m : Int)) := by omega
      go_wp2
      go_loopw [10] (fun i wr => ∃ (k : Nat) (vo : Value), k ≤ m ∧ i = .int .i64 k ∧ Hid (PG w3 (.slice (some ⟨w2.heap.size, 0, none⟩) 2 2) vr vp vo (prRs m) (prPs m) (prOs m k) wr)) (fun i _ => m - (intOf i).toNat)
      case atStart => exact ⟨0, _, Nat.zero_le _, rfl, HI⟩
      case round =>
        clear HI
        obtain ⟨k, vo, hk, rfl, HI⟩ := hrel
        rcases Nat.lt_or_ge k m with hlt | hge
        · have hi0 : (k : Int) < (m : Int) := by omega
          obtain ⟨r, hr⟩ : ∃ r, (k + 1) % m = r := ⟨_, rfl⟩
          have hr6 : r < 7 := by have := Nat.mod_lt (k + 1) (show m > 0 by omega); omega
          have hrm : ((k : Int) + 1).tmod (m : Int) = (r : Int) := by
            rw [Int.tmod_eq_emod_of_nonneg (by omega), ← hr]
            simp
          have HOs := Lib.hid (prOs_s m k)
          rw [hr] at HOs
          have hAd := fun W => naddr_any 0 (r + 1) (by decide) (by omega) W
          rw [show ((0 : Nat) : Int) = 0 from rfl, show ((r + 1 : Nat) : Int) = (r : Int) + 1 by omega] at hAd
          have HAd := Lib.hid hAd
          have HLk := Lib.hid HL1.out
          clear hr HL0 HL1 hAd
          generalize str (nm 108 1) = LN at *
          generalize adr 1 0 = AD at *
          go_wp2
          have CN : Hid (wr.cell? ⟨w3.heap.size, 3, none⟩ = some vo) := Lib.hid (HI.out.blk.cell 3)
          have RN : Hid (vo.ownBlock ≠ some w3.heap.size) := Lib.hid (row_not HI.out.blk HI.out.o (by decide))
          have HVO := Lib.hid HI.out.o
          have HVLT : Hid (∀ g, vo.ownBlock = some g → g < wr.heap.size) := Lib.hid fun g hg => (HVO.out.lt g hg).2
          have HLO5 : Hid (w3.heap.size ≤ wr.heap.size) := Lib.hid HI.out.lo.size
          have HLL : Hid ((prOs m k).length ≤ 1000) := Lib.hid (by rw [prOs_len]; omega)
          refine wp_region_held_drew (S := fun _ => True) (by kernel_rfl) trivial (fun _ => ?_)
          refine wpAnyH_each (md := .any) (m := 1) (rem := [0, 1, 2, 3, 4, 5, 6, 7, 8, 9, 10, 11, 12, 13, 14]) (tail := [15]) (deps := fun i => match i with | 1 => [0] | 4 => [3] | 6 => [5] | 8 => [6, 7] | 9 => [8] | 10 => [9] | 11 => [2, 4, 10] | 12 => [11] | 13 => [1, 12] | _ => []) (Tg wr vo.ownBlock 13) (Kl vo.ownBlock 13)
            (fun ix ds v W => match ix with | 0 => v = .pointer (some ⟨w3.heap.size, 3, none⟩) | 1 => v = vo | 2 => v = .int .i64 (k : Int) | 3 => v = .agg #[.string LN, .int .u32 AD, .int .i64 24] | 4 => v = .agg #[.int .u32 AD, .int .i64 24] | 5 => v = .int .i64 (k : Int) | 6 => v = .int .i64 ((k : Int) + 1) | 7 => v = .int .i64 (m : Int) | 8 => v = .int .i64 (r : Int) | 9 => v = .int .i64 ((r : Int) + 1) | 10 => v = .int .u32 (adr 0 (r + 1)) | 11 => v = .agg #[.int .i64 (k : Int), .int .u32 AD, .int .i64 24, .int .u32 (adr 0 (r + 1)), .int .i64 0] | 12 => ∃ h, v = .slice (some ⟨h, 0, none⟩) 1 1 ∧ wr.heap.size ≤ h ∧ Blk W h 60 #[.int .i64 (k : Int), .int .u32 AD, .int .i64 24, .int .u32 (adr 0 (r + 1)), .int .i64 0] | 13 => W.ownsRow w3.heap.size 60 5 v ((prOs m k) ++ [((k : Int), AD, 24, adr 0 (r + 1), 0)]).length (((prOs m k) ++ [((k : Int), AD, 24, adr 0 (r + 1), 0)]).flatMap CRoute) | 14 => v = .pointer (some ⟨w3.heap.size, 3, none⟩) | _ => True) (eachB_spec (by kernel_rfl)) (fun _ _ _ _ _ _ _ h k => h.stepl k) (fun _ _ _ => trivial) ?_ (fun _ _ _ _ => True) (fun _ _ _ _ _ _ _ _ _ _ _ _ _ _ => ⟨trivial, trivial⟩) ?_ ?_ (Tg.nil (Below.refl _ _).drew)
          · intro i hi j _ hij hjd ds v u l W W' _ _ hk h
            simp only [List.mem_cons, List.not_mem_nil, or_false] at hi
            rcases hi with rfl | rfl | rfl | rfl | rfl | rfl | rfl | rfl | rfl | rfl | rfl | rfl | rfl | rfl | rfl
            · exact h
            · exact h
            · exact h
            · exact h
            · exact h
            · exact h
            · exact h
            · exact h
            · exact h
            · exact h
            · exact h
            · exact h
            · obtain ⟨h', e, hs, hb⟩ := h
              exact ⟨h', e, hs, (hk.grown.block h' hb.lt (fun e => by have := HVLT.out h' e.symm; omega)).trans hb⟩
            · exact ownk_next h (hk.below (Ne.symm hij))
            · exact h
          · refine AllO.cons [] rfl rfl (fun vs l W hl hT hd => ?_) ?_
            · dsimp only [lay, List.foldl, List.map, dstOf]
              go_wp2
              exact ⟨rfl, _, rfl, Kl.mk (by decide) (Below.refl _ _), rfl⟩
            refine AllO.cons [0] rfl rfl (fun vs l W hl hT hd => ?_) ?_
            · have e0 : vs 0 = .pointer (some ⟨w3.heap.size, 3, none⟩) := hd 0 (by simp)
              have c3 : W.cell? ⟨w3.heap.size, 3, none⟩ = some vo := hT.cell CN.out RN.out
              dsimp only [lay, List.foldl, List.map, dstOf]
              rw [e0]
              go_wp2
              exact ⟨rfl, _, rfl, Kl.mk (by decide) (Below.refl _ _), rfl⟩
            refine AllO.cons [] rfl rfl (fun vs l W hl hT hd => ?_) ?_
            · dsimp only [lay, List.foldl, List.map, dstOf]
              go_wp2
              exact ⟨rfl, _, rfl, Kl.mk (by decide) (Below.refl _ _), rfl⟩
            refine AllO.cons [] rfl rfl (fun vs l W hl hT hd => ?_) ?_
            · have hC := Lib.hid (HLk.out W)
              dsimp only [lay, List.foldl, List.map, dstOf]
              go_wp2_with (go_at_call 13; refine hC.out.mono ?_; rintro e w1 ⟨rfl, hb1⟩)
              exact ⟨rfl, _, rfl, Kl.mk (by decide) hb1, rfl⟩
            refine AllO.cons [3] rfl rfl (fun vs l W hl hT hd => ?_) ?_
            · have e3 : vs 3 = .agg #[.string LN, .int .u32 AD, .int .i64 24] := hd 3 (by simp)
              have hfd : (Instr.field 51 (.agg #[.string LN, .int .u32 AD, .int .i64 24]) 1).run Tryz.prog W = .ok (.agg #[.int .u32 AD, .int .i64 24]) W := by kernel_rfl
              dsimp only [lay, List.foldl, List.map, dstOf]
              rw [e3]
              go_wp2
              exact ⟨rfl, _, rfl, Kl.mk (by decide) (Below.refl _ _), rfl⟩
            refine AllO.cons [] rfl rfl (fun vs l W hl hT hd => ?_) ?_
            · dsimp only [lay, List.foldl, List.map, dstOf]
              go_wp2
              exact ⟨rfl, _, rfl, Kl.mk (by decide) (Below.refl _ _), rfl⟩
            refine AllO.cons [5] rfl rfl (fun vs l W hl hT hd => ?_) ?_
            · have e5 : vs 5 = .int .i64 (k : Int) := hd 5 (by simp)
              dsimp only [lay, List.foldl, List.map, dstOf]
              rw [e5]
              go_wp2
              exact ⟨rfl, _, rfl, Kl.mk (by decide) (Below.refl _ _), rfl⟩
            refine AllO.cons [] rfl rfl (fun vs l W hl hT hd => ?_) ?_
            · dsimp only [lay, List.foldl, List.map, dstOf]
              go_wp2
              exact ⟨rfl, _, rfl, Kl.mk (by decide) (Below.refl _ _), rfl⟩
            refine AllO.cons [6, 7] rfl rfl (fun vs l W hl hT hd => ?_) ?_
            · have e6 : vs 6 = .int .i64 ((k : Int) + 1) := hd 6 (by simp)
              have e7 : vs 7 = .int .i64 (m : Int) := hd 7 (by simp)
              dsimp only [lay, List.foldl, List.map, dstOf]
              rw [e6, e7]
              go_wp2
              exact ⟨rfl, _, rfl, Kl.mk (by decide) (Below.refl _ _), rfl⟩
            refine AllO.cons [8] rfl rfl (fun vs l W hl hT hd => ?_) ?_
            · have e8 : vs 8 = .int .i64 (r : Int) := hd 8 (by simp)
              dsimp only [lay, List.foldl, List.map, dstOf]
              rw [e8]
              go_wp2
              exact ⟨rfl, _, rfl, Kl.mk (by decide) (Below.refl _ _), rfl⟩
            refine AllO.cons [9] rfl rfl (fun vs l W hl hT hd => ?_) ?_
            · have e9 : vs 9 = .int .i64 ((r : Int) + 1) := hd 9 (by simp)
              have hC := Lib.hid (HAd.out W)
              dsimp only [lay, List.foldl, List.map, dstOf]
              rw [e9]
              go_wp2_with (go_at_call 10; refine hC.out.mono ?_; rintro e w1 ⟨rfl, rfl⟩)
              exact ⟨rfl, _, (by first | rfl | (simp [Act.put]; omega)), Kl.mk (by decide) (Below.refl _ _), rfl⟩
            refine AllO.cons [2, 4, 10] rfl rfl (fun vs l W hl hT hd => ?_) ?_
            · have e2 : vs 2 = .int .i64 (k : Int) := hd 2 (by simp)
              have e4 : vs 4 = .agg #[.int .u32 AD, .int .i64 24] := hd 4 (by simp)
              have e10 : vs 10 = .int .u32 (adr 0 (r + 1)) := hd 10 (by simp)
              dsimp only [lay, List.foldl, List.map, dstOf]
              rw [e2, e4, e10]
              go_wp2
              exact ⟨rfl, _, rfl, Kl.mk (by decide) (Below.refl _ _), rfl⟩
            refine AllO.cons [11] rfl rfl (fun vs l W hl hT hd => ?_) ?_
            · have e11 : vs 11 = .agg #[.int .i64 (k : Int), .int .u32 AD, .int .i64 24, .int .u32 (adr 0 (r + 1)), .int .i64 0] := hd 11 (by simp)
              dsimp only [lay, List.foldl, List.map, dstOf]
              rw [e11]
              go_wp2
              exact ⟨rfl, _, rfl, Kl.mk (by decide) ((Below.refl _ _).alloc (Nat.le_refl _) _), _, rfl, hT.grown.size, Blk.new _ _ _⟩
            refine AllO.cons [1, 12] rfl rfl (fun vs l W hl hT hd => ?_) ?_
            · have e1 : vs 1 = vo := hd 1 (by simp)
              obtain ⟨h', e12, hs', hb'⟩ := hd 12 (by simp)
              dsimp only [lay, List.foldl, List.map, dstOf]
              rw [e1, e12]
              obtain ⟨i0, z0, hi, hz, hzs, hsz, hby⟩ := info_route
              have hbp := hT.pre hl
              refine wpList_append_own_at _ rfl _ _ 32 rfl w3.heap.size 60 i0 z0 5 40 Tryz.underlying32 hi hz hsz hby hzs (by decide) vo (prOs m k).length ((prOs m k).flatMap CRoute) (by rfl) (ownk_next HVO.out hbp) ⟨h', 0, none⟩ 1 1 ([((k : Int), AD, 24, adr 0 (r + 1), 0)].flatMap CRoute) (by rfl) (by rfl) (blk_news hb' (by rfl)) (fun u hu => by
                obtain ⟨y, _, hy⟩ := List.mem_flatMap.1 hu
                exact route_one y u hy) (by have := HLL.out; unfold maxLen; omega) (by have := HLL.out; omega) (Nat.le_trans HLO5.out hT.grown.size) ?_
              intro v' w' hown hg _ _
              refine wpList_nil ?_
              exact ⟨rfl, _, rfl, Kl.app hg, by rw [List.length_append, List.flatMap_append]; exact hown⟩
            refine AllO.cons [] rfl rfl (fun vs l W hl hT hd => ?_) AllO.nil
            · dsimp only [lay, List.foldl, List.map, dstOf]
              go_wp2
              exact ⟨rfl, _, rfl, Kl.mk (by decide) (Below.refl _ _), rfl⟩
          · intro vs l W hall hT hF _ aE LE ha hL
            have e0 : vs 0 = .pointer (some ⟨w3.heap.size, 3, none⟩) := hF 0 (by simp)
            have e1 : vs 1 = vo := hF 1 (by simp)
            have e2 : vs 2 = .int .i64 (k : Int) := hF 2 (by simp)
            have e3 : vs 3 = .agg #[.string LN, .int .u32 AD, .int .i64 24] := hF 3 (by simp)
            have e4 : vs 4 = .agg #[.int .u32 AD, .int .i64 24] := hF 4 (by simp)
            have e5 : vs 5 = .int .i64 (k : Int) := hF 5 (by simp)
            have e6 : vs 6 = .int .i64 ((k : Int) + 1) := hF 6 (by simp)
            have e7 : vs 7 = .int .i64 (m : Int) := hF 7 (by simp)
            have e8 : vs 8 = .int .i64 (r : Int) := hF 8 (by simp)
            have e9 : vs 9 = .int .i64 ((r : Int) + 1) := hF 9 (by simp)
            have e10 : vs 10 = .int .u32 (adr 0 (r + 1)) := hF 10 (by simp)
            have e11 : vs 11 = .agg #[.int .i64 (k : Int), .int .u32 AD, .int .i64 24, .int .u32 (adr 0 (r + 1)), .int .i64 0] := hF 11 (by simp)
            have e14 : vs 14 = .pointer (some ⟨w3.heap.size, 3, none⟩) := hF 14 (by simp)
            obtain ⟨hbs, e12, -, -⟩ := hF 12 (by simp)
            have hown16 := hF 13 (by simp)
            have hL' : LE = #[true, true, true, true, true, true, true, true, true, true, true, true, true, true, true, false] := hL.trans (by kernel_rfl)
            dsimp only [lay, List.foldl, dstOf] at ha
            rw [e0, e1, e2, e3, e4, e5, e6, e7, e8, e9, e10, e11, e12, e14] at ha
            clear e0 e1 e2 e3 e4 e5 e6 e7 e8 e9 e10 e11 e12 e14 hL hF
            subst ha hL'
            generalize vs 13 = v16 at *
            obtain ⟨g16, cap16, rfl⟩ := own_some hown16 (by simp only [List.length_append, List.length_cons]; omega)
            have c13 : W.cell? ⟨w3.heap.size, 3, none⟩ = some vo := hT.cell CN.out RN.out
            have f13 : W.frozen? ⟨w3.heap.size, 3, none⟩ = false := (hT.blk HI.out.blk RN.out).frozen _
            have HI6 := Lib.hid (HI.out.step_o hT.grown hown16)
            refine wpAnyH_ready (rs := [15]) (by kernel_rfl) (by simp) ?_
            refine AllReadyH.cons rfl (fun K hK => ?_) AllReadyH.nil
            generalize ((prOs m k) ++ [((k : Int), AD, 24, adr 0 (r + 1), 0)]).length = LN at *
            go_simp
            refine hK.out _ _ trivial (fun _ => ?_)
            clear hK
            clear K
            refine wpAnyH_done (by kernel_rfl) ?_ _
            clear c13 f13 hown16 hall hT
            generalize W.setCell ⟨w3.heap.size, 3, none⟩ (.slice (some ⟨g16, 0, none⟩) LN cap16) = W6 at *
            clear CN RN HVO HVLT HLO5 HLL
            rw [← HOs.out] at HI6
            clear HI
            go_wp2
            go_roundw
            case rel => exact ⟨k + 1, _, by omega, by go_num, HI6⟩
            case measure => simp [intOf]; omega
        · obtain rfl : m = k := by omega
          obtain ⟨Ar, cr, rfl, hcr, hir⟩ := IR.of_own router_len HI.out.r
          obtain ⟨Ap, cp, rfl, hcp, hip⟩ := IR.of_own port_len HI.out.p
          obtain ⟨Ao, co, rfl, hco, hio⟩ := IR.of_own route_len HI.out.o
          have hil : ILink wr (some ⟨w2.heap.size, 0, none⟩) 2 (lsK 2) := ir_of_blk link_len (HLB.out.next HI.out.lo) rfl rfl
          have hok : (prCfg m false).ok := ⟨fun y hy => line_ok 1 0 (by decide) (by decide) |>.1 y hy, fun y hy => ((pr_good ⟨m, hm7⟩ hm1).1 y hy).2.2.2.2, fun y hy => ⟨((pr_good ⟨m, hm7⟩ hm1).2 y hy).2.2.2.2.1 |> fun a => ⟨a, ((pr_good ⟨m, hm7⟩ hm1).2 y hy).2.2.2.2.2.1⟩, ((pr_good ⟨m, hm7⟩ hm1).2 y hy).2.2.2.2.2.2⟩, fun y hy => (by cases hy), fun y hy => (by cases hy), fun y hy => (by cases hy)⟩
          have hcw : CW wr ⟨⟨Ar, (prRs m).length, cr⟩, ⟨some ⟨w2.heap.size, 0, none⟩, 2, 2⟩, ⟨Ap, (prPs m).length, cp⟩, ⟨Ao, (prOs m m).length, co⟩, ⟨none, 0, 0⟩, ⟨none, 0, 0⟩, ⟨none, 0, 0⟩⟩ (prCfg m false) :=
            ⟨hir, hil, hip, hio, IR.none_ _ _ _ _, IR.none_ _ _ _ _, IR.none_ _ _ _ _, ⟨hcr, by show (prRs m).length ≤ 1000000; rw [prRs_len]; omega⟩, ⟨Nat.le_refl _, by show (2 : Nat) ≤ 1000000; decide⟩, ⟨hcp, by show (prPs m).length ≤ 1000000; rw [prPs_len]; omega⟩, ⟨hco, by show (prOs m m).length ≤ 1000000; rw [prOs_len]; omega⟩, ⟨Nat.le_refl _, by show (0 : Nat) ≤ 1000000; decide⟩, ⟨Nat.le_refl _, by show (0 : Nat) ≤ 1000000; decide⟩, ⟨Nat.le_refl _, by show (0 : Nat) ≤ 1000000; decide⟩, fun y hy => (by cases hy), hok⟩
          have HCW := Lib.hid hcw
          have HBr := Lib.hid (HB3.out.trans (HI.out.lo.mono HB3.out.size))
          have HBr2 := Lib.hid (HB23.out.trans (HI.out.lo.mono HB23.out.size))
          have HN := Lib.hid HI.out.blk
          have n0 : wr.cell? ⟨w3.heap.size, 0, none⟩ = some (.slice Ar (prRs m).length cr) := HN.out.cell 0
          have n1 : wr.cell? ⟨w3.heap.size, 1, none⟩ = some (.slice (some ⟨w2.heap.size, 0, none⟩) 2 2) := HN.out.cell 1
          have n2 : wr.cell? ⟨w3.heap.size, 2, none⟩ = some (.slice Ap (prPs m).length cp) := HN.out.cell 2
          have n3 : wr.cell? ⟨w3.heap.size, 3, none⟩ = some (.slice Ao (prOs m m).length co) := HN.out.cell 3
          have n4 : wr.cell? ⟨w3.heap.size, 4, none⟩ = some (.slice none 0 0) := HN.out.cell 4
          have n5 : wr.cell? ⟨w3.heap.size, 5, none⟩ = some (.slice none 0 0) := HN.out.cell 5
          have n6 : wr.cell? ⟨w3.heap.size, 6, none⟩ = some (.slice none 0 0) := HN.out.cell 6
          have HAT := Lib.hid fun W => naddr_any 1 200 (by decide) (by decide) W
          rw [show ((1 : Nat) : Int) = 1 from rfl, show ((200 : Nat) : Int) = 200 from rfl] at HAT
          obtain ⟨u, hu⟩ : ∃ u : Nat, (q + 1) % m = u := ⟨_, rfl⟩
          have hum : ((q : Int) + 1).tmod (m : Int) = (u : Int) := by
            rw [Int.tmod_eq_emod_of_nonneg (by omega), ← hu]
            simp
          have HP1 : Hid (∀ s : Bool, chainA (prCfg m s) (q : Int) (adr 1 200) = ([], false)) := Lib.hid fun s => pr_chain ⟨m, hm7⟩ s ⟨q, by omega⟩ hq hm1
          have HP2 : Hid (∀ s : Bool, toA (prCfg m s) (q : Int) (adr 1 200) = (((q : Int), ((u : Nat) : Int), 0, false), true)) := Lib.hid fun s => by rw [← hu]; exact pr_to ⟨m, hm7⟩ s ⟨q, by omega⟩ hq hm1
          have HP3 : Hid (∀ s : Bool, roundA (prCfg m s) = s) := Lib.hid fun s => pr_round ⟨m, hm7⟩ s hm1
          have hi0 : ¬ ((m : Int) < (m : Int)) := by omega
          clear hu hir hip hio hil hok hcr hcp hco HL0 HL1 HF N0 N1
          cases s with
          | false =>
            have HNW := Lib.hid (new_ok ads _ (prCfg m false) [] wr (HE.out.below HBr.out) hcw (pr_valid ⟨m, hm7⟩ false hm1) (pr_rn m false) (pr_ln m false) (fun W _ => groups0_any _ W rfl rfl) (pr_ports m false hm1 hm7) (fun y hy => (by cases hy)))
            dsimp only at HNW
            replace HP1 := Lib.hid (HP1.out false)
            replace HP2 := Lib.hid (HP2.out false)
            replace HP3 := Lib.hid (HP3.out false)
            clear hcw
            go_upto_region 21 with (go_at_call 7; refine HNW.out.mono ?_; rintro e w9 ⟨T, x', rfl, hT, hal, hb9⟩; obtain rfl := alike_eq hal rfl; have HT := Lib.hid hT; have HB9 := Lib.hid (below_next HBr.out hb9); clear hT hal hb9)
            clear n0 n1 n2 n3 n4 n5 n6
            have HCC := Lib.hid fun W (hW : Below w9.heap.size w9 W) => chain_any (q : Int) (adr 1 200) (adr_u32 (by decide) (by decide)) W (HT.out.next hW) (pr_rn m false) (pr_ln m false) (pr_ribok m false hm1 hm7) (fun y hy => ⟨(pr_ports m false hm1 hm7 y hy).1, (pr_ports m false hm1 hm7 y hy).2.1⟩) (by show (prRs m).length ≤ 1000; rw [prRs_len]; omega)
            have HTO := Lib.hid fun W (hW : Below w9.heap.size w9 W) => to_any (q : Int) (adr 1 200) (adr_u32 (by decide) (by decide)) W (HT.out.next hW) (pr_rn m false) (pr_ln m false) (pr_ribok m false hm1 hm7)
            have HRO := Lib.hid fun W (hW : Below w9.heap.size w9 W) => round_any W (HT.out.next hW) (pr_rn m false) (pr_ln m false) (pr_ribok m false hm1 hm7) (fun y hy => ⟨(pr_ports m false hm1 hm7 y hy).1, (pr_ports m false hm1 hm7 y hy).2.1⟩) (by show (prRs m).length ≤ 1000; rw [prRs_len]; omega) (show ([] : List Int).length ≤ 12 by decide) (show Apart (sortA []) from fun k hk => absurd hk (by show ¬ (k + 1 < 0); omega)) (show IsAs (sortA []) from fun a ha => by cases ha)
            rw [HP1.out] at HCC
            rw [HP2.out] at HTO
            rw [HP3.out] at HRO
            dsimp only [List.length_nil] at HCC HTO
            clear HP1 HP2 HP3
            generalize adr 1 200 = AT at *
            go_upto_region 22 with (first
              | (go_at_call 10; refine (HAT.out _).mono ?_; rintro e wx ⟨rfl, rfl⟩)
              | (go_at_call 9; refine (HCC.out _ (Below.refl _ _)).mono ?_; rintro e w10 ⟨A10, c10, rfl, _, hb10⟩; have HB10 := Lib.hid hb10; clear hb10))
            go_upto_region 23 with (first
              | (go_at_call 10; refine (HAT.out _).mono ?_; rintro e wx ⟨rfl, rfl⟩)
              | (go_at_call 17; refine (HTO.out _ HB10.out).mono ?_; rintro e w11 ⟨rfl, hb11⟩; have HB11 := Lib.hid (below_next HB10.out hb11); clear hb11))
            have e0 : (w11.alloc (.cells #[.int .i64 (q : Int), .int .i64 ((u : Nat) : Int), .int .i64 0, .bool false] 63)).cell? ⟨w11.heap.size, 0, none⟩ = some (.int .i64 (q : Int)) := by go_simp
            have e1 : (w11.alloc (.cells #[.int .i64 (q : Int), .int .i64 ((u : Nat) : Int), .int .i64 0, .bool false] 63)).cell? ⟨w11.heap.size, 1, none⟩ = some (.int .i64 ((u : Nat) : Int)) := by go_simp
            have hl : w11.heap.size < (w11.alloc (.cells #[.int .i64 (q : Int), .int .i64 ((u : Nat) : Int), .int .i64 0, .bool false] 63)).heap.size := by simp
            have HB12 := Lib.hid (HB11.out.alloc HB11.out.size (.cells #[.int .i64 (q : Int), .int .i64 ((u : Nat) : Int), .int .i64 0, .bool false] 63))
            generalize w11.alloc (.cells #[.int .i64 (q : Int), .int .i64 ((u : Nat) : Int), .int .i64 0, .bool false] 63) = w12 at *
            have f0 := Snc.all fun W (hW : Below w12.heap.size w12 W) => (hW.cell (p := ⟨w11.heap.size, 0, none⟩) hl).trans e0
            have f1 := Snc.all fun W (hW : Below w12.heap.size w12 W) => (hW.cell (p := ⟨w11.heap.size, 1, none⟩) hl).trans e1
            have R0 : ∀ P : Snc w12, Calls Tryz.prog 12 #[.pointer (some ⟨T.N, 0, none⟩)] P.W fun e w' => e = .returned (.bool false) ∧ ∃ Q : Snc w12, w' = Q.W := fun P => Calls.since (HRO.out P.W (below_next HB12.out P.b))
            clear e0 e1 hl
            refine wp_region_since (by kernel_rfl) (by kernel_rfl) ?_
            repeat (go_big_quiet_step ((go_at_call 12; exact R0 _)))
            refine wpQuiet_nil ?_
            rintro w13 ⟨P13, rfl⟩
            have HB13 := Lib.hid (HB9.out.trans ((below_next HB12.out P13.b).mono HB9.out.size))
            clear f0 f1 R0
            go_wp2
            go_ret
            exact ⟨rfl, HB13.out⟩
          | true =>
            replace HP1 := Lib.hid (HP1.out true)
            replace HP2 := Lib.hid (HP2.out true)
            replace HP3 := Lib.hid (HP3.out true)
            have HSD := Lib.hid (send_any _ (prCfg m false) 1 1 wr hcw (by decide) (by decide) (by show (0 : Nat) ≤ 50; decide))
            dsimp only at HSD
            rw [show ((1 : Nat) : Int) = 1 from rfl] at HSD
            have hx : ({ prCfg m false with ss := (prCfg m false).ss ++ [((1 : Int), adr 1 (200 + 0), 3758161920 + 1)] } : Cfg) = prCfg m true := rfl
            have hss : (prCfg m false).ss ++ [((1 : Int), adr 1 (200 + 0), 3758161920 + 1)] = prSs true := rfl
            rw [hx] at HSD
            rw [hss] at HSD
            clear hcw hx hss
            go_upto_region 18 with (go_at_call 16; refine HSD.out.mono ?_; rintro e w6 ⟨g6, c6, rfl, hos6, hcw6, hb6⟩; have hk6 := HN.out.next hb6; have m0 : w6.cell? ⟨w3.heap.size, 0, none⟩ = some (.slice Ar (prRs m).length cr) := hk6.cell 0; have m1 : w6.cell? ⟨w3.heap.size, 1, none⟩ = some (.slice (some ⟨w2.heap.size, 0, none⟩) 2 2) := hk6.cell 1; have m2 : w6.cell? ⟨w3.heap.size, 2, none⟩ = some (.slice Ap (prPs m).length cp) := hk6.cell 2; have m3 : w6.cell? ⟨w3.heap.size, 3, none⟩ = some (.slice Ao (prOs m m).length co) := hk6.cell 3; have m4 : w6.cell? ⟨w3.heap.size, 4, none⟩ = some (.slice none 0 0) := hk6.cell 4; have m5 : w6.cell? ⟨w3.heap.size, 5, none⟩ = some (.slice none 0 0) := hk6.cell 5; have m6 : w6.cell? ⟨w3.heap.size, 6, none⟩ = some (.slice none 0 0) := hk6.cell 6; have z0 := hk6.frozen 0; have z1 := hk6.frozen 1; have z2 := hk6.frozen 2; have z3 := hk6.frozen 3; have z4 := hk6.frozen 4; have z5 := hk6.frozen 5; have z6 := hk6.frozen 6; have HK6 := Lib.hid hk6; have HOS6 := Lib.hid hos6; have HCW6 := Lib.hid hcw6; have HB6 := Lib.hid hb6; clear hk6 hos6 hcw6 hb6)
            clear n0 n1 n2 n3 n4 n5 n6
            obtain ⟨W8, hW8, hk8, hb8, ho8⟩ := store7 (W := w6) (b := w2.heap.size) HK6.out.slot (by have := HB3.out.size; have := HLB.out.lt; omega) (.slice Ar (prRs m).length cr) (.slice (some ⟨w2.heap.size, 0, none⟩) 2 2) (.slice Ap (prPs m).length cp) (.slice Ao (prOs m m).length co) (.slice none 0 0) (.slice (some ⟨g6, 0, none⟩) 1 c6) (.slice none 0 0)
            rw [← hW8]
            have hw23 : w2.heap.size ≤ w3.heap.size := by have := HLB.out.lt; omega
            have hw2r : w2.heap.size ≤ wr.heap.size := Nat.le_trans hw23 HI.out.lo.size
            have tr : ∀ {t' : TypeId} {k n b : Nat} {v : Value} {ys : List Value}, t' ≠ 37 → w2.heap.size ≤ b → wr.ownsRow b t' k v n ys → W8.ownsRow w2.heap.size t' k v n ys := fun ht hb ho => ho8 ht (ownk_up (ownk_next ho HB6.out) hb)
            have hlit : w3.ownsRow w2.heap.size 51 3 (.slice (some ⟨w2.heap.size, 0, none⟩) 2 2) 2 ((lsK 2).flatMap CLink) := ⟨rfl, .inr ⟨w2.heap.size, 2, _, rfl, Nat.le_refl _, HLB.out, Nat.le_refl _, by decide, rfl, rfl⟩⟩
            have ir8 := own_ir router_len rfl (tr (by decide) hw23 HI.out.r)
            have ip8 := own_ir port_len rfl (tr (by decide) hw23 HI.out.p)
            have io8 := own_ir route_len rfl (tr (by decide) hw23 HI.out.o)
            have il8 := own_ir link_len rfl (tr (by decide) (Nat.le_refl _) (ownk_next hlit HI.out.lo))
            have is8 := own_ir source_len rfl (ho8 (by decide) (ownk_up HOS6.out hw2r))
            have h6 := HCW6.out
            have hcw8 : CW W8 ⟨⟨Ar, (prRs m).length, cr⟩, ⟨some ⟨w2.heap.size, 0, none⟩, 2, 2⟩, ⟨Ap, (prPs m).length, cp⟩, ⟨Ao, (prOs m m).length, co⟩, ⟨none, 0, 0⟩, ⟨some ⟨g6, 0, none⟩, 1, c6⟩, ⟨none, 0, 0⟩⟩ (prCfg m true) :=
              ⟨ir8, il8, ip8, io8, IR.none_ _ _ _ _, is8, IR.none_ _ _ _ _, h6.rok, h6.lok, h6.pok, h6.ook, h6.gok, h6.sok, h6.mok, fun y hy => (by cases hy), h6.ok⟩
            have HB8 := Lib.hid (HB2.out.trans ((hb8 w2 ((HBr2.out).trans (HB6.out.mono hw2r))).mono HB2.out.size))
            have HNW := Lib.hid (new_ok ads _ (prCfg m true) (groupsL (grpL (prCfg m true))) W8 (HE.out.below HB8.out) hcw8 (pr_valid ⟨m, hm7⟩ true hm1) (pr_rn m true) (pr_ln m true) (fun W hW => tgrp_any _ (prCfg m true) W (hcw8.next hW) (show (nubA [3758161921]).length ≤ 12 by decide) (by show (1 : Nat) + 0 ≤ 1000000; decide)) (pr_ports m true hm1 hm7) (fun y hy => (by cases hy)))
            dsimp only at HNW
            have p0 : W8.cell? ⟨w3.heap.size, 0, none⟩ = some (.slice Ar (prRs m).length cr) := hk8.cell 0
            have p1 : W8.cell? ⟨w3.heap.size, 1, none⟩ = some (.slice (some ⟨w2.heap.size, 0, none⟩) 2 2) := hk8.cell 1
            have p2 : W8.cell? ⟨w3.heap.size, 2, none⟩ = some (.slice Ap (prPs m).length cp) := hk8.cell 2
            have p3 : W8.cell? ⟨w3.heap.size, 3, none⟩ = some (.slice Ao (prOs m m).length co) := hk8.cell 3
            have p4 : W8.cell? ⟨w3.heap.size, 4, none⟩ = some (.slice none 0 0) := hk8.cell 4
            have p5 : W8.cell? ⟨w3.heap.size, 5, none⟩ = some (.slice (some ⟨g6, 0, none⟩) 1 c6) := hk8.cell 5
            have p6 : W8.cell? ⟨w3.heap.size, 6, none⟩ = some (.slice none 0 0) := hk8.cell 6
            clear hW8 hk8 hb8 ho8 tr hlit ir8 ip8 io8 il8 is8 h6 hcw8 hw23 hw2r m0 m1 m2 m3 m4 m5 m6 z0 z1 z2 z3 z4 z5 z6
            go_upto_region 21 with (go_at_call 7; refine HNW.out.mono ?_; rintro e w9 ⟨T, x', rfl, hT, hal, hb9⟩; obtain rfl := alike_eq hal rfl; have HT := Lib.hid hT; have HB9 := Lib.hid (below_next HB8.out hb9); clear hT hal hb9)
            clear p0 p1 p2 p3 p4 p5 p6
            have HCC := Lib.hid fun W (hW : Below w9.heap.size w9 W) => chain_any (q : Int) (adr 1 200) (adr_u32 (by decide) (by decide)) W (HT.out.next hW) (pr_rn m true) (pr_ln m true) (pr_ribok m true hm1 hm7) (fun y hy => ⟨(pr_ports m true hm1 hm7 y hy).1, (pr_ports m true hm1 hm7 y hy).2.1⟩) (by show (prRs m).length ≤ 1000; rw [prRs_len]; omega)
            have HTO := Lib.hid fun W (hW : Below w9.heap.size w9 W) => to_any (q : Int) (adr 1 200) (adr_u32 (by decide) (by decide)) W (HT.out.next hW) (pr_rn m true) (pr_ln m true) (pr_ribok m true hm1 hm7)
            have HRO := Lib.hid fun W (hW : Below w9.heap.size w9 W) => round_any W (HT.out.next hW) (pr_rn m true) (pr_ln m true) (pr_ribok m true hm1 hm7) (fun y hy => ⟨(pr_ports m true hm1 hm7 y hy).1, (pr_ports m true hm1 hm7 y hy).2.1⟩) (by show (prRs m).length ≤ 1000; rw [prRs_len]; omega) (show ([adr 1 200] : List Int).length ≤ 12 by decide) (show Apart (sortA [adr 1 200]) from apart_one _) (show IsAs (sortA [adr 1 200]) from fun a ha => by simp [sort_one] at ha; subst ha; exact adr_u32 (by decide) (by decide))
            rw [HP1.out] at HCC
            rw [HP2.out] at HTO
            rw [HP3.out] at HRO
            dsimp only [List.length_nil] at HCC HTO
            clear HP1 HP2 HP3
            generalize adr 1 200 = AT at *
            go_upto_region 22 with (first
              | (go_at_call 10; refine (HAT.out _).mono ?_; rintro e wx ⟨rfl, rfl⟩)
              | (go_at_call 9; refine (HCC.out _ (Below.refl _ _)).mono ?_; rintro e w10 ⟨A10, c10, rfl, _, hb10⟩; have HB10 := Lib.hid hb10; clear hb10))
            go_upto_region 23 with (first
              | (go_at_call 10; refine (HAT.out _).mono ?_; rintro e wx ⟨rfl, rfl⟩)
              | (go_at_call 17; refine (HTO.out _ HB10.out).mono ?_; rintro e w11 ⟨rfl, hb11⟩; have HB11 := Lib.hid (below_next HB10.out hb11); clear hb11))
            have e0 : (w11.alloc (.cells #[.int .i64 (q : Int), .int .i64 ((u : Nat) : Int), .int .i64 0, .bool false] 63)).cell? ⟨w11.heap.size, 0, none⟩ = some (.int .i64 (q : Int)) := by go_simp
            have e1 : (w11.alloc (.cells #[.int .i64 (q : Int), .int .i64 ((u : Nat) : Int), .int .i64 0, .bool false] 63)).cell? ⟨w11.heap.size, 1, none⟩ = some (.int .i64 ((u : Nat) : Int)) := by go_simp
            have hl : w11.heap.size < (w11.alloc (.cells #[.int .i64 (q : Int), .int .i64 ((u : Nat) : Int), .int .i64 0, .bool false] 63)).heap.size := by simp
            have HB12 := Lib.hid (HB11.out.alloc HB11.out.size (.cells #[.int .i64 (q : Int), .int .i64 ((u : Nat) : Int), .int .i64 0, .bool false] 63))
            generalize w11.alloc (.cells #[.int .i64 (q : Int), .int .i64 ((u : Nat) : Int), .int .i64 0, .bool false] 63) = w12 at *
            have f0 := Snc.all fun W (hW : Below w12.heap.size w12 W) => (hW.cell (p := ⟨w11.heap.size, 0, none⟩) hl).trans e0
            have f1 := Snc.all fun W (hW : Below w12.heap.size w12 W) => (hW.cell (p := ⟨w11.heap.size, 1, none⟩) hl).trans e1
            have R0 : ∀ P : Snc w12, Calls Tryz.prog 12 #[.pointer (some ⟨T.N, 0, none⟩)] P.W fun e w' => e = .returned (.bool true) ∧ ∃ Q : Snc w12, w' = Q.W := fun P => Calls.since (HRO.out P.W (below_next HB12.out P.b))
            clear e0 e1 hl
            refine wp_region_since (by kernel_rfl) (by kernel_rfl) ?_
            repeat (go_big_quiet_step ((go_at_call 12; exact R0 _)))
            refine wpQuiet_nil ?_
            rintro w13 ⟨P13, rfl⟩
            have HB13 := Lib.hid (HB9.out.trans ((below_next HB12.out P13.b).mono HB9.out.size))
            clear f0 f1 R0
            go_wp2
            go_ret
            exact ⟨rfl, HB13.out⟩
end Go.Proofs.YtjbinmjjnneilaaGreatDoor

