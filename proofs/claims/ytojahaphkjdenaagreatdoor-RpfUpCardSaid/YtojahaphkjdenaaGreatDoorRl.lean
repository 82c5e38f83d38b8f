/- In a line each router knows each link; the chapter's example; over the seat's program. -/
import Derived.Test.YtojahaphkjdenaaGreatDoorRb
import Derived.Test.YtojahaphkjdenaaGreatDoorLt
import Derived.Test.YtojahaphkjdenaaGreatDoorLi
import Derived.Test.YtojahaphkjdenaaGreatDoorLp
import Derived.Test.YtojahaphkjdenaaGreatDoorAddr
namespace Go.Proofs.YtojahaphkjdenaaGreatDoor
open Go.RowKit Lx Sm Go.Maps
theorem portsOf_alike {x x' : Cfg} (h : Alike x x') (r : Int) : portsOf x' r = portsOf x r := by
  have ht : ∀ i k, tabs x' x'.ps.length x'.ps.length k 1 i = tabs x x.ps.length x.ps.length k 1 i := fun i k => by unfold tabs; rw [h.p]; rfl
  unfold portsOf rowIn
  rw [h.r]
  split
  · exact ht _ _
  · rfl
theorem tabs_one (x : Cfg) (k0 k1 k2 k2' i : Nat) : tabs x k0 k1 k2 1 i = tabs x k0 k1 k2' 1 i := rfl
theorem look_same {x x' : Cfg} (h : Alike x x') (r : Int) : ∀ (k : Nat) (a v c : Int), lookP x' r k a v c = lookP x r k a v c := by
  have hn : ∀ a, nearP x' r a = nearP x r a := fun a => by unfold nearP; rw [preP_alike h, portsOf_alike h]
  have hf : ∀ a, farP x' r a = farP x r a := fun a => by unfold farP routesOf; rw [preO_alike h, h.o]
  intro k
  induction k with
  | zero => intro a v c; rfl
  | succ k ih => intro a v c; unfold lookP; rw [hn, hf, h.o]; simp only [ih]
theorem lookA_same {x x' : Cfg} (h : Alike x x') (r a : Int) : lookA x' r a = lookA x r a := by unfold lookA; rw [look_same h]
theorem RibOK.alike {x x' : Cfg} (h : Alike x x') (k : RibOK x) : RibOK x' := ⟨by rw [h.l]; exact k.l, by rw [h.p, h.l]; exact k.p, by rw [h.o]; exact k.o, by rw [h.o]; exact k.c⟩
theorem look_at {b : Nat} {T : TP} {x x' : Cfg} {gs : List Int} (hal : Alike x x') (hok : RibOK x) (hrn : ∀ y ∈ x.rs, (str y.1).size ≤ 281474976710656) (hln : ∀ y ∈ x.ls, (str y.1).size ≤ 281474976710656) (r a0 : Int) (w : World) (h : TW w b T x' gs) :
    Calls Tryz.prog 38 #[.pointer (some ⟨T.N, 0, none⟩), .int .i64 r, .int .u32 a0] w fun e w' => e = .returned (.tuple #[.agg #[.int .i64 (lookA x r a0).1.1, .int .u32 (lookA x r a0).1.2.1, .int .i64 (lookA x r a0).1.2.2], .bool (lookA x r a0).2]) ∧ Below w.heap.size w w' := by
  have h1 := look_any r a0 w h (by rw [hal.r]; exact hrn) (by rw [hal.l]; exact hln) (hok.alike hal)
  rwa [lookA_same hal] at h1
theorem line_rib : ∀ n : Fin 9, (∀ y ∈ (lineCfg n.val 0).ls, 0 ≤ y.2.2 ∧ y.2.2 ≤ 32) ∧ (∀ y ∈ (lineCfg n.val 0).ps, 0 ≤ y.2.1 ∧ y.2.1 < (lineCfg n.val 0).ls.length) ∧ (∀ y ∈ (lineCfg n.val 0).os, 0 ≤ y.2.2.1 ∧ y.2.2.1 ≤ 32) ∧ (∀ y ∈ (lineCfg n.val 0).os, 0 ≤ y.2.2.2.2 ∧ y.2.2.2.2 ≤ 65535) := by decide +kernel
theorem line_ribok {n : Nat} (h : n ≤ 8) : RibOK (lineCfg n 0) := ⟨(line_rib ⟨n, by omega⟩).1, (line_rib ⟨n, by omega⟩).2.1, (line_rib ⟨n, by omega⟩).2.2.1, (line_rib ⟨n, by omega⟩).2.2.2⟩
theorem rib_line : ∀ n : Fin 9, ∀ r : Fin 8, ∀ l : Fin 9, r.val < n.val → l.val ≤ n.val → lookA (lineCfg n.val 0) r.val (adr l.val 77) =
    (if l.val < r.val then ((2 * (r.val : Int), adr r.val r.val, (r.val : Int) - l.val), true) else if r.val + 1 < l.val then ((2 * (r.val : Int) + 1, adr (r.val + 1) (r.val + 2), (l.val : Int) - r.val), true) else (((r.val : Int) + l.val, 0, 0), true)) := by decide +kernel
theorem rib_line_n (m q l : Nat) (hm : m ≤ 8) (hq : q < m) (hl : l ≤ m) : lookA (lineCfg m 0) q (adr l 77) =
    (if l < q then ((2 * (q : Int), adr q q, (q : Int) - l), true) else if q + 1 < l then ((2 * (q : Int) + 1, adr (q + 1) (q + 2), (l : Int) - q), true) else (((q : Int) + l, 0, 0), true)) := rib_line ⟨m, by omega⟩ ⟨q, by omega⟩ ⟨l, by omega⟩ hq hl
theorem rib_first : lookA (lineCfg 2 0) 0 (adr 0 9) = ((0, 0, 0), true) := by decide +kernel
set_option maxHeartbeats 4000000 in
set_option maxRecDepth 100000 in
theorem first9_any (ads : List Addr) (w : World) (hE : EnvC ads w) :
    Calls Tryz.prog 34 #[] w fun e w' => e = .returned (.bool true) ∧ Below w.heap.size w w' := by
  have HE := Lib.hid hE
  have HL := Lib.hid fun W => line_any 2 0 (by decide) (by decide) W
  have HA := Lib.hid fun W => naddr_any 0 9 (by decide) (by decide) W
  clear hE
  go_enter Tryz.func34, Tryz.ntmps34
  go_upto_region 4 with (first
    | (go_at_call 68; refine (HL.out _).mono ?_; rintro e w1 ⟨M, rfl, hcw, hb1⟩; have HN := Lib.hid (new_ok ads M (lineCfg 2 0) [] w1 (HE.out.below hb1) hcw (line_valid ⟨2, by omega⟩) (line_rn 2 0) (line_ln 2 0) (fun W _ => groups0_any M W hcw.s.len.symm hcw.m.len.symm) (line_ports 2 0) (fun y hy => (by cases hy))); have HB1 := Lib.hid hb1; clear hcw hb1)
    | (go_at_call 16; refine HN.out.mono ?_; rintro e w2 ⟨T, x', rfl, hT, hal, hb2⟩; have HT := Lib.hid hT; have HAL := Lib.hid hal; have HB2 := Lib.hid (below_next HB1.out hb2); clear hT hal hb2))
  have HLK := Lib.hid fun W (hW : Below w2.heap.size w2 W) => look_at HAL.out (line_ribok (by decide)) (line_rn 2 0) (line_ln 2 0) 0 (adr 0 9) W (HT.out.next hW)
  rw [rib_first] at HLK
  go_wp2_with (first
    | (go_at_call 71; refine (HA.out _).mono ?_; rintro e w3 ⟨rfl, rfl⟩)
    | (go_at_call 38; refine (HLK.out _ (Below.refl _ _)).mono ?_; rintro e w4 ⟨rfl, hb4⟩; have HB4 := Lib.hid (below_next HB2.out hb4); clear hb4))
  go_ret
  exact ⟨rfl, HB4.out.alloc HB4.out.size _⟩
theorem numb (a b : Int) (n : Nat) (hb : 0 < b) (hb1 : b ≤ 4294967296) (h : a % b = (n : Int)) (w : World) :
    Calls Tryz.prog 55 #[.int .i64 a, .int .i64 b] w fun e w' => e = .returned (.int .i64 (n : Int)) ∧ w = w' := by
  have := number_any a b w hb hb1
  rwa [h] at this
end Go.Proofs.YtojahaphkjdenaaGreatDoor

