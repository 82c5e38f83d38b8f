/- What is lost as a set in memory; fwd.outOf: the ports by which a row sends a packet on; over the seat's program. -/
import Derived.Test.YteibmegeoojleaaGc
import Derived.Maps.OwnSet
import Derived.WideKeyEntry
namespace Go.Proofs.Yteibmegeoojleaa
open Go.ChangeShapes Go.WideShapes Go.ChangeAt Go.RowKit Sm Go.Maps Go.ChangeMaps
/-- a lost port: the port, and the key -/
abbrev Lo := Int × (Int × Int)
def UK (p : Int × Int) : Prop := U32 p.1 ∧ U32 p.2
def CLo : Lo → List Value := fun x => [.int .i64 x.1, .int .u32 x.2.1, .int .u32 x.2.2]
def I64r (a : Int) : Prop := -9223372036854775808 ≤ a ∧ a ≤ 9223372036854775807
def wfLo (x : Lo) : Prop := I64r x.1 ∧ U32 x.2.1 ∧ U32 x.2.2
def lv (x : Lo) : Value := .agg #[.int .i64 x.1, .int .u32 x.2.1, .int .u32 x.2.2]
theorem lv_inj {p q : Lo} (h : lv p = lv q) : p = q := by
  unfold lv at h
  simp at h
  exact Prod.ext h.1 (Prod.ext h.2.1 h.2.2)
theorem laidLo : laidOutB Try.prog = true := by kernel_rfl
theorem lawLo : WideMaps.KeyLaw Try.prog 52 := deep_law_laid laidLo (m := 3) (by omega) (of_decide_eq_true (by kernel_rfl)) (by kernel_rfl) (by kernel_rfl)
theorem keyTLo : Try.prog.keyType 52 = true := by kernel_rfl
theorem cellsLo : Try.prog.cellsOf 52 = 3 := by kernel_rfl
theorem cellsLK : Try.prog.cellsOf 27 = 2 := by kernel_rfl
theorem cellsLA : Try.prog.cellsOf 25 = 1 := by kernel_rfl
theorem cellsLI : Try.prog.cellsOf 3 = 1 := by kernel_rfl
theorem keyedLo : Keyed Try.prog 52 := Keyed.of_law lawLo
set_option maxRecDepth 100000 in
theorem lv_key' {x : Lo} (h : wfLo x) : ∃ kl, keyOf Try.prog 52 (lv x) = some kl := by
  obtain ⟨⟨a0, a1⟩, ⟨b0, b1⟩, ⟨c0, c1⟩⟩ := h
  have wa : (Lit.int .i64 x.1).wf = true := by simp [Lit.wf, IntKind.min, IntKind.max, IntKind.signed, IntKind.bits]; omega
  have wb : (Lit.int .u32 x.2.1).wf = true := by simp [Lit.wf, IntKind.min, IntKind.max, IntKind.signed, IntKind.bits]; omega
  have wc : (Lit.int .u32 x.2.2).wf = true := by simp [Lit.wf, IntKind.min, IntKind.max, IntKind.signed, IntKind.bits]; omega
  have hf : (lv x).formed Try.prog 52 = true := by simp [lv, Value.formed, Try.underlying52, cellsLo]
  unfold keyOf
  simp only [Try.underlying52, keyTLo, hf, Bool.and_self, if_true]
  have hl : ∀ n, ∃ ls, Try.prog.keyLits (n + 3) 52 (lv x).cells.toList = some ls := by
    intro n
    simp [Program.keyLits, lv, Value.cells, Try.underlying52, Try.underlying27, Try.underlying25, Try.underlying3, cellsLo, cellsLK, cellsLA, cellsLI, wa, wb, wc]
    rw [if_pos (by decide)]
    exact ⟨_, rfl⟩
  have hs : ∃ n, Try.prog.types.size + 1 = n + 3 := ⟨Try.prog.types.size - 2, by
    have : 2 ≤ Try.prog.types.size := of_decide_eq_true (by kernel_rfl)
    omega⟩
  obtain ⟨n, hn⟩ := hs
  obtain ⟨ls, hls⟩ := hl n
  rw [hn, hls]
  exact ⟨_, rfl⟩
noncomputable def llit (x : Lo) : Lit := (keyOf Try.prog 52 (lv x)).getD (.bool false)
theorem lv_key {x : Lo} (h : wfLo x) : keyOf Try.prog 52 (lv x) = some (llit x) := by
  obtain ⟨kl, hk⟩ := lv_key' h
  unfold llit
  rw [hk]; rfl
theorem llit_inj {p q : Lo} (hp : wfLo p) (hq : wfLo q) (h : llit p = llit q) : p = q := by
  have h1 := lv_key hp
  rw [h] at h1
  exact lv_inj (keyedLo.inj h1 (lv_key hq))
theorem llit_key {a : Lo} (h : wfLo a) : WideAt.IsKeyLit (llit a) := keyedLo.key (lv_key h)
/-- the set of these -/
def SetLo (D : DataW Unit) (L : List Lo) : Prop := IsMap D ∧ ∀ a, wfLo a → Maps.has D (llit a) = decide (a ∈ L)
theorem set_nil : SetLo (.map []) [] := ⟨⟨_, rfl⟩, fun a _ => by simp [Maps.has]⟩
theorem set_put {D : DataW Unit} {L : List Lo} (h : SetLo D L) {a : Lo} (ha : wfLo a) : SetLo (D.put (llit a) (.agg [])) (L ++ [a]) := by
  refine ⟨h.1.put _ _, fun b hb => ?_⟩
  by_cases e : a = b
  · subst e
    rw [has_put_same h.1 (llit_key ha)]
    simp
  · have hne : llit b ≠ llit a := fun q => e (llit_inj ha hb q.symm)
    rw [has_put_other hne, h.2 b hb]
    simp [Ne.symm e]
theorem zeroUn (w : World) : (zeroValue 62).run Try.prog w = .ok (.agg #[]) w := by kernel_rfl
theorem grown_tr {w w' w'' : World} {b : Option Nat} (h : w.grownBy w' b) (h' : w'.grownBy w'' b) : w.grownBy w'' b :=
  ⟨h'.os.trans h.os, h'.tape.trans h.tape, h'.output.trans h.output, Nat.le_trans h.size h'.size, fun k hk hb => (h'.block k (Nat.lt_of_lt_of_le hk h.size) hb).trans (h.block k hk hb)⟩
theorem grown_bel0 {w w' : World} {b : Option Nat} (h : Below w.heap.size w w') : w.grownBy w' b := ⟨h.os, h.tape, h.output, h.size, fun k hk _ => h.block k hk⟩
theorem Blk.gr {w w' : World} {g : Nat} {t : TypeId} {cs : Array Value} {b : Option Nat} (h : Blk w g t cs) (hg : w.grownBy w' b) (hn : some g ≠ b) : Blk w' g t cs := (hg.block g h.lt hn).trans h
theorem ownsMap_at {w w' : World} {mb n : Nat} {D : DataW Unit} (h : w.ownsMap Try.prog 52 (unitElem (H := Unit)) mb n D) (hb : w'.heap[mb]? = w.heap[mb]?) : w'.ownsMap Try.prog 52 (unitElem (H := Unit)) mb n D := by
  obtain ⟨es, clock, h1, h2⟩ := h
  exact ⟨es, clock, hb.trans h1, h2⟩
/-- what the function value asks of the world: the variable of the set, the set, the variable of the packet -/
structure OutW (W : World) (Nm Np mb : Nat) (L : List Lo) (pk : Int × Int) (pp : Int) : Prop where
  m : Blk W Nm 61 #[.map (some mb)]
  p : Blk W Np 29 #[.int .u32 pk.1, .int .u32 pk.2, .int .i64 pp]
  s : ∃ n D, SetLo D L ∧ W.ownsMap Try.prog 52 (unitElem (H := Unit)) mb n D
theorem OutW.gr {W W' : World} {Nm Np mb : Nat} {L : List Lo} {pk : Int × Int} {pp : Int} {b : Option Nat} (h : OutW W Nm Np mb L pk pp) (hg : W.grownBy W' b) (h1 : some Nm ≠ b) (h2 : some Np ≠ b) (h3 : some mb ≠ b) : OutW W' Nm Np mb L pk pp := by
  obtain ⟨n, D, hs, ho⟩ := h.s
  exact ⟨h.m.gr hg h1, h.p.gr hg h2, n, D, hs, ownsMap_at ho (hg.block mb ho.lt h3)⟩
set_option maxRecDepth 100000 in
theorem oclos_any (x : Int) (Nm Np mb : Nat) (L : List Lo) (pk : Int × Int) (pp : Int) (W : World) (h : OutW W Nm Np mb L pk pp) (hw : wfLo (x, pk)) :
    Calls Try.prog 25 #[.int .i64 x, .pointer (some ⟨Nm, 0, none⟩), .pointer (some ⟨Np, 0, none⟩)] W fun e w' => e = .returned (.bool (decide ((x, pk) ∈ L) || x == pp)) ∧ Below W.heap.size W w' := by
  obtain ⟨k1, k2⟩ := pk
  obtain ⟨n, D, hs, ho⟩ := h.s
  have c0 : W.cell? ⟨Nm, 0, none⟩ = some (.map (some mb)) := h.m.cell 0
  have p0 : W.cell? ⟨Np, 0, none⟩ = some (.int .u32 k1) := h.p.cell 0
  have p1 : W.cell? ⟨Np, 1, none⟩ = some (.int .u32 k2) := h.p.cell 1
  have hb := Lib.hid ((Below.refl W.heap.size W).alloc (Nat.le_refl _) (.cells #[] 62))
  have q2 := (hb.out.cell (p := ⟨Np, 2, none⟩) h.p.lt).trans (show W.cell? ⟨Np, 2, none⟩ = some (.int .i64 pp) from h.p.cell 2)
  have hh := hs.2 (x, k1, k2) hw
  have hkey := lv_key hw
  have hval : (Value.agg #[.int .i64 x, .int .u32 k1, .int .u32 k2]) = lv (x, k1, k2) := rfl
  clear hs hw
  generalize decide ((x, k1, k2) ∈ L) = V at *
  cases V with
  | true =>
    go_enter Try.func25, Try.ntmps25
    go_wp2_with (at_lookup; refine wpList_lookup_own_unit _ rfl _ _ 61 rfl 52 62 keyedLo Try.underlying61 (zeroUn _) mb n D rfl ho (lv (x, k1, k2)) _ rfl hkey ?_; rw [hh])
    go_ret
    exact ⟨rfl, hb.out⟩
  | false =>
    go_enter Try.func25, Try.ntmps25
    go_wp2_with (at_lookup; refine wpList_lookup_own_unit _ rfl _ _ 61 rfl 52 62 keyedLo Try.underlying61 (zeroUn _) mb n D rfl ho (lv (x, k1, k2)) _ rfl hkey ?_; rw [hh])
    go_ret
    exact ⟨rfl, hb.out⟩
theorem eClosO : ∀ args w, (callFunc 25 args).run Try.prog w = .ok (.enter 25 args) w := enters_of Try.func25 (by kernel_rfl) rfl
/-- the ports by which a row sends a packet on -/
def outL (xs : List Int) (L : List Lo) (pk : Int × Int) (pp : Int) : List Int := xs.filter fun x => !(decide ((x, pk) ∈ L) || x == pp)
theorem run_makeLo (w : World) (k : Int) : (Instr.makeMap 61 (some (.int .i64 k))).run Try.prog w = .ok (.map (some w.heap.size)) (w.alloc (.map #[] 0)) := by
  simp [Instr.makeMap, run_underlying Try.underlying61, asInt, asIntOf, Result.andThen]
set_option maxRecDepth 100000 in
set_option maxHeartbeats 4000000 in
theorem outOf_any (B : Nat) (p : PRow) (A : Option Addr) (c : Nat) (B2 : Option Addr) (n2 c2 : Nat) (L : List Lo) (pk : Int × Int) (pp : Int) (w : World) (hr : w.ownsRow B 3 1 (.slice A p.xs.length c) p.xs.length (I64 p.xs)) (hx : p.xs.length ≤ 1000) (hxw : ∀ x ∈ p.xs, I64r x)
    (hl : RI CLo 3 w B2 n2 L) (hlw : ∀ x ∈ L, wfLo x) (hln : n2 ≤ 1000) (hkk : UK pk) :
    Calls Try.prog 19 #[.agg #[.int .i64 p.r, .int .i64 p.i, .int .i64 p.u, .int .u32 p.k.1, .int .u32 p.k.2, .slice A p.xs.length c], .slice B2 n2 c2, .agg #[.int .u32 pk.1, .int .u32 pk.2, .int .i64 pp]] w fun e w' =>
      ∃ A' c', e = .returned (.slice A' (outL p.xs L pk pp).length c') ∧ JR w' A' (outL p.xs L pk pp).length (outL p.xs L pk pp) ∧ w.grownBy w' (Value.slice A p.xs.length c).ownBlock ∧ ∀ a, A' = some a → some a.block = (Value.slice A p.xs.length c).ownBlock := by
  have hmm := run_makeLo
  have HR := Lib.hid hr
  have HL := Lib.hid hl
  have hn0 : (0 : Int) ≤ n2 := by omega
  have hn1 : (n2 : Int) ≤ 9223372036854775807 := by omega
  clear hr hl
  go_enter Try.func19, Try.ntmps19
  go_upto_region 2 with fail
  have HB1 : Hid (Below w.heap.size w ((((w.alloc (.cells #[.int .i64 p.r, .int .i64 p.i, .int .i64 p.u, .int .u32 p.k.1, .int .u32 p.k.2, .slice A p.xs.length c] 43)).alloc (.cells #[.int .u32 pk.1, .int .u32 pk.2, .int .i64 pp] 29)).alloc (.map #[] 0)).alloc (.cells #[.map (some (w.heap.size + 1 + 1))] 61))) := Lib.hid ((((((Below.refl w.heap.size w).alloc (Nat.le_refl _) _).alloc (by simp) _).alloc (by simp <;> omega) _).alloc (by simp <;> omega) _))
  have HRW : Hid (Blk ((((w.alloc (.cells #[.int .i64 p.r, .int .i64 p.i, .int .i64 p.u, .int .u32 p.k.1, .int .u32 p.k.2, .slice A p.xs.length c] 43)).alloc (.cells #[.int .u32 pk.1, .int .u32 pk.2, .int .i64 pp] 29)).alloc (.map #[] 0)).alloc (.cells #[.map (some (w.heap.size + 1 + 1))] 61)) w.heap.size 43 #[.int .i64 p.r, .int .i64 p.i, .int .i64 p.u, .int .u32 p.k.1, .int .u32 p.k.2, .slice A p.xs.length c]) := Lib.hid ((((Blk.new _ _ _).alloc _).alloc _).alloc _)
  have HPK : Hid (Blk ((((w.alloc (.cells #[.int .i64 p.r, .int .i64 p.i, .int .i64 p.u, .int .u32 p.k.1, .int .u32 p.k.2, .slice A p.xs.length c] 43)).alloc (.cells #[.int .u32 pk.1, .int .u32 pk.2, .int .i64 pp] 29)).alloc (.map #[] 0)).alloc (.cells #[.map (some (w.heap.size + 1 + 1))] 61)) (w.heap.size + 1) 29 #[.int .u32 pk.1, .int .u32 pk.2, .int .i64 pp]) := Lib.hid (by
    have := Blk.new (w.alloc (.cells #[.int .i64 p.r, .int .i64 p.i, .int .i64 p.u, .int .u32 p.k.1, .int .u32 p.k.2, .slice A p.xs.length c] 43)) 29 #[.int .u32 pk.1, .int .u32 pk.2, .int .i64 pp]
    have h1 := (this.alloc (.map #[] 0)).alloc (.cells #[.map (some (w.heap.size + 1 + 1))] 61)
    simpa using h1)
  have HNM : Hid (Blk ((((w.alloc (.cells #[.int .i64 p.r, .int .i64 p.i, .int .i64 p.u, .int .u32 p.k.1, .int .u32 p.k.2, .slice A p.xs.length c] 43)).alloc (.cells #[.int .u32 pk.1, .int .u32 pk.2, .int .i64 pp] 29)).alloc (.map #[] 0)).alloc (.cells #[.map (some (w.heap.size + 1 + 1))] 61)) (w.heap.size + 1 + 1 + 1) 61 #[.map (some (w.heap.size + 1 + 1))]) := Lib.hid (by
    have := Blk.new (((w.alloc (.cells #[.int .i64 p.r, .int .i64 p.i, .int .i64 p.u, .int .u32 p.k.1, .int .u32 p.k.2, .slice A p.xs.length c] 43)).alloc (.cells #[.int .u32 pk.1, .int .u32 pk.2, .int .i64 pp] 29)).alloc (.map #[] 0)) 61 #[.map (some (w.heap.size + 1 + 1))]
    simpa using this)
  have HMP : Hid (((((w.alloc (.cells #[.int .i64 p.r, .int .i64 p.i, .int .i64 p.u, .int .u32 p.k.1, .int .u32 p.k.2, .slice A p.xs.length c] 43)).alloc (.cells #[.int .u32 pk.1, .int .u32 pk.2, .int .i64 pp] 29)).alloc (.map #[] 0)).alloc (.cells #[.map (some (w.heap.size + 1 + 1))] 61)).ownsMap Try.prog 52 (unitElem (H := Unit)) (w.heap.size + 1 + 1) 0 (.map [])) := Lib.hid (by
    have := (World.ownsMap_made (((w.alloc (.cells #[.int .i64 p.r, .int .i64 p.i, .int .i64 p.u, .int .u32 p.k.1, .int .u32 p.k.2, .slice A p.xs.length c] 43)).alloc (.cells #[.int .u32 pk.1, .int .u32 pk.2, .int .i64 pp] 29))) Try.prog 52 (unitElem (H := Unit))).alloc (.cells #[.map (some (w.heap.size + 1 + 1))] 61)
    simpa using this)
  clear hmm
  generalize ((((w.alloc (.cells #[.int .i64 p.r, .int .i64 p.i, .int .i64 p.u, .int .u32 p.k.1, .int .u32 p.k.2, .slice A p.xs.length c] 43)).alloc (.cells #[.int .u32 pk.1, .int .u32 pk.2, .int .i64 pp] 29)).alloc (.map #[] 0)).alloc (.cells #[.map (some (w.heap.size + 1 + 1))] 61)) = W1 at *
  generalize hNm : w.heap.size + 1 + 1 + 1 = Nm at *
  generalize hmb : w.heap.size + 1 + 1 = mb at *
  generalize hNp : w.heap.size + 1 = Np at *
  have HLT : Hid (w.heap.size ≤ Np ∧ w.heap.size ≤ mb ∧ w.heap.size ≤ Nm ∧ w.heap.size ≠ mb ∧ Np ≠ mb ∧ Nm ≠ mb) := Lib.hid (by omega)
  clear hNp hmb hNm
  have HBW : ∀ {wr : World}, W1.grownBy wr (some mb) → Below w.heap.size w wr := fun hg => ⟨hg.os.trans HB1.out.os, hg.tape.trans HB1.out.tape, hg.output.trans HB1.out.output, Nat.le_trans HB1.out.size hg.size, fun k hk => (hg.block k (Nat.lt_of_lt_of_le hk HB1.out.size) (fun e => by cases e; have := HLT.out.2.1; omega)).trans (HB1.out.block k hk)⟩
  have HLL : Hid (L.length = n2) := Lib.hid HL.out.len
  go_wp2_with fail
  go_loopw [15] (fun iv wr => ∃ (k : Nat) (D : DataW Unit), k ≤ n2 ∧ iv = .int .i64 k ∧ Hid (SetLo D (L.take k) ∧ wr.ownsMap Try.prog 52 (unitElem (H := Unit)) mb k D ∧ W1.grownBy wr (some mb))) (fun iv _ => n2 - (intOf iv).toNat)
  case atStart => exact ⟨0, .map [], Nat.zero_le _, rfl, Lib.hid ⟨set_nil, HMP.out, ⟨rfl, rfl, rfl, Nat.le_refl _, fun _ _ _ => rfl⟩⟩⟩
  case round =>
    obtain ⟨k, D, hk, rfl, HI⟩ := hrel
    have HBr := Lib.hid (HBW HI.out.2.2)
    rcases Nat.lt_or_ge k n2 with hlt | hge
    · have hi0 : (k : Int) < (n2 : Int) := by omega
      obtain ⟨b5, o5, x, rfl, hbl, hx, hcl⟩ := (HL.out.next HBr.out).at_ hlt
      have HW := Lib.hid (hlw x (List.mem_of_getElem? hx))
      have HT : Hid (L.take (k + 1) = L.take k ++ [x]) := Lib.hid (by rw [List.take_add_one, hx]; rfl)
      clear hx
      obtain ⟨x0, x1, x2⟩ := x
      have t0 : wr.cell? ⟨b5, o5 + k * 3, none⟩ = some (.int .i64 x0) := hcl 0 _ rfl
      have t1 : wr.cell? ⟨b5, o5 + k * 3 + 1, none⟩ = some (.int .u32 x1) := hcl 1 _ rfl
      have t2 : wr.cell? ⟨b5, o5 + k * 3 + 2, none⟩ = some (.int .u32 x2) := hcl 2 _ rfl
      clear hcl hbl
      obtain ⟨W8, hrun8, hm8, hg8⟩ := (HI.out.2.1.alloc (.cells #[.int .i64 x0, .int .u32 x1, .int .u32 x2] 52)).update (val := .agg #[]) keyedLo Try.underlying61 (by unfold maxLen; omega) (lv_key HW.out) (unitElem_mk (H := Unit))
      have hrun9 : (Instr.mapUpdate 61 (.map (some mb)) (.agg #[.int .i64 x0, .int .u32 x1, .int .u32 x2]) (.agg #[])).run Try.prog (wr.alloc (.cells #[.int .i64 x0, .int .u32 x1, .int .u32 x2] 52)) = .ok () W8 := hrun8
      have HI8 : Hid (SetLo (D.put (llit (x0, x1, x2)) (.agg [])) (L.take (k + 1)) ∧ W8.ownsMap Try.prog 52 (unitElem (H := Unit)) mb (k + 1) (D.put (llit (x0, x1, x2)) (.agg [])) ∧ W1.grownBy W8 (some mb)) :=
        Lib.hid ⟨by rw [HT.out]; exact set_put HI.out.1 HW.out, hm8, grown_tr (grown_tr HI.out.2.2 (grown_bel0 ((Below.refl wr.heap.size wr).alloc (Nat.le_refl _) _))) hg8⟩
      have cm : (wr.alloc (.cells #[.int .i64 x0, .int .u32 x1, .int .u32 x2] 52)).cell? ⟨Nm, 0, none⟩ = some (.map (some mb)) := ((HNM.out.gr HI.out.2.2 (fun e => by cases e; exact HLT.out.2.2.2.2.2 rfl)).alloc _).cell 0
      clear hrun8 hm8 hg8
      go_wp2
      go_roundw
      case rel => exact ⟨k + 1, _, by omega, by go_num, HI8⟩
      case measure => simp [intOf]; omega
    · obtain rfl : k = n2 := by omega
      have HOW : Hid (OutW wr Nm Np mb L pk pp) := Lib.hid ⟨HNM.out.gr HI.out.2.2 (fun e => by cases e; exact HLT.out.2.2.2.2.2 rfl), HPK.out.gr HI.out.2.2 (fun e => by cases e; exact HLT.out.2.2.2.2.1 rfl), k, D, by have := HI.out.1; rwa [← HLL.out, List.take_length] at this, HI.out.2.1⟩
      have hRW := HRW.out.gr HI.out.2.2 (fun e => by cases e; exact HLT.out.2.2.2.1 rfl)
      have c5 : wr.cell? ⟨w.heap.size, 5, none⟩ = some (.slice A p.xs.length c) := hRW.cell 5
      have HOR : Hid (wr.ownsRow B 3 1 (.slice A p.xs.length c) p.xs.length (I64 p.xs)) := Lib.hid (own_at HR.out (fun g hg => HBr.out.block g (HR.out.lt g hg).2))
      have HNE : Hid (∀ N, w.heap.size ≤ N → some N ≠ (Value.slice A p.xs.length c).ownBlock) := Lib.hid (fun N hN e => by have := (HR.out.lt N e.symm).2; omega)
      have HD := Lib.hid (delO_any 25 #[.pointer (some ⟨Nm, 0, none⟩), .pointer (some ⟨Np, 0, none⟩)] eClosO (fun x => decide ((x, pk) ∈ L) || x == pp) B c A p.xs wr HOR.out (by omega) (fun W x hg hxm => oclos_any x Nm Np mb L pk pp W (HOW.out.gr hg (HNE.out Nm HLT.out.2.2.1) (HNE.out Np HLT.out.1) (HNE.out mb HLT.out.2.1)) ⟨hxw x hxm, hkk⟩))
      have HO : Hid (outL p.xs L pk pp = p.xs.filter fun x => !(decide ((x, pk) ∈ L) || x == pp)) := Lib.hid rfl
      rw [← HO.out] at HD
      obtain ⟨X, hX⟩ : ∃ X, outL p.xs L pk pp = X := ⟨_, rfl⟩
      have HX := Lib.hid hX
      rw [hX] at HD
      clear hX
      clear hRW
      go_wp2_with (go_at_call 24; refine HD.out.mono ?_; rintro e w5 ⟨A5, c5', rfl, hj5, hg5, ha5⟩; have HJ5 := Lib.hid hj5; have HG5 := Lib.hid hg5; have HA5 := Lib.hid ha5; clear hj5 hg5 ha5)
      go_ret
      rw [HX.out]
      exact ⟨_, _, rfl, HJ5.out, ⟨HG5.out.os.trans HBr.out.os, HG5.out.tape.trans HBr.out.tape, HG5.out.output.trans HBr.out.output, Nat.le_trans HBr.out.size HG5.out.size, fun k hk hne => (HG5.out.block k (Nat.lt_of_lt_of_le hk HBr.out.size) hne).trans (HBr.out.block k hk)⟩, HA5.out⟩
end Go.Proofs.Yteibmegeoojleaa

