/- The contracts of addr.Parse and addr.ParsePrefix. Conditions: the text is shorter than 2^32 - 15 bytes; the world has the variable of package bytealg that a search reads, and api.ErrAddr holds the value er. -/
import Derived.Test.YtcnkbhmhbbpmhaaDoorNum
import Derived.Test.YtcnkbhmhbbpmhaaDoorText
import Derived.Deep.LoopGhost
namespace Go.Proofs.YtcnkbhmhbbpmhaaDoor
open Go.RowKit
/-- what parsing reads of the world: a number in the library's variable; an error in the project's -/
def EnvP (er : Value) (w : World) : Prop := (∃ m : Int, w.cell? ⟨1, 0, none⟩ = some (.int .i64 m)) ∧ w.cell? ⟨0, 0, none⟩ = some er
theorem EnvP.below {er : Value} {w w' : World} (h : EnvP er w) (hb : Below w.heap.size w w') : EnvP er w' := by
  obtain ⟨⟨m, hm⟩, he⟩ := h
  exact ⟨⟨m, (hb.cell (World.block_lt_of_cell? w _ hm)).trans hm⟩, (hb.cell (World.block_lt_of_cell? w _ he)).trans he⟩
namespace Ad
def parts (s : ByteArray) : List ByteArray := Lib.splitB ⟨#[46]⟩ 0 (min 5 (s.size + 1) - 1) s
def byteYes (p : ByteArray) : Bool := numYes p.data.toList 255
def byteV (p : ByteArray) : Int := (val p.data.toList : Int)
def parseL : List ByteArray → Option Int
  | [p0, p1, p2, p3] => if byteYes p0 && (byteYes p1 && (byteYes p2 && byteYes p3)) then some (byteV p0 * 16777216 + byteV p1 * 65536 + byteV p2 * 256 + byteV p3) else none
  | _ => none
def parse (s : ByteArray) : Option Int := parseL (parts s)
end Ad
/-- what Parse answers: an address and no error, or the error -/
def parseV (er : Value) : Option Int → Value
  | some a => .tuple #[.int .u32 a, .nilIface]
  | none => .tuple #[.int .u32 0, er]
theorem parseL_len {l : List ByteArray} (h : l.length ≠ 4) : Ad.parseL l = none := by
  match l, h with
  | [], _ => rfl
  | [_], _ => rfl
  | [_, _], _ => rfl
  | [_, _, _], _ => rfl
  | [_, _, _, _], h => simp at h
  | _ :: _ :: _ :: _ :: _ :: _, _ => rfl
namespace Ad
/-- the block of bytes when k parts have been read -/
def arrP (p0 p1 p2 p3 : ByteArray) : Nat → Array Value
  | 0 => #[.int .u8 0, .int .u8 0, .int .u8 0, .int .u8 0]
  | 1 => #[.int .u8 (byteV p0), .int .u8 0, .int .u8 0, .int .u8 0]
  | 2 => #[.int .u8 (byteV p0), .int .u8 (byteV p1), .int .u8 0, .int .u8 0]
  | 3 => #[.int .u8 (byteV p0), .int .u8 (byteV p1), .int .u8 (byteV p2), .int .u8 0]
  | _ => #[.int .u8 (byteV p0), .int .u8 (byteV p1), .int .u8 (byteV p2), .int .u8 (byteV p3)]
def okTo (p0 p1 p2 p3 : ByteArray) : Nat → Bool
  | 0 => true
  | 1 => byteYes p0
  | 2 => byteYes p0 && byteYes p1
  | 3 => byteYes p0 && (byteYes p1 && byteYes p2)
  | _ => byteYes p0 && (byteYes p1 && (byteYes p2 && byteYes p3))
end Ad
section
variable {p0 p1 p2 p3 : ByteArray}
theorem okTo_next0 (_h : Ad.okTo p0 p1 p2 p3 0 = true) (g : Ad.byteYes p0 = true) : Ad.okTo p0 p1 p2 p3 1 = true := g
theorem okTo_next1 (h : Ad.okTo p0 p1 p2 p3 1 = true) (g : Ad.byteYes p1 = true) : Ad.okTo p0 p1 p2 p3 2 = true := by
  have h' : Ad.byteYes p0 = true := h
  show (Ad.byteYes p0 && Ad.byteYes p1) = true
  rw [h', g]; rfl
theorem okTo_next2 (h : Ad.okTo p0 p1 p2 p3 2 = true) (g : Ad.byteYes p2 = true) : Ad.okTo p0 p1 p2 p3 3 = true := by
  have h' : (Ad.byteYes p0 && Ad.byteYes p1) = true := h
  show (Ad.byteYes p0 && (Ad.byteYes p1 && Ad.byteYes p2)) = true
  simp at h'; rw [h'.1, h'.2, g]; rfl
theorem okTo_next3 (h : Ad.okTo p0 p1 p2 p3 3 = true) (g : Ad.byteYes p3 = true) : Ad.okTo p0 p1 p2 p3 4 = true := by
  have h' : (Ad.byteYes p0 && (Ad.byteYes p1 && Ad.byteYes p2)) = true := h
  show (Ad.byteYes p0 && (Ad.byteYes p1 && (Ad.byteYes p2 && Ad.byteYes p3))) = true
  simp at h'; rw [h'.1, h'.2.1, h'.2.2, g]; rfl
theorem okTo_at (h : Ad.okTo p0 p1 p2 p3 4 = true) : Ad.byteYes p0 = true ∧ Ad.byteYes p1 = true ∧ Ad.byteYes p2 = true ∧ Ad.byteYes p3 = true := by
  have h' : (Ad.byteYes p0 && (Ad.byteYes p1 && (Ad.byteYes p2 && Ad.byteYes p3))) = true := h
  simpa using h'
theorem parseL_if : Ad.parseL [p0, p1, p2, p3] = if (Ad.byteYes p0 && (Ad.byteYes p1 && (Ad.byteYes p2 && Ad.byteYes p3))) = true then some (Ad.byteV p0 * 16777216 + Ad.byteV p1 * 65536 + Ad.byteV p2 * 256 + Ad.byteV p3) else none := rfl
theorem parseL_no0 (h : Ad.byteYes p0 = false) : Ad.parseL [p0, p1, p2, p3] = none := by rw [parseL_if, h]; rfl
theorem parseL_no1 (h : Ad.byteYes p1 = false) : Ad.parseL [p0, p1, p2, p3] = none := by rw [parseL_if, h]; simp
theorem parseL_no2 (h : Ad.byteYes p2 = false) : Ad.parseL [p0, p1, p2, p3] = none := by rw [parseL_if, h]; simp
theorem parseL_no3 (h : Ad.byteYes p3 = false) : Ad.parseL [p0, p1, p2, p3] = none := by rw [parseL_if, h]; simp
theorem parseL_yes (h : Ad.okTo p0 p1 p2 p3 4 = true) : Ad.parseL [p0, p1, p2, p3] = some (Ad.byteV p0 * 16777216 + Ad.byteV p1 * 65536 + Ad.byteV p2 * 256 + Ad.byteV p3) := by
  have h' : (Ad.byteYes p0 && (Ad.byteYes p1 && (Ad.byteYes p2 && Ad.byteYes p3))) = true := h
  rw [parseL_if, if_pos h']
theorem byteV_bd {p : ByteArray} (h : Ad.byteYes p = true) : 0 ≤ Ad.byteV p ∧ Ad.byteV p ≤ 255 := by
  unfold Ad.byteYes Ad.numYes at h
  simp at h
  unfold Ad.byteV
  omega
theorem num_byte (p : ByteArray) :
    (∃ v : Int, 0 ≤ v ∧ v ≤ 255 ∧ Ad.byteYes p = true ∧ Ad.byteV p = v ∧ ∀ W, Calls Tryd.prog 34 #[.string p, .int .i64 255] W fun e w' => e = .returned (.tuple #[.int .i64 v, .bool true]) ∧ W = w') ∨
    (Ad.byteYes p = false ∧ ∀ W, Calls Tryd.prog 34 #[.string p, .int .i64 255] W fun e w' => e = .returned (.tuple #[.int .i64 0, .bool false]) ∧ W = w') := by
  by_cases h : Ad.byteYes p = true
  · have hb := byteV_bd h
    refine .inl ⟨Ad.byteV p, hb.1, hb.2, h, rfl, fun W => (num_any p 255 W).mono fun e w' hh => ⟨hh.1.trans (ret_pair (num_some h).symm h), hh.2⟩⟩
  · have h' : Ad.byteYes p = false := by simpa using h
    refine .inr ⟨h', fun W => (num_any p 255 W).mono fun e w' hh => ⟨hh.1.trans (ret_pair (num_none h').symm h'), hh.2⟩⟩
end
set_option maxRecDepth 100000 in
set_option maxHeartbeats 2000000 in
theorem parse_any (s : ByteArray) (er : Value) (w : World) (hs : s.size < 4294967281) (hE : EnvP er w) :
    Calls Tryd.prog 10 #[.string s] w fun e w' => e = .returned (parseV er (Ad.parse s)) ∧ Below w.heap.size w w' := by
  obtain ⟨⟨m, hm⟩, he⟩ := hE
  have hml := World.block_lt_of_cell? w _ hm
  have hel := World.block_lt_of_cell? w _ he
  have HM := Lib.hid hm
  have HE := Lib.hid he
  clear hm he
  have HSp : ∀ W : World, W.cell? ⟨1, 0, none⟩ = some (.int .i64 m) → Calls Tryd.prog 33 #[.string s, .string ⟨#[46]⟩, .int .i64 5] W fun e w' =>
      e = .returned (.slice (some ⟨W.heap.size, 0, none⟩) (Ad.parts s).length (min 5 (s.size + 1))) ∧ w' = W.alloc (.cells (Lib.cellsOf (Ad.parts s) (min 5 (s.size + 1))) 9) :=
    fun W hW => Tryd.strings_SplitN s ⟨#[46]⟩ 5 m W hs hW (by decide) (by decide) (by decide)
  have HS := Lib.hid HSp
  clear HSp
  by_cases h4 : (Ad.parts s).length = 4
  · obtain ⟨p0, p1, p2, p3, hp⟩ : ∃ p0 p1 p2 p3, Ad.parts s = [p0, p1, p2, p3] := by
      match h : Ad.parts s, h4 with
      | [p0, p1, p2, p3], _ => exact ⟨p0, p1, p2, p3, rfl⟩
    have e0 : Ad.parse s = Ad.parseL [p0, p1, p2, p3] := by unfold Ad.parse; rw [hp]
    rw [e0]
    clear e0 h4
    rw [hp] at HS
    have hc : 4 ≤ min 5 (s.size + 1) := by
      have := Lib.splitB_length_le ⟨#[46]⟩ 0 (min 5 (s.size + 1) - 1) s
      have hp2 : (Lib.splitB ⟨#[46]⟩ 0 (min 5 (s.size + 1) - 1) s).length = 4 := by
        show (Ad.parts s).length = 4
        rw [hp]; rfl
      omega
    clear hp
    have hc5 : min 5 (s.size + 1) ≤ 5 := by omega
    generalize min 5 (s.size + 1) = c at hc hc5 HS
    have N0 := num_byte p0
    have N1 := num_byte p1
    have N2 := num_byte p2
    have N3 := num_byte p3
    have HN0 := Lib.hid N0
    have HN1 := Lib.hid N1
    have HN2 := Lib.hid N2
    have HN3 := Lib.hid N3
    clear N0 N1 N2 N3
    go_enter Tryd.func10, Tryd.ntmps10
    go_wp2_with (go_at_call 33; refine (HS.out _ ((World.cell?_alloc_lt _ _ _ hml).trans HM.out)).mono ?_; rintro e w1 ⟨rfl, rfl⟩)
    have hB0 : Blk ((w.alloc (.cells #[.int .u8 0, .int .u8 0, .int .u8 0, .int .u8 0] 39)).alloc (.cells (Lib.cellsOf [p0, p1, p2, p3] c) 9)) w.heap.size 39 (Ad.arrP p0 p1 p2 p3 0) := (Blk.new w _ _).alloc _
    have hB1 : Blk ((w.alloc (.cells #[.int .u8 0, .int .u8 0, .int .u8 0, .int .u8 0] 39)).alloc (.cells (Lib.cellsOf [p0, p1, p2, p3] c) 9)) (w.heap.size + 1) 9 (Lib.cellsOf [p0, p1, p2, p3] c) := by
      have := Blk.new (w.alloc (.cells #[.int .u8 0, .int .u8 0, .int .u8 0, .int .u8 0] 39)) 9 (Lib.cellsOf [p0, p1, p2, p3] c)
      simpa using this
    have hW : Below w.heap.size w ((w.alloc (.cells #[.int .u8 0, .int .u8 0, .int .u8 0, .int .u8 0] 39)).alloc (.cells (Lib.cellsOf [p0, p1, p2, p3] c) 9)) := ((Below.refl _ _).alloc (Nat.le_refl _) _).alloc (by simp) _
    have HB0 := Lib.hid hB0
    have HB1 := Lib.hid hB1
    have HW := Lib.hid hW
    clear hB0 hB1 hW HS
    go_loopw [18] (fun i wr => ∃ k : Nat, k ≤ 4 ∧ i = .int .i64 k ∧ Blk wr w.heap.size 39 (Ad.arrP p0 p1 p2 p3 k) ∧ Blk wr (w.heap.size + 1) 9 (Lib.cellsOf [p0, p1, p2, p3] c) ∧ Below w.heap.size w wr ∧ Hid (Ad.okTo p0 p1 p2 p3 k = true)) (fun i _ => 4 - (intOf i).toNat)
    case atStart => exact ⟨0, by omega, rfl, HB0.out, HB1.out, HW.out, rfl⟩
    case round =>
      obtain ⟨k, hk, hi, hB0, hB1, hW, hok⟩ := hrel
      clear HB0 HB1 HW
      have hge : wr.cell? ⟨0, 0, none⟩ = some er := (hW.cell hel).trans HE.out
      have HB0 := Lib.hid hB0
      have HB1 := Lib.hid hB1
      have HW := Lib.hid hW
      clear hB0 hB1 hW
      by_cases h4 : k < 4
      · have hk' : k = 0 ∨ k = 1 ∨ k = 2 ∨ k = 3 := by omega
        clear h4 hk
        rcases hk' with rfl | rfl | rfl | rfl
        · have hi' : u18 = .int .i64 0 := hi
          clear hi; subst hi'
          have hpc : wr.cell? ⟨w.heap.size + 1, 0, none⟩ = some (.string p0) := HB1.out.cell 0
          have hbc : wr.cell? ⟨w.heap.size, 0, none⟩ = some (.int .u8 0) := HB0.out.cell 0
          have hbf : wr.frozen? ⟨w.heap.size, 0, none⟩ = false := HB0.out.frozen 0
          rcases HN0.out with ⟨v, hv0, hv1, hyes, hval, hcall⟩ | ⟨hno, hcall⟩
          · have Hyes := Lib.hid hyes
            have Hval := Lib.hid hval
            have Hcall := Lib.hid hcall
            clear hyes hval hcall
            go_wp2_with (go_at_call 34; refine (Hcall.out _).mono ?_; rintro e w2 ⟨rfl, rfl⟩)
            go_roundw
            case rel => exact ⟨1, by omega, by go_num, HB0.out.set_to 0 _ (by rw [← Hval.out]; rfl), HB1.out.far (by simp) _, HW.out.setCell (Nat.le_refl _) _, okTo_next0 hok.out Hyes.out⟩
            case measure => simp [intOf]
          · have Hno := Lib.hid hno
            have Hcall := Lib.hid hcall
            clear hno hcall
            have HR : Hid (Ad.parseL [p0, p1, p2, p3] = none) := parseL_no0 Hno.out
            go_wp2_with (go_at_call 34; refine (Hcall.out _).mono ?_; rintro e w2 ⟨rfl, rfl⟩)
            go_quiet (fail)
            go_wp2
            go_ret2
            exact ⟨by rw [HR.out]; rfl, below_drewN HW.out _⟩
        · have hi' : u18 = .int .i64 1 := hi
          clear hi; subst hi'
          have hpc : wr.cell? ⟨w.heap.size + 1, 1, none⟩ = some (.string p1) := HB1.out.cell 1
          have hbc : wr.cell? ⟨w.heap.size, 1, none⟩ = some (.int .u8 0) := HB0.out.cell 1
          have hbf : wr.frozen? ⟨w.heap.size, 1, none⟩ = false := HB0.out.frozen 1
          rcases HN1.out with ⟨v, hv0, hv1, hyes, hval, hcall⟩ | ⟨hno, hcall⟩
          · have Hyes := Lib.hid hyes
            have Hval := Lib.hid hval
            have Hcall := Lib.hid hcall
            clear hyes hval hcall
            go_wp2_with (go_at_call 34; refine (Hcall.out _).mono ?_; rintro e w2 ⟨rfl, rfl⟩)
            go_roundw
            case rel => exact ⟨2, by omega, by go_num, HB0.out.set_to 1 _ (by rw [← Hval.out]; rfl), HB1.out.far (by simp) _, HW.out.setCell (Nat.le_refl _) _, okTo_next1 hok.out Hyes.out⟩
            case measure => simp [intOf]
          · have Hno := Lib.hid hno
            have Hcall := Lib.hid hcall
            clear hno hcall
            have HR : Hid (Ad.parseL [p0, p1, p2, p3] = none) := parseL_no1 Hno.out
            go_wp2_with (go_at_call 34; refine (Hcall.out _).mono ?_; rintro e w2 ⟨rfl, rfl⟩)
            go_quiet (fail)
            go_wp2
            go_ret2
            exact ⟨by rw [HR.out]; rfl, below_drewN HW.out _⟩
        · have hi' : u18 = .int .i64 2 := hi
          clear hi; subst hi'
          have hpc : wr.cell? ⟨w.heap.size + 1, 2, none⟩ = some (.string p2) := HB1.out.cell 2
          have hbc : wr.cell? ⟨w.heap.size, 2, none⟩ = some (.int .u8 0) := HB0.out.cell 2
          have hbf : wr.frozen? ⟨w.heap.size, 2, none⟩ = false := HB0.out.frozen 2
          rcases HN2.out with ⟨v, hv0, hv1, hyes, hval, hcall⟩ | ⟨hno, hcall⟩
          · have Hyes := Lib.hid hyes
            have Hval := Lib.hid hval
            have Hcall := Lib.hid hcall
            clear hyes hval hcall
            go_wp2_with (go_at_call 34; refine (Hcall.out _).mono ?_; rintro e w2 ⟨rfl, rfl⟩)
            go_roundw
            case rel => exact ⟨3, by omega, by go_num, HB0.out.set_to 2 _ (by rw [← Hval.out]; rfl), HB1.out.far (by simp) _, HW.out.setCell (Nat.le_refl _) _, okTo_next2 hok.out Hyes.out⟩
            case measure => simp [intOf]
          · have Hno := Lib.hid hno
            have Hcall := Lib.hid hcall
            clear hno hcall
            have HR : Hid (Ad.parseL [p0, p1, p2, p3] = none) := parseL_no2 Hno.out
            go_wp2_with (go_at_call 34; refine (Hcall.out _).mono ?_; rintro e w2 ⟨rfl, rfl⟩)
            go_quiet (fail)
            go_wp2
            go_ret2
            exact ⟨by rw [HR.out]; rfl, below_drewN HW.out _⟩
        · have hi' : u18 = .int .i64 3 := hi
          clear hi; subst hi'
          have hpc : wr.cell? ⟨w.heap.size + 1, 3, none⟩ = some (.string p3) := HB1.out.cell 3
          have hbc : wr.cell? ⟨w.heap.size, 3, none⟩ = some (.int .u8 0) := HB0.out.cell 3
          have hbf : wr.frozen? ⟨w.heap.size, 3, none⟩ = false := HB0.out.frozen 3
          rcases HN3.out with ⟨v, hv0, hv1, hyes, hval, hcall⟩ | ⟨hno, hcall⟩
          · have Hyes := Lib.hid hyes
            have Hval := Lib.hid hval
            have Hcall := Lib.hid hcall
            clear hyes hval hcall
            go_wp2_with (go_at_call 34; refine (Hcall.out _).mono ?_; rintro e w2 ⟨rfl, rfl⟩)
            go_roundw
            case rel => exact ⟨4, by omega, by go_num, HB0.out.set_to 3 _ (by rw [← Hval.out]; rfl), HB1.out.far (by simp) _, HW.out.setCell (Nat.le_refl _) _, okTo_next3 hok.out Hyes.out⟩
            case measure => simp [intOf]
          · have Hno := Lib.hid hno
            have Hcall := Lib.hid hcall
            clear hno hcall
            have HR : Hid (Ad.parseL [p0, p1, p2, p3] = none) := parseL_no3 Hno.out
            go_wp2_with (go_at_call 34; refine (Hcall.out _).mono ?_; rintro e w2 ⟨rfl, rfl⟩)
            go_quiet (fail)
            go_wp2
            go_ret2
            exact ⟨by rw [HR.out]; rfl, below_drewN HW.out _⟩
      · obtain rfl : k = 4 := by omega
        have hi' : u18 = .int .i64 4 := hi
        clear hi h4 hk; subst hi'
        have hv0 := byteV_bd (okTo_at hok.out).1
        have hv1 := byteV_bd (okTo_at hok.out).2.1
        have hv2 := byteV_bd (okTo_at hok.out).2.2.1
        have hv3 := byteV_bd (okTo_at hok.out).2.2.2
        have hc0 : wr.cell? ⟨w.heap.size, 0, none⟩ = some (.int .u8 (Ad.byteV p0)) := HB0.out.cell 0
        have hc1 : wr.cell? ⟨w.heap.size, 1, none⟩ = some (.int .u8 (Ad.byteV p1)) := HB0.out.cell 1
        have hc2 : wr.cell? ⟨w.heap.size, 2, none⟩ = some (.int .u8 (Ad.byteV p2)) := HB0.out.cell 2
        have hc3 : wr.cell? ⟨w.heap.size, 3, none⟩ = some (.int .u8 (Ad.byteV p3)) := HB0.out.cell 3
        have HR : Hid (Ad.parseL [p0, p1, p2, p3] = some (Ad.byteV p0 * 16777216 + Ad.byteV p1 * 65536 + Ad.byteV p2 * 256 + Ad.byteV p3)) := parseL_yes hok.out
        go_wp2_with (go_at_call 29; refine (of_any _ _ _ _ _ hv0.1 hv0.2 hv1.1 hv1.2 hv2.1 hv2.2 hv3.1 hv3.2).mono ?_; rintro e w2 ⟨rfl, hb2⟩)
        go_ret2
        exact ⟨by rw [HR.out]; rfl, HW.out.trans (hb2.mono HW.out.size)⟩
  · have e0 : Ad.parse s = none := parseL_len h4
    rw [e0]
    show Calls _ _ _ _ fun e w' => e = .returned (.tuple #[.int .u32 0, er]) ∧ Below w.heap.size w w'
    have hne : (((Ad.parts s).length : Int) != 4) = true := by simp; omega
    clear e0
    generalize Ad.parts s = ps at *
    go_enter Tryd.func10, Tryd.ntmps10
    go_wp2_with (go_at_call 33; refine (HS.out _ ((World.cell?_alloc_lt _ _ _ hml).trans HM.out)).mono ?_; rintro e w1 ⟨rfl, rfl⟩)
    have hge : ((w.alloc (.cells #[.int .u8 0, .int .u8 0, .int .u8 0, .int .u8 0] 39)).alloc (.cells (Lib.cellsOf ps (min 5 (s.size + 1))) 9)).cell? ⟨0, 0, none⟩ = some er :=
      (World.cell?_alloc_lt _ _ _ (Nat.lt_of_lt_of_le hel (by simp))).trans ((World.cell?_alloc_lt _ _ _ hel).trans HE.out)
    go_quiet (fail)
    go_wp2
    go_ret2
    exact ⟨rfl, below_drewN (((Below.refl _ _).alloc (Nat.le_refl _) _).alloc (by simp) _) _⟩
namespace Ad
def cut1 (s : ByteArray) : ByteArray := ⟨(Lib.cut s.data.toList [47]).1.toArray⟩
def cut2 (s : ByteArray) : ByteArray := ⟨(Lib.cut s.data.toList [47]).2.1.toArray⟩
def prefV (s : ByteArray) : Option Int → Option (Int × Int)
  | some a => if numYes (cut2 s).data.toList 32 && valid a (val (cut2 s).data.toList) then some (a, val (cut2 s).data.toList) else none
  | none => none
def pref (s : ByteArray) : Option (Int × Int) := prefV s (parse (cut1 s))
end Ad
/-- what ParsePrefix answers -/
def prefV (er : Value) : Option (Int × Int) → Value
  | some (a, b) => .tuple #[.agg #[.int .u32 a, .int .i64 b], .nilIface]
  | none => .tuple #[.agg #[.int .u32 0, .int .i64 0], er]
theorem cut1_size (s : ByteArray) : (Ad.cut1 s).size ≤ s.size := by
  have h : (Lib.cut s.data.toList [47]).1.length ≤ s.data.toList.length := by
    unfold Lib.cut
    split
    · rw [List.length_take]; omega
    · exact Nat.le_refl _
  have e : (Ad.cut1 s).size = (Lib.cut s.data.toList [47]).1.length := by unfold Ad.cut1; simp [ByteArray.size]
  rw [e]
  simpa using h
theorem parse_bd {s : ByteArray} {a : Int} (h : Ad.parse s = some a) : 0 ≤ a ∧ a ≤ 4294967295 := by
  unfold Ad.parse at h
  generalize Ad.parts s = l at h
  match l, h with
  | [p0, p1, p2, p3], h =>
    rw [parseL_if] at h
    split at h
    · rename_i hy
      simp at hy
      have h0 := byteV_bd hy.1
      have h1 := byteV_bd hy.2.1
      have h2 := byteV_bd hy.2.2.1
      have h3 := byteV_bd hy.2.2.2
      injection h with h
      omega
    · cases h
  | [], h => cases h
  | [_], h => cases h
  | [_, _], h => cases h
  | [_, _, _], h => cases h
  | _ :: _ :: _ :: _ :: _ :: _, h => cases h
set_option maxRecDepth 100000 in
set_option maxHeartbeats 2000000 in
theorem pref_any (s : ByteArray) (T : TypeId) (A : Addr) (w : World) (hs : s.size < 4294967281) (hE : EnvP (.iface T (.pointer (some A))) w) :
    Calls Tryd.prog 12 #[.string s] w fun e w' => e = .returned (prefV (.iface T (.pointer (some A))) (Ad.pref s)) ∧ Below w.heap.size w w' := by
  have hE0 := hE
  obtain ⟨⟨m, hm⟩, he⟩ := hE0
  have hml := World.block_lt_of_cell? w _ hm
  have hel := World.block_lt_of_cell? w _ he
  have HCut : ∀ W : World, W.cell? ⟨1, 0, none⟩ = some (.int .i64 m) → Calls Tryd.prog 36 #[.string s, .string ⟨#[47]⟩] W fun e w' => e = .returned (.tuple #[.string (Ad.cut1 s), .string (Ad.cut2 s), .bool (Lib.cut s.data.toList [47]).2.2]) ∧ ∃ n, w' = W.drewN n := fun W hW => Tryd.strings_Cut s ⟨#[47]⟩ m W hs hW
  have HC := Lib.hid (HCut (w.alloc (.cells #[.int .u32 0, .int .i64 0] 25)) ((World.cell?_alloc_lt _ _ _ hml).trans hm))
  have HP := Lib.hid (fun W (h : EnvP (.iface T (.pointer (some A))) W) => parse_any (Ad.cut1 s) (.iface T (.pointer (some A))) W (Nat.lt_of_le_of_lt (cut1_size s) hs) h)
  have HE := Lib.hid hE
  have hs2 := cut1_size s
  clear HCut hm he hE hs2
  generalize (Lib.cut s.data.toList [47]).2.2 = fnd at HC
  unfold Ad.pref
  obtain hp | ⟨a, hp⟩ : Ad.parse (Ad.cut1 s) = none ∨ ∃ a, Ad.parse (Ad.cut1 s) = some a := by
    cases Ad.parse (Ad.cut1 s) with
    | none => exact .inl rfl
    | some a => exact .inr ⟨a, rfl⟩
  · rw [hp] at HP ⊢
    generalize Ad.cut1 s = c1 at *
    generalize Ad.cut2 s = c2 at *
    clear hp
    show Calls _ _ _ _ fun e w' => e = .returned (.tuple #[.agg #[.int .u32 0, .int .i64 0], .iface T (.pointer (some A))]) ∧ Below w.heap.size w w'
    go_enter Tryd.func12, Tryd.ntmps12
    go_wp2_with (first
      | (go_at_call 36; refine HC.out.mono ?_; rintro e w1 ⟨rfl, n, rfl⟩
         have hw1 : Below w.heap.size w ((w.alloc (.cells #[.int .u32 0, .int .i64 0] 25)).drewN n) := below_drewN ((Below.refl _ _).alloc (Nat.le_refl _) _) n
         have hk1 : Blk ((w.alloc (.cells #[.int .u32 0, .int .i64 0] 25)).drewN n) w.heap.size 25 #[.int .u32 0, .int .i64 0] := (Blk.new w _ _).drewN n
         have he1 := HE.out.below hw1
         have HW1 := Lib.hid hw1
         have HK1 := Lib.hid hk1
         have HE1 := Lib.hid he1
         clear hw1 hk1 he1)
      | (go_at_call 10; refine (HP.out _ HE1.out).mono ?_; rintro e w2 ⟨rfl, hb2⟩
         have hk2 := HK1.out.next hb2
         have hw2 := HW1.out.trans (hb2.mono HW1.out.size)
         have hc0 : w2.cell? ⟨w.heap.size, 0, none⟩ = some (.int .u32 0) := hk2.cell 0
         have hc1 : w2.cell? ⟨w.heap.size, 1, none⟩ = some (.int .i64 0) := hk2.cell 1
         have hf0 : w2.frozen? ⟨w.heap.size, 0, none⟩ = false := hk2.frozen 0
         have hf1 : w2.frozen? ⟨w.heap.size, 1, none⟩ = false := hk2.frozen 1
         have HK2 := Lib.hid hk2
         have HW2 := Lib.hid hw2
         clear hk2 hw2 hb2
         simp only [parseV]))
    refine bodyPost_ret (v := .tuple #[.agg #[.int .u32 0, .int .i64 0], .iface T (.pointer (some A))]) (by simp [results, Tryd.results12, go_sem, hc0, hc1]) rfl ⟨rfl, ?_⟩
    exact ((HW2.out.setCell (Nat.le_refl _) _).setCell (Nat.le_refl _) _)
  · rw [hp] at HP ⊢
    have ha := parse_bd hp
    have hN := fun W => num_any (Ad.cut2 s) 32 W
    have HPr : ∀ r, r = Ad.prefV s (some a) → r = (if Ad.numYes (Ad.cut2 s).data.toList 32 && Ad.valid a (Ad.val (Ad.cut2 s).data.toList) then some (a, (Ad.val (Ad.cut2 s).data.toList : Int)) else none) := fun r h => h
    have HR := Lib.hid (HPr _ rfl)
    clear HPr hp
    rw [HR.out]
    clear HR
    generalize Ad.cut1 s = c1 at *
    generalize Ad.cut2 s = c2 at *
    by_cases hy : Ad.numYes c2.data.toList 32 = true
    · rw [hy]
      have hb : (Ad.val c2.data.toList : Int) ≤ 32 := by unfold Ad.numYes at hy; simp at hy; omega
      have hN2 : ∀ W, Calls Tryd.prog 34 #[.string c2, .int .i64 32] W fun e w' => e = .returned (.tuple #[.int .i64 (Ad.val c2.data.toList : Int), .bool true]) ∧ W = w' :=
        fun W => (hN W).mono fun e w' hh => ⟨hh.1.trans (ret_pair (num_some hy).symm hy), hh.2⟩
      have HN := Lib.hid hN2
      clear hN hN2 hy
      have hb0 : (0 : Int) ≤ (Ad.val c2.data.toList : Int) := Int.natCast_nonneg _
      generalize (Ad.val c2.data.toList : Int) = b at *
      by_cases hv : Ad.valid a b = true
      · rw [hv]
        have HV := Lib.hid hv
        clear hv
        show Calls _ _ _ _ fun e w' => e = .returned (.tuple #[.agg #[.int .u32 a, .int .i64 b], .nilIface]) ∧ Below w.heap.size w w'
        go_enter Tryd.func12, Tryd.ntmps12
        go_wp2_with (first
          | (go_at_call 36; refine HC.out.mono ?_; rintro e w1 ⟨rfl, n, rfl⟩
             have hw1 : Below w.heap.size w ((w.alloc (.cells #[.int .u32 0, .int .i64 0] 25)).drewN n) := below_drewN ((Below.refl _ _).alloc (Nat.le_refl _) _) n
             have hk1 : Blk ((w.alloc (.cells #[.int .u32 0, .int .i64 0] 25)).drewN n) w.heap.size 25 #[.int .u32 0, .int .i64 0] := (Blk.new w _ _).drewN n
             have he1 := HE.out.below hw1
             have HW1 := Lib.hid hw1
             have HK1 := Lib.hid hk1
             have HE1 := Lib.hid he1
             clear hw1 hk1 he1)
          | (go_at_call 10; refine (HP.out _ HE1.out).mono ?_; rintro e w2 ⟨rfl, hb2⟩
             have hk2 := HK1.out.next hb2
             have hw2 := HW1.out.trans (hb2.mono HW1.out.size)
             have hc0 : w2.cell? ⟨w.heap.size, 0, none⟩ = some (.int .u32 0) := hk2.cell 0
             have hc1 : w2.cell? ⟨w.heap.size, 1, none⟩ = some (.int .i64 0) := hk2.cell 1
             have hf0 : w2.frozen? ⟨w.heap.size, 0, none⟩ = false := hk2.frozen 0
             have hf1 : w2.frozen? ⟨w.heap.size, 1, none⟩ = false := hk2.frozen 1
             have HK2 := Lib.hid hk2
             have HW2 := Lib.hid hw2
             clear hk2 hw2 hb2
             simp only [parseV])
          | (go_at_call 34; refine (HN.out _).mono ?_; rintro e w3 ⟨rfl, rfl⟩)
          | (go_at_call 21; refine (valid_any _ _ _ ha.1 ha.2).mono ?_; rintro e w3 ⟨rfl, hb3⟩; rw [HV.out]
             have hk3 : Blk w3 w.heap.size 25 #[.int .u32 0, .int .i64 0] := (HK2.out.alloc _).next hb3
             have hq3 : Blk w3 w2.heap.size 25 #[.int .u32 a, .int .i64 b] := (Blk.new w2 _ _).next hb3
             have hw3 : Below w.heap.size w w3 := (HW2.out.alloc HW2.out.size _).trans (hb3.mono (Nat.le_trans HW2.out.size (by simp)))
             have hlt : w.heap.size < w2.heap.size := HK2.out.lt
             have hd0 : w3.cell? ⟨w.heap.size, 0, none⟩ = some (.int .u32 0) := hk3.cell 0
             have hd1 : w3.cell? ⟨w.heap.size, 1, none⟩ = some (.int .i64 0) := hk3.cell 1
             have hg0 : w3.frozen? ⟨w.heap.size, 0, none⟩ = false := hk3.frozen 0
             have hg1 : w3.frozen? ⟨w.heap.size, 1, none⟩ = false := hk3.frozen 1
             have hq0 : w3.cell? ⟨w2.heap.size, 0, none⟩ = some (.int .u32 a) := hq3.cell 0
             have hq1 : w3.cell? ⟨w2.heap.size, 1, none⟩ = some (.int .i64 b) := hq3.cell 1
             have her : w3.cell? ⟨0, 0, none⟩ = some (.iface T (.pointer (some A))) := (HE.out.below hw3).2
             have HW3 := Lib.hid hw3
             clear hk3 hq3 hw3 hb3))
        refine bodyPost_ret (v := .tuple #[.agg #[.int .u32 a, .int .i64 b], .nilIface]) (by simp [results, Tryd.results12, go_sem, hd0, hd1]) rfl ⟨rfl, ?_⟩
        exact ((HW3.out.setCell (Nat.le_refl _) _).setCell (Nat.le_refl _) _)
      · have hv' : Ad.valid a b = false := by simpa using hv
        rw [hv']
        have HV := Lib.hid hv'
        clear hv hv'
        show Calls _ _ _ _ fun e w' => e = .returned (.tuple #[.agg #[.int .u32 0, .int .i64 0], .iface T (.pointer (some A))]) ∧ Below w.heap.size w w'
        go_enter Tryd.func12, Tryd.ntmps12
        go_wp2_with (first
          | (go_at_call 36; refine HC.out.mono ?_; rintro e w1 ⟨rfl, n, rfl⟩
             have hw1 : Below w.heap.size w ((w.alloc (.cells #[.int .u32 0, .int .i64 0] 25)).drewN n) := below_drewN ((Below.refl _ _).alloc (Nat.le_refl _) _) n
             have hk1 : Blk ((w.alloc (.cells #[.int .u32 0, .int .i64 0] 25)).drewN n) w.heap.size 25 #[.int .u32 0, .int .i64 0] := (Blk.new w _ _).drewN n
             have he1 := HE.out.below hw1
             have HW1 := Lib.hid hw1
             have HK1 := Lib.hid hk1
             have HE1 := Lib.hid he1
             clear hw1 hk1 he1)
          | (go_at_call 10; refine (HP.out _ HE1.out).mono ?_; rintro e w2 ⟨rfl, hb2⟩
             have hk2 := HK1.out.next hb2
             have hw2 := HW1.out.trans (hb2.mono HW1.out.size)
             have hc0 : w2.cell? ⟨w.heap.size, 0, none⟩ = some (.int .u32 0) := hk2.cell 0
             have hc1 : w2.cell? ⟨w.heap.size, 1, none⟩ = some (.int .i64 0) := hk2.cell 1
             have hf0 : w2.frozen? ⟨w.heap.size, 0, none⟩ = false := hk2.frozen 0
             have hf1 : w2.frozen? ⟨w.heap.size, 1, none⟩ = false := hk2.frozen 1
             have HK2 := Lib.hid hk2
             have HW2 := Lib.hid hw2
             clear hk2 hw2 hb2
             simp only [parseV])
          | (go_at_call 34; refine (HN.out _).mono ?_; rintro e w3 ⟨rfl, rfl⟩)
          | (go_at_call 21; refine (valid_any _ _ _ ha.1 ha.2).mono ?_; rintro e w3 ⟨rfl, hb3⟩; rw [HV.out]
             have hk3 : Blk w3 w.heap.size 25 #[.int .u32 0, .int .i64 0] := (HK2.out.alloc _).next hb3
             have hq3 : Blk w3 w2.heap.size 25 #[.int .u32 a, .int .i64 b] := (Blk.new w2 _ _).next hb3
             have hw3 : Below w.heap.size w w3 := (HW2.out.alloc HW2.out.size _).trans (hb3.mono (Nat.le_trans HW2.out.size (by simp)))
             have hlt : w.heap.size < w2.heap.size := HK2.out.lt
             have hd0 : w3.cell? ⟨w.heap.size, 0, none⟩ = some (.int .u32 0) := hk3.cell 0
             have hd1 : w3.cell? ⟨w.heap.size, 1, none⟩ = some (.int .i64 0) := hk3.cell 1
             have hg0 : w3.frozen? ⟨w.heap.size, 0, none⟩ = false := hk3.frozen 0
             have hg1 : w3.frozen? ⟨w.heap.size, 1, none⟩ = false := hk3.frozen 1
             have hq0 : w3.cell? ⟨w2.heap.size, 0, none⟩ = some (.int .u32 a) := hq3.cell 0
             have hq1 : w3.cell? ⟨w2.heap.size, 1, none⟩ = some (.int .i64 b) := hq3.cell 1
             have her : w3.cell? ⟨0, 0, none⟩ = some (.iface T (.pointer (some A))) := (HE.out.below hw3).2
             have HW3 := Lib.hid hw3
             clear hk3 hq3 hw3 hb3))
        go_region
        all_goals go_wp2
        all_goals refine bodyPost_ret (v := .tuple #[.agg #[.int .u32 0, .int .i64 0], .iface T (.pointer (some A))]) (by simp [results, Tryd.results12, go_sem, hd0, hd1]) rfl ⟨rfl, ?_⟩
        all_goals exact ((HW3.out.drew.setCell (Nat.le_refl _) _).setCell (Nat.le_refl _) _)
    · have hy' : Ad.numYes c2.data.toList 32 = false := by simpa using hy
      have hN2 : ∀ W, Calls Tryd.prog 34 #[.string c2, .int .i64 32] W fun e w' => e = .returned (.tuple #[.int .i64 0, .bool false]) ∧ W = w' :=
        fun W => (hN W).mono fun e w' hh => ⟨hh.1.trans (ret_pair (num_none hy').symm hy'), hh.2⟩
      have HN := Lib.hid hN2
      rw [hy']
      clear hN hN2 hy hy'
      show Calls _ _ _ _ fun e w' => e = .returned (.tuple #[.agg #[.int .u32 0, .int .i64 0], .iface T (.pointer (some A))]) ∧ Below w.heap.size w w'
      go_enter Tryd.func12, Tryd.ntmps12
      go_wp2_with (first
        | (go_at_call 36; refine HC.out.mono ?_; rintro e w1 ⟨rfl, n, rfl⟩
           have hw1 : Below w.heap.size w ((w.alloc (.cells #[.int .u32 0, .int .i64 0] 25)).drewN n) := below_drewN ((Below.refl _ _).alloc (Nat.le_refl _) _) n
           have hk1 : Blk ((w.alloc (.cells #[.int .u32 0, .int .i64 0] 25)).drewN n) w.heap.size 25 #[.int .u32 0, .int .i64 0] := (Blk.new w _ _).drewN n
           have he1 := HE.out.below hw1
           have HW1 := Lib.hid hw1
           have HK1 := Lib.hid hk1
           have HE1 := Lib.hid he1
           clear hw1 hk1 he1)
        | (go_at_call 10; refine (HP.out _ HE1.out).mono ?_; rintro e w2 ⟨rfl, hb2⟩
           have hk2 := HK1.out.next hb2
           have hw2 := HW1.out.trans (hb2.mono HW1.out.size)
           have hc0 : w2.cell? ⟨w.heap.size, 0, none⟩ = some (.int .u32 0) := hk2.cell 0
           have hc1 : w2.cell? ⟨w.heap.size, 1, none⟩ = some (.int .i64 0) := hk2.cell 1
           have hf0 : w2.frozen? ⟨w.heap.size, 0, none⟩ = false := hk2.frozen 0
           have hf1 : w2.frozen? ⟨w.heap.size, 1, none⟩ = false := hk2.frozen 1
           have HK2 := Lib.hid hk2
           have HW2 := Lib.hid hw2
           clear hk2 hw2 hb2
           simp only [parseV])
        | (go_at_call 34; refine (HN.out _).mono ?_; rintro e w3 ⟨rfl, rfl⟩
           have hlt : w.heap.size < w2.heap.size := HK2.out.lt
           have her : w2.cell? ⟨0, 0, none⟩ = some (.iface T (.pointer (some A))) := (HE.out.below HW2.out).2
           have hgl : 0 < w2.heap.size := World.block_lt_of_cell? w2 _ her))
      go_region
      all_goals go_wp2
      all_goals refine bodyPost_ret (v := .tuple #[.agg #[.int .u32 0, .int .i64 0], .iface T (.pointer (some A))]) (by simp [results, Tryd.results12, go_sem, hc0, hc1, hlt]) rfl ⟨rfl, ?_⟩
      all_goals exact ((((HW2.out.setCell (Nat.le_refl _) _).setCell (Nat.le_refl _) _).alloc (((HW2.out.setCell (Nat.le_refl _) _).setCell (Nat.le_refl _) _).size) _).drew)
end Go.Proofs.YtcnkbhmhbbpmhaaDoor
