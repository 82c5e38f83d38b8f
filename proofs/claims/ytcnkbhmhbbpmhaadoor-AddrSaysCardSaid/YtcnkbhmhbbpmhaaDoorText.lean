/- Contracts of addr.Text and of the chapter's first example, over the seat's program: an address's text is its four bytes' decimal numerals apart by points. Condition: strconv's table of powers of ten is as the library's text lays it. -/
import Derived.Test.YtcnkbhmhbbpmhaaDoorAddr
import Derived.Test.YtcnkbhmhbbpmhaaDoorShelf
import Derived.Deep.LoopGhost
import Derived.Lib.AppendIntMem
import Derived.Lib.ItoaLen
namespace Go.Proofs.YtcnkbhmhbbpmhaaDoor
open Go.RowKit
/-- what the numerals read: the library's table of powers of ten -/
def EnvT (w : World) : Prop := Lib.TabIs Tryd.prog w "internal/strconv.uint64pow10" .u64 Lib.pow10Tab
theorem EnvT.below {w w' : World} (h : EnvT w) (hb : Below w.heap.size w w') : EnvT w' := Lib.tabBelow_of_tabIs h w' hb
theorem itoa_any (n : Int) (h0 : -9223372036854775808 ≤ n) (h1 : n ≤ 9223372036854775807) (w : World) (hT : EnvT w) :
    Calls Tryd.prog 39 #[.int .i64 n] w fun e w' => e = .returned (.string ⟨(Lib.itoa n).toArray⟩) ∧ Below w.heap.size w w' :=
  (Tryd.strconv_Itoa n h0 h1 w hT).mono fun _ _ ⟨he, k, os, hw⟩ => ⟨he, hw ▸ below_grow w k os⟩
namespace Ad
def b0 (a : Int) : Int := a / 16777216
def b1 (a : Int) : Int := a / 65536 % 256
def b2 (a : Int) : Int := a / 256 % 256
def b3 (a : Int) : Int := a % 256
def num (n : Int) : ByteArray := ⟨(Lib.itoa n).toArray⟩
def textL (a : Int) : List UInt8 := Lib.join [Lib.itoa (b0 a), Lib.itoa (b1 a), Lib.itoa (b2 a), Lib.itoa (b3 a)] [46]
def text (a : Int) : ByteArray := ⟨(textL a).toArray⟩
end Ad
/-- the four parts, the first k of them written -/
def Ad.tx (a : Int) (k j : Nat) : ByteArray := if j < k then Ad.num (match j with | 0 => Ad.b0 a | 1 => Ad.b1 a | 2 => Ad.b2 a | _ => Ad.b3 a) else ⟨#[]⟩
def Ad.arr (a : Int) (k : Nat) : Array Value := #[.string (Ad.tx a k 0), .string (Ad.tx a k 1), .string (Ad.tx a k 2), .string (Ad.tx a k 3)]
theorem Ad.arr_set (a : Int) (k : Nat) (hk : k < 4) (v : Value) (hv : v = .string (Ad.tx a (k + 1) k)) : (Ad.arr a k).setIfInBounds k v = Ad.arr a (k + 1) := by
  subst hv
  match k, hk with
  | 0, _ => rfl
  | 1, _ => rfl
  | 2, _ => rfl
  | 3, _ => rfl
theorem Ad.arr_at (a : Int) (k : Nat) (hk : k < 4) : (Ad.arr a k)[k]? = some (.string ⟨#[]⟩) := by
  match k, hk with
  | 0, _ => rfl
  | 1, _ => rfl
  | 2, _ => rfl
  | 3, _ => rfl
theorem itoa_short (n : Int) (h0 : 0 ≤ n) (h1 : n ≤ 255) : (Lib.itoa n).length ≤ 21 := Lib.itoa_length_le n (by omega) (by omega)
theorem Ad.textL_short (a : Int) (h0 : 0 ≤ a) (h1 : a ≤ 4294967295) : (Ad.textL a).length ≤ 100 := by
  have e0 := itoa_short (Ad.b0 a) (by unfold Ad.b0; omega) (by unfold Ad.b0; omega)
  have e1 := itoa_short (Ad.b1 a) (by unfold Ad.b1; omega) (by unfold Ad.b1; omega)
  have e2 := itoa_short (Ad.b2 a) (by unfold Ad.b2; omega) (by unfold Ad.b2; omega)
  have e3 := itoa_short (Ad.b3 a) (by unfold Ad.b3; omega) (by unfold Ad.b3; omega)
  unfold Ad.textL
  rw [Lib.join_cons]
  simp [Lib.joinTail]
  omega
theorem join4 (a : Int) (N : Nat) (w : World) (h0 : 0 ≤ a) (h1 : a ≤ 4294967295) (hB : Blk w N 67 (Ad.arr a 4)) :
    Calls Tryd.prog 40 #[.slice (some ⟨N, 0, none⟩) 4 4, .string ⟨#[46]⟩] w fun e w' => e = .returned (.string (Ad.text a)) ∧ Below w.heap.size w w' := by
  have hl := Ad.textL_short a h0 h1
  exact Tryd.strings_Join N 0 4 [Ad.num (Ad.b0 a), Ad.num (Ad.b1 a), Ad.num (Ad.b2 a), Ad.num (Ad.b3 a)] ⟨#[46]⟩ w (fun j x hx => by
    rw [Nat.zero_add, hB.cell j]
    match j, hx with
    | 0, hx => simp at hx; subst hx; rfl
    | 1, hx => simp at hx; subst hx; rfl
    | 2, hx => simp at hx; subst hx; rfl
    | 3, hx => simp at hx; subst hx; rfl
    | j + 4, hx => simp at hx) hB.lt (by simp) (by simp) (by
      have e : (Lib.join (List.map (fun x : ByteArray => x.data.toList) [Ad.num (Ad.b0 a), Ad.num (Ad.b1 a), Ad.num (Ad.b2 a), Ad.num (Ad.b3 a)]) [46]) = Ad.textL a := rfl
      show (Lib.join (List.map (fun x : ByteArray => x.data.toList) [Ad.num (Ad.b0 a), Ad.num (Ad.b1 a), Ad.num (Ad.b2 a), Ad.num (Ad.b3 a)]) [46]).length ≤ _
      rw [e]; omega)
theorem idx0 (x0 x1 x2 x3 : Value) : ∀ w, (Instr.index 39 (.agg #[x0, x1, x2, x3]) (.int .i64 0)).run Tryd.prog w = .ok x0 w := fun _ => by kernel_rfl
theorem idx1 (x0 x1 x2 x3 : Value) : ∀ w, (Instr.index 39 (.agg #[x0, x1, x2, x3]) (.int .i64 1)).run Tryd.prog w = .ok x1 w := fun _ => by kernel_rfl
theorem idx2 (x0 x1 x2 x3 : Value) : ∀ w, (Instr.index 39 (.agg #[x0, x1, x2, x3]) (.int .i64 2)).run Tryd.prog w = .ok x2 w := fun _ => by kernel_rfl
theorem idx3 (x0 x1 x2 x3 : Value) : ∀ w, (Instr.index 39 (.agg #[x0, x1, x2, x3]) (.int .i64 3)).run Tryd.prog w = .ok x3 w := fun _ => by kernel_rfl
set_option maxRecDepth 100000 in
set_option maxHeartbeats 1000000 in
theorem text_any (a : Int) (w : World) (h0 : 0 ≤ a) (h1 : a ≤ 4294967295) (hT : EnvT w) :
    Calls Tryd.prog 17 #[.int .u32 a] w fun e w' => e = .returned (.string (Ad.text a)) ∧ Below w.heap.size w w' := by
  have HT := Lib.hid hT; clear hT
  go_enter Tryd.func17, Tryd.ntmps17
  go_wp2_with (go_at_call 16; refine (bytes_any a _ h0 h1).mono ?_; rintro e w1 ⟨rfl, hb1⟩)
  have hk0 : Blk w1 w.heap.size 67 (Ad.arr a 0) := (Blk.new w _ _).next hb1
  have hw0 : Below w.heap.size w w1 := ((Below.refl _ _).alloc (Nat.le_refl _) _).trans (hb1.mono (by simp))
  clear hb1
  have HK := Lib.hid hk0; clear hk0
  have HW := Lib.hid hw0; clear hw0
  go_loopw [8] (fun i wr => ∃ k : Nat, k ≤ 4 ∧ i = .int .i64 k ∧ Blk wr w.heap.size 67 (Ad.arr a k) ∧ Below w.heap.size w wr) (fun i _ => 4 - (intOf i).toNat)
  case atStart => exact ⟨0, by omega, rfl, HK.out, HW.out⟩
  case round =>
    obtain ⟨k, hk, hi, hB, hW⟩ := hrel
    clear HK HW
    have HB := Lib.hid hB
    have HW := Lib.hid hW
    have HTr := Lib.hid (HT.out.below (hW.mono (Nat.le_refl _)))
    clear hB hW
    by_cases h4 : k < 4
    · have hk' : k = 0 ∨ k = 1 ∨ k = 2 ∨ k = 3 := by omega
      rcases hk' with rfl | rfl | rfl | rfl
      · have hi' : u8 = .int .i64 0 := hi
        clear hi; subst hi'
        have hix := idx0 (.int .u8 (a / 16777216)) (.int .u8 (a / 65536 % 256)) (.int .u8 (a / 256 % 256)) (.int .u8 (a % 256))
        go_wp2_with (go_at_call 39; refine (itoa_any _ (by omega) (by omega) _ HTr.out).mono ?_; rintro e w2 ⟨rfl, hb2⟩; have hB2 := HB.out.next hb2; have hcell : w2.cell? ⟨w.heap.size, 0, none⟩ = some (.string ⟨#[]⟩) := hB2.cell 0; have hfr : w2.frozen? ⟨w.heap.size, 0, none⟩ = false := hB2.frozen 0; have HB2 := Lib.hid hB2; have Hb2 := Lib.hid hb2; clear hB2 hb2)
        go_roundw
        case rel => exact ⟨1, by omega, by go_num, HB2.out.set_to 0 _ rfl, (HW.out.trans (Hb2.out.mono HW.out.size)).setCell (Nat.le_refl _) _⟩
        case measure => simp [intOf]
      · have hi' : u8 = .int .i64 1 := hi
        clear hi; subst hi'
        have hix := idx1 (.int .u8 (a / 16777216)) (.int .u8 (a / 65536 % 256)) (.int .u8 (a / 256 % 256)) (.int .u8 (a % 256))
        go_wp2_with (go_at_call 39; refine (itoa_any _ (by omega) (by omega) _ HTr.out).mono ?_; rintro e w2 ⟨rfl, hb2⟩; have hB2 := HB.out.next hb2; have hcell : w2.cell? ⟨w.heap.size, 1, none⟩ = some (.string ⟨#[]⟩) := hB2.cell 1; have hfr : w2.frozen? ⟨w.heap.size, 1, none⟩ = false := hB2.frozen 1; have HB2 := Lib.hid hB2; have Hb2 := Lib.hid hb2; clear hB2 hb2)
        go_roundw
        case rel => exact ⟨2, by omega, by go_num, HB2.out.set_to 1 _ rfl, (HW.out.trans (Hb2.out.mono HW.out.size)).setCell (Nat.le_refl _) _⟩
        case measure => simp [intOf]
      · have hi' : u8 = .int .i64 2 := hi
        clear hi; subst hi'
        have hix := idx2 (.int .u8 (a / 16777216)) (.int .u8 (a / 65536 % 256)) (.int .u8 (a / 256 % 256)) (.int .u8 (a % 256))
        go_wp2_with (go_at_call 39; refine (itoa_any _ (by omega) (by omega) _ HTr.out).mono ?_; rintro e w2 ⟨rfl, hb2⟩; have hB2 := HB.out.next hb2; have hcell : w2.cell? ⟨w.heap.size, 2, none⟩ = some (.string ⟨#[]⟩) := hB2.cell 2; have hfr : w2.frozen? ⟨w.heap.size, 2, none⟩ = false := hB2.frozen 2; have HB2 := Lib.hid hB2; have Hb2 := Lib.hid hb2; clear hB2 hb2)
        go_roundw
        case rel => exact ⟨3, by omega, by go_num, HB2.out.set_to 2 _ rfl, (HW.out.trans (Hb2.out.mono HW.out.size)).setCell (Nat.le_refl _) _⟩
        case measure => simp [intOf]
      · have hi' : u8 = .int .i64 3 := hi
        clear hi; subst hi'
        have hix := idx3 (.int .u8 (a / 16777216)) (.int .u8 (a / 65536 % 256)) (.int .u8 (a / 256 % 256)) (.int .u8 (a % 256))
        go_wp2_with (go_at_call 39; refine (itoa_any _ (by omega) (by omega) _ HTr.out).mono ?_; rintro e w2 ⟨rfl, hb2⟩; have hB2 := HB.out.next hb2; have hcell : w2.cell? ⟨w.heap.size, 3, none⟩ = some (.string ⟨#[]⟩) := hB2.cell 3; have hfr : w2.frozen? ⟨w.heap.size, 3, none⟩ = false := hB2.frozen 3; have HB2 := Lib.hid hB2; have Hb2 := Lib.hid hb2; clear hB2 hb2)
        go_roundw
        case rel => exact ⟨4, by omega, by go_num, HB2.out.set_to 3 _ rfl, (HW.out.trans (Hb2.out.mono HW.out.size)).setCell (Nat.le_refl _) _⟩
        case measure => simp [intOf]
    · obtain rfl : k = 4 := by omega
      have hi' : u8 = .int .i64 4 := hi
      clear hi; subst hi'
      have HJ := Lib.hid (join4 a w.heap.size wr h0 h1 HB.out)
      clear HB HTr HT
      go_wp2_with (go_at_call 40; refine HJ.out.mono ?_; rintro e w2 ⟨rfl, hb2⟩)
      go_ret
      exact ⟨rfl, HW.out.trans (hb2.mono HW.out.size)⟩
theorem Ad.text_first : Ad.text 16777218 = ⟨#[49, 46, 48, 46, 48, 46, 50]⟩ := by
  have e1 : Lib.itoa (Ad.b0 16777218) = [49] := by
    show Lib.itoa 1 = [49]
    unfold Lib.itoa; rw [if_neg (by decide)]; exact Lib.decDigits_one (i := 1) (by decide)
  have e2 : Lib.itoa (Ad.b1 16777218) = [48] := by
    show Lib.itoa 0 = [48]
    unfold Lib.itoa; rw [if_neg (by decide)]; exact Lib.decDigits_one (i := 0) (by decide)
  have e3 : Lib.itoa (Ad.b2 16777218) = [48] := e2
  have e4 : Lib.itoa (Ad.b3 16777218) = [50] := by
    show Lib.itoa 2 = [50]
    unfold Lib.itoa; rw [if_neg (by decide)]; exact Lib.decDigits_one (i := 2) (by decide)
  unfold Ad.text Ad.textL
  rw [e1, e2, e3, e4]
  rfl
theorem first_any (w : World) (hT : EnvT w) : Calls Tryd.prog 9 #[] w fun e w' => e = .returned (.bool true) ∧ Below w.heap.size w w' := by
  have H := Lib.hid (text_any 16777218 w (by decide) (by decide) hT)
  rw [Ad.text_first] at H
  clear hT
  go_enter Tryd.func9, Tryd.ntmps9
  go_wp2_with (go_at_call 17; refine H.out.mono ?_; rintro e w1 ⟨rfl, hb1⟩)
  go_ret
  exact ⟨rfl, hb1⟩
end Go.Proofs.YtcnkbhmhbbpmhaaDoor
