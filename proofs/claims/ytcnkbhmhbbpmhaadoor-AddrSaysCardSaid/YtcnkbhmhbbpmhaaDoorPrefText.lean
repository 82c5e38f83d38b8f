/- The contract of addr.PrefixText at a valid prefix. -/
import Derived.Test.YtcnkbhmhbbpmhaaDoorText
namespace Go.Proofs.YtcnkbhmhbbpmhaaDoor
open Go.RowKit
def Ad.pfxL (a b : Int) : List UInt8 := Ad.textL a ++ 47 :: Lib.itoa b
def Ad.pfx (a b : Int) : ByteArray := ⟨(Ad.pfxL a b).toArray⟩
theorem envT_of {w w' : World} {N : Nat} {x y : Option Value} (h : EnvT w) (g : w'.cell? ⟨N, 0, none⟩ = x ∧ w'.cell? ⟨N, 1, none⟩ = y ∧ w.heap.size < w'.heap.size ∧ Below w.heap.size w w') : EnvT w' := h.below g.2.2.2
def Ad.text1 (a : Int) : ByteArray := ⟨(Ad.textL a ++ [47]).toArray⟩
theorem cat1 (a : Int) (h0 : 0 ≤ a) (h1 : a ≤ 4294967295) : ∀ w, (Op.stringOp .add (Ad.text a) ⟨#[47]⟩).run Tryd.prog w = .ok (.string (Ad.text1 a)) w := fun w => by
  have := Ad.textL_short a h0 h1
  exact run_string_add_lists w (Ad.textL a) [47] (by omega) (by simp)
theorem cat2 (a b : Int) (h0 : 0 ≤ a) (h1 : a ≤ 4294967295) (hb0 : 0 ≤ b) (hb1 : b ≤ 32) : ∀ w, (Op.stringOp .add (Ad.text1 a) ⟨(Lib.itoa b).toArray⟩).run Tryd.prog w = .ok (.string (Ad.pfx a b)) w := fun w => by
  have := Ad.textL_short a h0 h1
  have h2 := itoa_short b hb0 (by omega)
  have h3 := run_string_add_lists (P := Tryd.prog) w (Ad.textL a ++ [47]) (Lib.itoa b) (by simp; omega) (by omega)
  rw [List.append_assoc] at h3
  exact h3
set_option maxRecDepth 100000 in
set_option maxHeartbeats 1000000 in
theorem pfx_any (a b : Int) (w : World) (h0 : 0 ≤ a) (h1 : a ≤ 4294967295) (hb0 : 0 ≤ b) (hb1 : b ≤ 32) (hv : Ad.valid a b = true) (hT : EnvT w) :
    Calls Tryd.prog 31 #[.agg #[.int .u32 a, .int .i64 b]] w fun e w' => e = .returned (.string (Ad.pfx a b)) ∧ Below w.heap.size w w' := by
  have hcat1 := cat1 a h0 h1
  have hcat2 := cat2 a b h0 h1 hb0 hb1
  have HV := Lib.hid hv
  have HT := Lib.hid hT
  clear hv hT
  go_enter Tryd.func31, Tryd.ntmps31
  go_wp2_with (go_at_call 21; refine (valid_any a b _ h0 h1).mono ?_; rintro e w1 ⟨rfl, hv1⟩; rw [HV.out])
  have hk : Blk w1 w.heap.size 25 #[.int .u32 a, .int .i64 b] := (Blk.new w _ _).next hv1
  have hw : Below w.heap.size w w1 := ((Below.refl _ _).alloc (Nat.le_refl _) _).trans (hv1.mono (by simp))
  have hS : w1.drew.cell? ⟨w.heap.size, 0, none⟩ = some (.int .u32 a) ∧ w1.drew.cell? ⟨w.heap.size, 1, none⟩ = some (.int .i64 b) ∧ w.heap.size < w1.drew.heap.size ∧ Below w.heap.size w w1.drew := ⟨hk.cell 0, hk.cell 1, hk.lt, hw.drew⟩
  clear hk hw hv1
  go_region_held3 (fun w' => w'.cell? ⟨w.heap.size, 0, none⟩ = some (.int .u32 a) ∧ w'.cell? ⟨w.heap.size, 1, none⟩ = some (.int .i64 b) ∧ w.heap.size < w'.heap.size ∧ Below w.heap.size w w')
    (first | exact hS | exact two_next (by assumption) (by assumption) | assumption)
    (first
    | (go_at_call 17; refine (text_any a _ h0 h1 ?_).mono ?_
       · first | exact HT.out.below hS.2.2.2 | exact envT_of HT.out (by assumption)
       rintro e w2 ⟨rfl, hb2⟩)
    | (go_at_call 39; refine (itoa_any b (by omega) (by omega) _ ?_).mono ?_
       · first | exact HT.out.below hS.2.2.2 | exact envT_of HT.out (by assumption)
       rintro e w2 ⟨rfl, hb2⟩))
  go_wp2
  go_ret
  rename_i hS2
  exact ⟨rfl, hS2.2.2.2⟩
end Go.Proofs.YtcnkbhmhbbpmhaaDoor
