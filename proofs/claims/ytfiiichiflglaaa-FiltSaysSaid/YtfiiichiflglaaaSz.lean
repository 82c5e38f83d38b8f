/- slices.Sort of no address; maps.Keys over a map by addresses is an iterator; over the seat's program. -/
import Derived.Test.YtfiiichiflglaaaAs
import Derived.Test.YtfiiichiflglaaaKa
import Derived.Test.YtfiiichiflglaaaShelf
import Derived.OwnWalk
import Derived.Handy
import Derived.Carry
namespace Go.Proofs.Ytfiiichiflglaaa
open Go.RowKit Sm
theorem ins0_any (A : Option Addr) (c : Nat) (w : World) :
    Calls Try.prog 47 #[.slice A 0 c, .int .i64 0, .int .i64 0] w fun e w' => e = .returned (.tuple #[]) ∧ Below w.heap.size w w' := by
  go_enter Try.func47, Try.ntmps47
  go_wp2
  go_loopw [6] (fun i wr => i = .int .i64 1 ∧ Below w.heap.size w wr) (fun _ _ => 0)
  case atStart => exact ⟨rfl, Below.refl _ _⟩
  case round =>
    obtain ⟨rfl, hb⟩ := hrel
    go_wp2
    go_returns
    exact ⟨rfl, hb⟩
theorem pdq0_any (A : Option Addr) (c : Nat) (l : Int) (w : World) :
    Calls Try.prog 45 #[.slice A 0 c, .int .i64 0, .int .i64 0, .int .i64 l] w fun e w' => e = .returned (.tuple #[]) ∧ Below w.heap.size w w' := by
  go_enter Try.func45, Try.ntmps45
  go_wp2
  go_loopw [1, 2, 3, 8, 9] (fun a b l' x y wr => a = .int .i64 0 ∧ b = .int .i64 0 ∧ l' = .int .i64 l ∧ x = .bool true ∧ y = .bool true ∧ Below w.heap.size w wr) (fun _ _ _ _ _ _ => 0)
  case atStart => exact ⟨rfl, rfl, rfl, rfl, rfl, Below.refl _ _⟩
  case round =>
    obtain ⟨rfl, rfl, rfl, rfl, rfl, hb⟩ := hrel
    go_wp2_with (go_at_call 47; refine (ins0_any A c _).mono ?_; rintro e w1 ⟨rfl, hb1⟩)
    go_returns
    exact ⟨rfl, below_next hb hb1⟩
theorem sort0_any (A : Option Addr) (c : Nat) (w : World) :
    Calls Try.prog 41 #[.slice A 0 c] w fun e w' => e = .returned (.tuple #[]) ∧ Below w.heap.size w w' := by
  have HL := Lib.hid (fun W => Try.bits_Len 0 W (by omega) (by omega))
  go_enter Try.func41, Try.ntmps41
  go_wp2_with (first
    | (go_at_call 46; refine (HL.out _).mono ?_; rintro e w1 ⟨rfl, rfl⟩)
    | (go_at_call 45; refine (pdq0_any A c _ _).mono ?_; rintro e w1 ⟨rfl, hb⟩))
  go_returns
  exact ⟨rfl, hb⟩
theorem eKeysU : ∀ args w, (callFunc 43 args).run Try.prog w = .ok (.enter 43 args) w := enters_of Try.func43 (by kernel_rfl) rfl
theorem allMet_nil {ss : List Int} (h : AllMetU (.map []) ss) : ss = [] := by
  obtain ⟨left, hm, _⟩ := h
  cases ss with
  | nil => rfl
  | cons x ss =>
    obtain ⟨kl, hk⟩ := hm.keys x (List.mem_cons_self ..)
    have := ((hm.just x kl hk).1 (List.mem_cons_self ..)).1
    simp [Maps.has] at this
end Go.Proofs.Ytfiiichiflglaaa

