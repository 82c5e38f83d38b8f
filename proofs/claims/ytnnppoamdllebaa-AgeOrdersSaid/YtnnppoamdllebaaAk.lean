/- Package age's Hear, over the seat's program. -/
import Derived.Test.YtnnppoamdllebaaAj
import Derived.Test.YtnnppoamdllebaaEa
import Derived.Deep.RegionHeld3
namespace Go.Proofs.Ytnnppoamdllebaa
open Go.RowKit Go.MapKept Go.ChangeMaps Sm Ag
theorem get_any (w : World) (N : Nat) (mb : Option Nat) (T : Row) (x : Th) (h : TB w N mb T) (hx : wfT x) :
    Calls Try.prog 20 #[.pointer (some ⟨N, 0, none⟩), tv x] w fun e w' => ∃ A' c', e = .returned (.tuple #[ev ⟨((find T x).getD z0).e, A', ((find T x).getD z0).n, c'⟩, .bool (find T x).isSome]) ∧
      AR w' A' ((find T x).getD z0).n ((find T x).getD z0).e.m.l ∧ NewA w' w.heap.size A' ((find T x).getD z0).n ∧ Below w.heap.size w w' := by
  have hg := h.found x
  exact get_raw _ _ _ _ _ _ _ _ _ _ _ _ _ _ _ _ _ _ _ _ _ _ _ _ (.map mb) N w h.ltN (by simpa using h.box.cell 0) (fun W hW => h.look hx W hW) hg.2.2.1 hg.2.2.2
/-- what a store in the map hands the walk -/
structure UpOK (W : World) (b : Nat) (T : Row) (clock : Nat) (e : En) (n : Nat) : Prop where
  run : ∀ W2 A' c', Below W.heap.size W W2 → AR W2 A' n e.m.l → (Instr.mapUpdate 31 (.map (some b)) (tv e.t) (ev ⟨e, A', n, c'⟩)).run Try.prog W2 = .ok () (stW W2 b T clock ⟨e, A', n, c'⟩)
  am : ∀ W2 A' c', Below W.heap.size W W2 → AR W2 A' n e.m.l → AM (stW W2 b T clock ⟨e, A', n, c'⟩) b (put T clock ⟨e, A', n, c'⟩) (tock T clock ⟨e, A', n, c'⟩) ∧ W2.grownBy (stW W2 b T clock ⟨e, A', n, c'⟩) (some b)
theorem AM.up {W : World} {b : Nat} {T : Row} {clock : Nat} (h : AM W b T clock) (e : En) (n : Nat) (hx : wfT e.t) (ha : 0 ≤ e.a ∧ e.a ≤ 3) (hn : n ≤ 1000000) : UpOK W b T clock e n :=
  ⟨fun W2 A' c' hW har => ((h.next hW).store (y := ⟨e, A', n, c'⟩) ⟨hx, ha, har, hn⟩).1, fun W2 A' c' hW har => by
    have := (h.next hW).store (y := ⟨e, A', n, c'⟩) ⟨hx, ha, har, hn⟩
    exact ⟨this.2.1, this.2.2.1⟩⟩
theorem len_eq {W : World} {b : Nat} {es : Array MapEntry} {clock : Nat} (hb : W.heap[b]? = some (.map es clock)) : (Builtin.len_ #[31] 3 #[.map (some b)]).run Try.prog W = .ok (.int .i64 es.size) W := by
  simp [Builtin.len_, run_underlying Try.underlying31, MapKept.run_getObj_map hb, goInt, Result.andThen]
theorem nil_eq (b : Nat) (W : World) : (binOp .eql 31 (.map (some b)) (.map none)).run Try.prog W = .ok (.bool false) W := by kernel_rfl
/-- Sources that lie from a place on, if there are any -/
def NewB (B : Nat) (A : Option Addr) (n : Nat) : Prop := 0 < n → ∃ g, A = some ⟨g, 0, none⟩ ∧ B ≤ g
theorem NewA.b {w : World} {B : Nat} {A : Option Addr} {n : Nat} (h : NewA w B A n) : NewB B A n := fun hn => by
  obtain ⟨g, _, h1, h2, _⟩ := h hn
  exact ⟨g, h1, h2⟩
theorem NewB.mono {B B' : Nat} {A : Option Addr} {n : Nat} (h : NewB B A n) (hb : B' ≤ B) : NewB B' A n := fun hn => by
  obtain ⟨g, h1, h2⟩ := h hn
  exact ⟨g, h1, by omega⟩
def HearPost (w : World) (N : Nat) (mb : Option Nat) (T : Row) (e : En) (n : Nat) (w' : World) : Prop :=
  ∃ mb' clock A' c', TB w' N mb' (put T clock ⟨e, A', n, c'⟩) ∧ Chg w w' N mb ∧ (∀ j, mb' = some j → mb = some j ∨ w.heap.size ≤ j) ∧ NewB w.heap.size A' n
theorem hear_end {w W W2 : World} {N b : Nat} {mb : Option Nat} {T : Row} {clock : Nat} {e : En} {n c' : Nat} {A' : Option Addr} (hup : UpOK W b T clock e n) (hN : Blk W N 33 #[.map (some b)]) (hbm : ∃ es cl, W.heap[b]? = some (.map es cl))
    (hw : Chg w W N mb) (hb : mb = some b ∨ (w.heap.size ≤ b)) (hW : Below W.heap.size W W2) (har : AR W2 A' n e.m.l) (hna : NewB W.heap.size A' n) : HearPost w N mb T e n (stW W2 b T clock ⟨e, A', n, c'⟩) := by
  obtain ⟨h1, h2⟩ := hup.am W2 A' c' hW har
  have hne : N ≠ b := by
    rintro rfl
    obtain ⟨es, cl, hm⟩ := hbm
    unfold Blk at hN
    rw [hN] at hm
    cases hm
  have hlt := hN.lt
  have hsz := hW.size
  refine ⟨some b, clock, A', c', ⟨(h2.block N (by omega) (by simpa using hne)).trans (hN.next hW), .inr ⟨b, _, rfl, h1⟩⟩, ⟨h2.os.trans (hW.os.trans hw.os), h2.tape.trans (hW.tape.trans hw.tape), h2.output.trans (hW.output.trans hw.output), Nat.le_trans hw.size (Nat.le_trans hsz h2.size), fun i hi h3 h4 => ?_⟩, fun j hj => ?_, hna.mono hw.size⟩
  · have hiW : i < W.heap.size := Nat.lt_of_lt_of_le hi hw.size
    have hib : i ≠ b := by
      rintro rfl
      rcases hb with hb | hb
      · exact h4 hb
      · omega
    exact (h2.block i (by omega) (by simpa using hib)).trans ((hW.block i hiW).trans (hw.block i hi h3 h4))
  · cases hj
    exact hb
set_option maxRecDepth 100000 in
set_option maxHeartbeats 4000000 in
theorem hear_some (b0 b1 b2 b3 b4 : Int) (k f t s g r c : Int) (o is : Bool) (A : Option Addr) (n cp : Nat) (l : List Int) (z : Ex) (N b clock : Nat) (T : Row) (w : World) (hN : Blk w N 33 #[.map (some b)]) (hm : AM w b T clock) (hx : wfT (b0, b1, b2, b3, b4))
    (hf : (find T (b0, b1, b2, b3, b4)).getD z0 = z) (his : (find T (b0, b1, b2, b3, b4)).isSome = is) (hroom : T.length < 65536) (h : AR w A n l) (hn : n ≤ 1000000) :
    Calls Try.prog 10 #[.pointer (some ⟨N, 0, none⟩), .agg #[.int .i64 b0, .int .i64 b1, .int .u32 b2, .int .u32 b3, .int .u32 b4], .agg #[.int .i64 k, .int .u32 f, .int .u32 t, .int .u32 s, .int .u32 g, .int .i64 r, .int .i64 c, .bool o, .slice A n cp]] w fun e w' => e = .returned (.bool true) ∧ HearPost w N (some b) T ⟨(b0, b1, b2, b3, b4), 0, ⟨k, f, t, s, g, r, c, o, l⟩⟩ n w' := by
  have hl : ∀ W, Below w.heap.size w W → (Instr.lookup 31 (.map (some b)) (.agg #[.int .i64 b0, .int .i64 b1, .int .u32 b2, .int .u32 b3, .int .u32 b4]) true).run Try.prog W = .ok (.tuple #[ev z, .bool is]) W := fun W hW => by
    rw [← hf, ← his]
    exact hm.look hx W (hW.block b hm.lt)
  have hlen : ∀ W, Below w.heap.size w W → W.heap[b]? = some (.map (T.map mkE).toArray clock) := fun W hW => (hW.block b hm.lt).trans hm.block
  have hsz : (T.map mkE).toArray.size = T.length := by simp
  have HM := Lib.hid hm
  have HN := Lib.hid hN
  have hlt := hN.lt
  have hc : w.cell? ⟨N, 0, none⟩ = some (.map (some b)) := by simpa using hN.cell 0
  have hk0 := (Blk.new w 28 #[.int .i64 b0, .int .i64 b1, .int .u32 b2, .int .u32 b3, .int .u32 b4]).alloc (.cells #[.int .i64 k, .int .u32 f, .int .u32 t, .int .u32 s, .int .u32 g, .int .i64 r, .int .i64 c, .bool o, .slice A n cp] 40)
  have hk1 := Blk.new (w.alloc (.cells #[.int .i64 b0, .int .i64 b1, .int .u32 b2, .int .u32 b3, .int .u32 b4] 28)) 40 #[.int .i64 k, .int .u32 f, .int .u32 t, .int .u32 s, .int .u32 g, .int .i64 r, .int .i64 c, .bool o, .slice A n cp]
  rw [sz_alloc] at hk1
  have hb := ((Below.refl w.heap.size w).alloc (Nat.le_refl _) (.cells #[.int .i64 b0, .int .i64 b1, .int .u32 b2, .int .u32 b3, .int .u32 b4] 28)).alloc (by simp) (.cells #[.int .i64 k, .int .u32 f, .int .u32 t, .int .u32 s, .int .u32 g, .int .i64 r, .int .i64 c, .bool o, .slice A n cp] 40)
  generalize (T.map mkE).toArray = es at *
  unfold ev encE at hl
  have HX := Lib.hid hx
  clear hN hm hx his hf
  go_enter Try.func10, Try.ntmps10
  go_upto_region 1 with fail
  generalize (w.alloc (.cells #[.int .i64 b0, .int .i64 b1, .int .u32 b2, .int .u32 b3, .int .u32 b4] 28)).alloc (.cells #[.int .i64 k, .int .u32 f, .int .u32 t, .int .u32 s, .int .u32 g, .int .i64 r, .int .i64 c, .bool o, .slice A n cp] 40) = W1 at *
  have hlt1 := hk1.lt
  have l0 : w.heap.size < W1.heap.size := by omega
  have l1 : N < W1.heap.size := by omega
  have d0 : W1.cell? ⟨N, 0, none⟩ = some (.map (some b)) := (hb.cell (p := ⟨N, 0, none⟩) hlt).trans hc
  have e0 : W1.cell? ⟨w.heap.size, 0, none⟩ = some (.int .i64 b0) := hk0.cell 0
  have e1 : W1.cell? ⟨w.heap.size, 1, none⟩ = some (.int .i64 b1) := hk0.cell 1
  have e2 : W1.cell? ⟨w.heap.size, 2, none⟩ = some (.int .u32 b2) := hk0.cell 2
  have e3 : W1.cell? ⟨w.heap.size, 3, none⟩ = some (.int .u32 b3) := hk0.cell 3
  have e4 : W1.cell? ⟨w.heap.size, 4, none⟩ = some (.int .u32 b4) := hk0.cell 4
  have k1 := hl _ hb.drew
  have k2 := hl _ (hb.alloc hb.size (.cells #[.int .i64 0, .int .i64 0, .int .u32 0, .int .u32 0, .int .u32 0, .int .i64 0, .int .i64 0, .int .u32 0, .int .u32 0, .int .u32 0, .int .u32 0, .int .i64 0, .int .i64 0, .bool false, .slice none 0 0] 56)).drew
  have hlen1 := fun W hW => hlen W (hb.trans (Below.mono hW hb.size))
  have HL := Lib.hid hlen1
  have HB := Lib.hid hb
  have HA := Lib.hid h
  have HK0 := Lib.hid hk0
  have HK1 := Lib.hid hk1
  clear hl hc h hb hk0 hk1 hlen hlen1
  go_region
  all_goals
    have hbz : Below W1.heap.size W1 (W1.alloc (.cells #[.int .i64 z.e.t.1, .int .i64 z.e.t.2.1, .int .u32 z.e.t.2.2.1, .int .u32 z.e.t.2.2.2.1, .int .u32 z.e.t.2.2.2.2, .int .i64 z.e.a, .int .i64 z.e.m.k, .int .u32 z.e.m.f, .int .u32 z.e.m.t, .int .u32 z.e.m.s, .int .u32 z.e.m.g, .int .i64 z.e.m.r, .int .i64 z.e.m.c, .bool z.e.m.o, .slice z.A z.n z.c] 56)).drew := ((Below.refl _ _).alloc (Nat.le_refl _) _).drew
    generalize (W1.alloc (.cells #[.int .i64 z.e.t.1, .int .i64 z.e.t.2.1, .int .u32 z.e.t.2.2.1, .int .u32 z.e.t.2.2.2.1, .int .u32 z.e.t.2.2.2.2, .int .i64 z.e.a, .int .i64 z.e.m.k, .int .u32 z.e.m.f, .int .u32 z.e.m.t, .int .u32 z.e.m.s, .int .u32 z.e.m.g, .int .i64 z.e.m.r, .int .i64 z.e.m.c, .bool z.e.m.o, .slice z.A z.n z.c] 56)).drew = W2 at *
    have hbw := HB.out.trans (hbz.mono HB.out.size)
    have dd : ∀ W, Below W2.heap.size W2 W → W.cell? ⟨N, 0, none⟩ = some (.map (some b)) := fun W hW => (hW.cell (p := ⟨N, 0, none⟩) (Nat.lt_of_lt_of_le l1 hbz.size)).trans ((hbz.cell (p := ⟨N, 0, none⟩) l1).trans d0)
    have hk0 := HK0.out.next hbz
    have hk1 := HK1.out.next hbz
    have hb2 := HL.out W2 hbz
    clear d0 e0 e1 e2 e3 e4 k1 k2
    have hup := (HM.out.next hbw).up ⟨(b0, b1, b2, b3, b4), 0, ⟨k, f, t, s, g, r, c, o, l⟩⟩ n HX.out ⟨Int.le_refl 0, (by decide : (0 : Int) ≤ 3)⟩ hn
    have HUP := Lib.hid hup
    have hrun : ∀ W2' A' c', Below W2.heap.size W2 W2' → AR W2' A' n l → (Instr.mapUpdate 31 (.map (some b)) (.agg #[.int .i64 b0, .int .i64 b1, .int .u32 b2, .int .u32 b3, .int .u32 b4]) (.agg #[.int .i64 b0, .int .i64 b1, .int .u32 b2, .int .u32 b3, .int .u32 b4, .int .i64 0, .int .i64 k, .int .u32 f, .int .u32 t, .int .u32 s, .int .u32 g, .int .i64 r, .int .i64 c, .bool o, .slice A' n c'])).run Try.prog W2' = .ok () (stW W2' b T clock ⟨⟨(b0, b1, b2, b3, b4), 0, ⟨k, f, t, s, g, r, c, o, l⟩⟩, A', n, c'⟩) := fun W2' A' c' h1 h2 => hup.run W2' A' c' h1 h2
    have HRUN := Lib.hid hrun
    have HE : ∀ W A' c', Below W2.heap.size W2 W → AR W A' n l → NewB W2.heap.size A' n → HearPost w N (some b) T ⟨(b0, b1, b2, b3, b4), 0, ⟨k, f, t, s, g, r, c, o, l⟩⟩ n (stW W b T clock ⟨⟨(b0, b1, b2, b3, b4), 0, ⟨k, f, t, s, g, r, c, o, l⟩⟩, A', n, c'⟩) := fun W A' c' h1 h2 h3 =>
      hear_end HUP.out (HN.out.next hbw) ⟨_, _, hb2⟩ (Chg.of_below hbw _ _) (.inl rfl) h1 h2 h3
    have HEN := Lib.hid HE
    have HAR : Hid (∀ W, Below W2.heap.size W2 W → AR W A n l) := Lib.hid fun W hW => (HA.out.next hbw).next hW
    clear hup hrun HE hbw
    have d0 := dd W2 (Below.refl _ _)
    have d1 : ∀ W, Below W2.heap.size W2 W → W.cell? ⟨w.heap.size, 0, none⟩ = some (.int .i64 b0) := fun W hW => (hk0.next hW).cell 0
    have d2 : ∀ W, Below W2.heap.size W2 W → W.cell? ⟨w.heap.size, 1, none⟩ = some (.int .i64 b1) := fun W hW => (hk0.next hW).cell 1
    have d3 : ∀ W, Below W2.heap.size W2 W → W.cell? ⟨w.heap.size, 2, none⟩ = some (.int .u32 b2) := fun W hW => (hk0.next hW).cell 2
    have d4 : ∀ W, Below W2.heap.size W2 W → W.cell? ⟨w.heap.size, 3, none⟩ = some (.int .u32 b3) := fun W hW => (hk0.next hW).cell 3
    have d5 : ∀ W, Below W2.heap.size W2 W → W.cell? ⟨w.heap.size, 4, none⟩ = some (.int .u32 b4) := fun W hW => (hk0.next hW).cell 4
    have m0 : ∀ W, Below W2.heap.size W2 W → W.cell? ⟨w.heap.size + 1, 0, none⟩ = some (.int .i64 k) := fun W hW => (hk1.next hW).cell 0
    have m1 : ∀ W, Below W2.heap.size W2 W → W.cell? ⟨w.heap.size + 1, 1, none⟩ = some (.int .u32 f) := fun W hW => (hk1.next hW).cell 1
    have m2 : ∀ W, Below W2.heap.size W2 W → W.cell? ⟨w.heap.size + 1, 2, none⟩ = some (.int .u32 t) := fun W hW => (hk1.next hW).cell 2
    have m3 : ∀ W, Below W2.heap.size W2 W → W.cell? ⟨w.heap.size + 1, 3, none⟩ = some (.int .u32 s) := fun W hW => (hk1.next hW).cell 3
    have m4 : ∀ W, Below W2.heap.size W2 W → W.cell? ⟨w.heap.size + 1, 4, none⟩ = some (.int .u32 g) := fun W hW => (hk1.next hW).cell 4
    have m5 : ∀ W, Below W2.heap.size W2 W → W.cell? ⟨w.heap.size + 1, 5, none⟩ = some (.int .i64 r) := fun W hW => (hk1.next hW).cell 5
    have m6 : ∀ W, Below W2.heap.size W2 W → W.cell? ⟨w.heap.size + 1, 6, none⟩ = some (.int .i64 c) := fun W hW => (hk1.next hW).cell 6
    have m7 : ∀ W, Below W2.heap.size W2 W → W.cell? ⟨w.heap.size + 1, 7, none⟩ = some (.bool o) := fun W hW => (hk1.next hW).cell 7
    have m8 : ∀ W, Below W2.heap.size W2 W → W.cell? ⟨w.heap.size + 1, 8, none⟩ = some (.slice A n cp) := fun W hW => (hk1.next hW).cell 8
    clear hk0 hk1
    have hd1 : decide (65536 ≤ es.size) = false := by simp; omega
    have hd2 : decide ((65536 : Int) ≤ (es.size : Int)) = false := by simp; omega
    have hq1 := len_eq hb2
    have hq2 := nil_eq b W2
    generalize es.size = q at hq1 hd1 hd2
    clear hb2 hsz
    cases is
    all_goals
      go_wp2_with fail
      refine wp_region_held_drew (S := fun _ => True) (by kernel_rfl) trivial (fun _ => ?_)
      refine wpAnyH_each (md := .any) (m := 1) (rem := [0, 1, 2, 3, 4, 5, 6, 7, 8]) (tail := [9]) (deps := fun i => match i with | 1 => [0] | 2 => [1] | 3 => [2] | 7 => [5, 6] | 8 => [7] | _ => []) (fun _ W => Below W2.heap.size W2 W) (fun _ w _ w' => Below w.heap.size w w')
        (fun ix ds v W => match ix with | 0 => v = .pointer (some ⟨N, 0, none⟩) | 1 => v = .pointer (some ⟨N, 0, none⟩) | 2 => v = .pointer (some ⟨N, 0, none⟩) | 3 => v = .map (some b) | 4 => v = .agg #[.int .i64 b0, .int .i64 b1, .int .u32 b2, .int .u32 b3, .int .u32 b4] | 5 => v = .agg #[.int .i64 b0, .int .i64 b1, .int .u32 b2, .int .u32 b3, .int .u32 b4] | 6 => v = .agg #[.int .i64 k, .int .u32 f, .int .u32 t, .int .u32 s, .int .u32 g, .int .i64 r, .int .i64 c, .bool o, .slice A n cp] | 7 => v = .agg #[.int .i64 b0, .int .i64 b1, .int .u32 b2, .int .u32 b3, .int .u32 b4, .int .i64 0, .int .i64 k, .int .u32 f, .int .u32 t, .int .u32 s, .int .u32 g, .int .i64 r, .int .i64 c, .bool o, .slice A n cp] | 8 => ∃ A' c', v = .agg #[.int .i64 b0, .int .i64 b1, .int .u32 b2, .int .u32 b3, .int .u32 b4, .int .i64 0, .int .i64 k, .int .u32 f, .int .u32 t, .int .u32 s, .int .u32 g, .int .i64 r, .int .i64 c, .bool o, .slice A' n c'] ∧ AR W A' n l ∧ NewB W2.heap.size A' n | _ => True) (eachB_spec (by kernel_rfl)) (fun _ _ _ _ _ _ _ h k => below_next h k) (fun _ _ _ => trivial) ?_ (fun _ _ _ _ => True) (fun _ _ _ _ _ _ _ _ _ _ _ _ _ _ => ⟨trivial, trivial⟩) ?_ ?_ (Below.refl _ _).drew
      · intro i hi j _ hij hjd ds v u l W W' _ _ hk h
        simp only [List.mem_cons, List.not_mem_nil, or_false] at hi
        rcases hi with rfl | rfl | rfl | rfl | rfl | rfl | rfl | rfl | rfl
        · exact h
        · exact h
        · exact h
        · exact h
        · exact h
        · exact h
        · exact h
        · exact h
        · obtain ⟨A', c', e, h1, h2⟩ := h; exact ⟨A', c', e, h1.next hk, h2⟩
      · refine AllO.cons [] rfl rfl (fun vs l W hl hT hd => ?_) ?_
        · dsimp only [lay, List.foldl, List.map, dstOf]
          go_wp2
          exact ⟨rfl, _, rfl, Below.refl _ _, rfl⟩
        refine AllO.cons [0] rfl rfl (fun vs l W hl hT hd => ?_) ?_
        · have e0 : vs 0 = .pointer (some ⟨N, 0, none⟩) := hd 0 (by simp)
          dsimp only [lay, List.foldl, List.map, dstOf]
          rw [e0]
          go_wp2
          exact ⟨rfl, _, rfl, Below.refl _ _, rfl⟩
        refine AllO.cons [1] rfl rfl (fun vs l W hl hT hd => ?_) ?_
        · have e1 : vs 1 = .pointer (some ⟨N, 0, none⟩) := hd 1 (by simp)
          dsimp only [lay, List.foldl, List.map, dstOf]
          rw [e1]
          go_wp2
          exact ⟨rfl, _, rfl, Below.refl _ _, rfl⟩
        refine AllO.cons [2] rfl rfl (fun vs l W hl hT hd => ?_) ?_
        · have e2 : vs 2 = .pointer (some ⟨N, 0, none⟩) := hd 2 (by simp)
          have x0 := dd W hT
          dsimp only [lay, List.foldl, List.map, dstOf]
          rw [e2]
          go_wp2
          exact ⟨rfl, _, rfl, Below.refl _ _, rfl⟩
        refine AllO.cons [] rfl rfl (fun vs l W hl hT hd => ?_) ?_
        · have x1 := d1 W hT
          have x2 := d2 W hT
          have x3 := d3 W hT
          have x4 := d4 W hT
          have x5 := d5 W hT
          dsimp only [lay, List.foldl, List.map, dstOf]
          go_wp2
          exact ⟨rfl, _, rfl, Below.refl _ _, rfl⟩
        refine AllO.cons [] rfl rfl (fun vs l W hl hT hd => ?_) ?_
        · have x1 := d1 W hT
          have x2 := d2 W hT
          have x3 := d3 W hT
          have x4 := d4 W hT
          have x5 := d5 W hT
          dsimp only [lay, List.foldl, List.map, dstOf]
          go_wp2
          exact ⟨rfl, _, rfl, Below.refl _ _, rfl⟩
        refine AllO.cons [] rfl rfl (fun vs l W hl hT hd => ?_) ?_
        · have m0 := m0 W hT
          have m1 := m1 W hT
          have m2 := m2 W hT
          have m3 := m3 W hT
          have m4 := m4 W hT
          have m5 := m5 W hT
          have m6 := m6 W hT
          have m7 := m7 W hT
          have m8 := m8 W hT
          dsimp only [lay, List.foldl, List.map, dstOf]
          go_wp2
          exact ⟨rfl, _, rfl, Below.refl _ _, rfl⟩
        refine AllO.cons [5, 6] rfl rfl (fun vs l W hl hT hd => ?_) ?_
        · have e5 : vs 5 = .agg #[.int .i64 b0, .int .i64 b1, .int .u32 b2, .int .u32 b3, .int .u32 b4] := hd 5 (by simp)
          have e6 : vs 6 = .agg #[.int .i64 k, .int .u32 f, .int .u32 t, .int .u32 s, .int .u32 g, .int .i64 r, .int .i64 c, .bool o, .slice A n cp] := hd 6 (by simp)
          dsimp only [lay, List.foldl, List.map, dstOf]
          rw [e5, e6]
          go_wp2
          exact ⟨rfl, _, rfl, Below.refl _ _, rfl⟩
        refine AllO.cons [7] rfl rfl (fun vs l W hl hT hd => ?_) AllO.nil
        · have e7 : vs 7 = .agg #[.int .i64 b0, .int .i64 b1, .int .u32 b2, .int .u32 b3, .int .u32 b4, .int .i64 0, .int .i64 k, .int .u32 f, .int .u32 t, .int .u32 s, .int .u32 g, .int .i64 r, .int .i64 c, .bool o, .slice A n cp] := hd 7 (by simp)
          have hC := Lib.hid (copied_raw b0 b1 b2 b3 b4 0 k f t s g r c o A n cp _ W (HAR.out W hT) hn)
          dsimp only [lay, List.foldl, List.map, dstOf]
          rw [e7]
          go_wp2_with (go_at_call 25; refine hC.out.mono ?_; rintro e w3 ⟨A', c', rfl, har, hna, hb3⟩)
          exact ⟨rfl, _, rfl, hb3, A', c', rfl, har, hna.b.mono hT.size⟩
      · intro vs l W hall hT hF _ aE LE ha hL
        have e0 : vs 0 = .pointer (some ⟨N, 0, none⟩) := hF 0 (by simp)
        have e1 : vs 1 = .pointer (some ⟨N, 0, none⟩) := hF 1 (by simp)
        have e2 : vs 2 = .pointer (some ⟨N, 0, none⟩) := hF 2 (by simp)
        have e3 : vs 3 = .map (some b) := hF 3 (by simp)
        have e4 : vs 4 = .agg #[.int .i64 b0, .int .i64 b1, .int .u32 b2, .int .u32 b3, .int .u32 b4] := hF 4 (by simp)
        have e5 : vs 5 = .agg #[.int .i64 b0, .int .i64 b1, .int .u32 b2, .int .u32 b3, .int .u32 b4] := hF 5 (by simp)
        have e6 : vs 6 = .agg #[.int .i64 k, .int .u32 f, .int .u32 t, .int .u32 s, .int .u32 g, .int .i64 r, .int .i64 c, .bool o, .slice A n cp] := hF 6 (by simp)
        have e7 : vs 7 = .agg #[.int .i64 b0, .int .i64 b1, .int .u32 b2, .int .u32 b3, .int .u32 b4, .int .i64 0, .int .i64 k, .int .u32 f, .int .u32 t, .int .u32 s, .int .u32 g, .int .i64 r, .int .i64 c, .bool o, .slice A n cp] := hF 7 (by simp)
        obtain ⟨A', c', e8, har, hnb⟩ := hF 8 (by simp)
        have hL' : LE = #[true, true, true, true, true, true, true, true, true, false] := hL.trans (by kernel_rfl)
        dsimp only [lay, List.foldl, dstOf] at ha
        rw [e0, e1, e2, e3, e4, e5, e6, e7, e8] at ha
        clear e0 e1 e2 e3 e4 e5 e6 e7 e8 hL hF
        subst ha hL'
        have hrn := HRUN.out W A' c' hT har
        have HHP := Lib.hid (HEN.out W A' c' hT har hnb)
        refine wpAnyH_ready (rs := [9]) (by kernel_rfl) (by simp) ?_
        refine AllReadyH.cons rfl (fun K hK => ?_) AllReadyH.nil
        go_simp
        refine hK.out _ _ trivial (fun _ => ?_)
        clear hK
        clear K
        refine wpAnyH_done (by kernel_rfl) ?_ _
        generalize stW W b T clock ⟨⟨(b0, b1, b2, b3, b4), 0, ⟨k, f, t, s, g, r, c, o, _⟩⟩, A', n, c'⟩ = W9 at *
        clear hrn har hnb hT
        go_wp2
        go_ret
        exact ⟨rfl, HHP.out⟩
theorem len_nil (W : World) : (Builtin.len_ #[31] 3 #[.map none]).run Try.prog W = .ok (.int .i64 0) W := by kernel_rfl
theorem nil_nil (W : World) : (binOp .eql 31 (.map none) (.map none)).run Try.prog W = .ok (.bool true) W := by kernel_rfl
set_option maxRecDepth 100000 in
set_option maxHeartbeats 4000000 in
theorem hear_none (b0 b1 b2 b3 b4 : Int) (k f t s g r c : Int) (o : Bool) (A : Option Addr) (n cp : Nat) (l : List Int) (N : Nat) (w : World) (hN : Blk w N 33 #[.map none]) (hx : wfT (b0, b1, b2, b3, b4))
    (h : AR w A n l) (hn : n ≤ 1000000) :
    Calls Try.prog 10 #[.pointer (some ⟨N, 0, none⟩), .agg #[.int .i64 b0, .int .i64 b1, .int .u32 b2, .int .u32 b3, .int .u32 b4], .agg #[.int .i64 k, .int .u32 f, .int .u32 t, .int .u32 s, .int .u32 g, .int .i64 r, .int .i64 c, .bool o, .slice A n cp]] w fun e w' => e = .returned (.bool true) ∧ HearPost w N none [] ⟨(b0, b1, b2, b3, b4), 0, ⟨k, f, t, s, g, r, c, o, l⟩⟩ n w' := by
  have hl : ∀ W, (Instr.lookup 31 (.map none) (.agg #[.int .i64 b0, .int .i64 b1, .int .u32 b2, .int .u32 b3, .int .u32 b4]) true).run Try.prog W = .ok (.tuple #[.agg #[.int .i64 0, .int .i64 0, .int .u32 0, .int .u32 0, .int .u32 0, .int .i64 0, .int .i64 0, .int .u32 0, .int .u32 0, .int .u32 0, .int .u32 0, .int .i64 0, .int .i64 0, .bool false, .slice none 0 0], .bool false]) W := fun W => look_nil hx W
  have HN := Lib.hid hN
  have hlt := hN.lt
  have hc : w.cell? ⟨N, 0, none⟩ = some (.map none) := by simpa using hN.cell 0
  have hk0 := (Blk.new w 28 #[.int .i64 b0, .int .i64 b1, .int .u32 b2, .int .u32 b3, .int .u32 b4]).alloc (.cells #[.int .i64 k, .int .u32 f, .int .u32 t, .int .u32 s, .int .u32 g, .int .i64 r, .int .i64 c, .bool o, .slice A n cp] 40)
  have hk1 := Blk.new (w.alloc (.cells #[.int .i64 b0, .int .i64 b1, .int .u32 b2, .int .u32 b3, .int .u32 b4] 28)) 40 #[.int .i64 k, .int .u32 f, .int .u32 t, .int .u32 s, .int .u32 g, .int .i64 r, .int .i64 c, .bool o, .slice A n cp]
  rw [sz_alloc] at hk1
  have hb := ((Below.refl w.heap.size w).alloc (Nat.le_refl _) (.cells #[.int .i64 b0, .int .i64 b1, .int .u32 b2, .int .u32 b3, .int .u32 b4] 28)).alloc (by simp) (.cells #[.int .i64 k, .int .u32 f, .int .u32 t, .int .u32 s, .int .u32 g, .int .i64 r, .int .i64 c, .bool o, .slice A n cp] 40)
  have HX := Lib.hid hx
  clear hN hx
  go_enter Try.func10, Try.ntmps10
  go_upto_region 1 with fail
  generalize (w.alloc (.cells #[.int .i64 b0, .int .i64 b1, .int .u32 b2, .int .u32 b3, .int .u32 b4] 28)).alloc (.cells #[.int .i64 k, .int .u32 f, .int .u32 t, .int .u32 s, .int .u32 g, .int .i64 r, .int .i64 c, .bool o, .slice A n cp] 40) = W1 at *
  have hlt1 := hk1.lt
  have l0 : w.heap.size < W1.heap.size := by omega
  have l1 : N < W1.heap.size := by omega
  have d0 : W1.cell? ⟨N, 0, none⟩ = some (.map none) := (hb.cell (p := ⟨N, 0, none⟩) hlt).trans hc
  have e0 : W1.cell? ⟨w.heap.size, 0, none⟩ = some (.int .i64 b0) := hk0.cell 0
  have e1 : W1.cell? ⟨w.heap.size, 1, none⟩ = some (.int .i64 b1) := hk0.cell 1
  have e2 : W1.cell? ⟨w.heap.size, 2, none⟩ = some (.int .u32 b2) := hk0.cell 2
  have e3 : W1.cell? ⟨w.heap.size, 3, none⟩ = some (.int .u32 b3) := hk0.cell 3
  have e4 : W1.cell? ⟨w.heap.size, 4, none⟩ = some (.int .u32 b4) := hk0.cell 4
  have k1 := hl W1.drew
  have k2 := hl (W1.alloc (.cells #[.int .i64 0, .int .i64 0, .int .u32 0, .int .u32 0, .int .u32 0, .int .i64 0, .int .i64 0, .int .u32 0, .int .u32 0, .int .u32 0, .int .u32 0, .int .i64 0, .int .i64 0, .bool false, .slice none 0 0] 56)).drew
  have HB := Lib.hid hb
  have HA := Lib.hid h
  have HK0 := Lib.hid hk0
  have HK1 := Lib.hid hk1
  clear hl hc h hb hk0 hk1
  go_region
  all_goals
    have hbz : Below W1.heap.size W1 (W1.alloc (.cells #[.int .i64 0, .int .i64 0, .int .u32 0, .int .u32 0, .int .u32 0, .int .i64 0, .int .i64 0, .int .u32 0, .int .u32 0, .int .u32 0, .int .u32 0, .int .i64 0, .int .i64 0, .bool false, .slice none 0 0] 56)).drew := ((Below.refl _ _).alloc (Nat.le_refl _) _).drew
    generalize (W1.alloc (.cells #[.int .i64 0, .int .i64 0, .int .u32 0, .int .u32 0, .int .u32 0, .int .i64 0, .int .i64 0, .int .u32 0, .int .u32 0, .int .u32 0, .int .u32 0, .int .i64 0, .int .i64 0, .bool false, .slice none 0 0] 56)).drew = W0 at *
    have hbw := HB.out.trans (hbz.mono HB.out.size)
    have d1 := (hbz.cell (p := ⟨N, 0, none⟩) l1).trans d0
    have l2 : N < W0.heap.size := Nat.lt_of_lt_of_le l1 hbz.size
    have hb2 := HN.out.next hbw
    have fz := hb2.frozen 0
    have hb3 := (hb2.set_ 0 (.map (some W0.heap.size))).alloc (.map #[] 0)
    have hq1 := len_nil W0
    have hq2 := nil_nil W0
    have hmm := @run_makeMap Try.prog
    have hk0 := HK0.out.next hbz
    have hk1 := HK1.out.next hbz
    have hn0 : w.heap.size ≠ N := by omega
    have hn1 : w.heap.size + 1 ≠ N := by omega
    have hk0' := (hk0.far (p := ⟨N, 0, none⟩) hn0 (.map (some W0.heap.size))).alloc (.map #[] 0)
    have hk1' := (hk1.far (p := ⟨N, 0, none⟩) hn1 (.map (some W0.heap.size))).alloc (.map #[] 0)
    have hmap : ((W0.setCell ⟨N, 0, none⟩ (.map (some W0.heap.size))).alloc (.map #[] 0)).heap[W0.heap.size]? = some (.map #[] 0) := by
      have := heap_alloc_new (W0.setCell ⟨N, 0, none⟩ (.map (some W0.heap.size))) (.map #[] 0)
      simpa using this
    have hzz : ((W0.setCell ⟨N, 0, none⟩ (.map (some W0.heap.size))).alloc (.map #[] 0)).heap.size = W0.heap.size + 1 := by simp
    have hchg : Chg w ((W0.setCell ⟨N, 0, none⟩ (.map (some W0.heap.size))).alloc (.map #[] 0)) N none := by
      refine ⟨hbw.os, hbw.tape, hbw.output, by rw [hzz]; have := hbw.size; omega, fun i hi h1 _ => ?_⟩
      have := hbw.size
      rw [Below.heap_alloc _ _ _ (by simp; omega), Below.heap_setCell _ _ _ i (by simpa using h1), hbw.block i hi]
    have har0 : AR ((W0.setCell ⟨N, 0, none⟩ (.map (some W0.heap.size))).alloc (.map #[] 0)) A n l := by
      refine HA.out.of_blocks hchg.size fun g' o' v hg hv => hchg.block g' hg (HN.out.neU hv) (by simp)
    clear hk0 hk1 d0 e0 e1 e2 e3 e4 k1 k2
    go_wp2_with fail
    clear hq1 hq2 hmm fz d1
    generalize (W0.setCell ⟨N, 0, none⟩ (.map (some W0.heap.size))).alloc (.map #[] 0) = W2 at *
    have hb4 : Blk W2 N 33 #[.map (some W0.heap.size)] := hb3
    have hw0 : w.heap.size ≤ W0.heap.size := hbw.size
    generalize W0.heap.size = b at *
    have dd : ∀ W, Below W2.heap.size W2 W → W.cell? ⟨N, 0, none⟩ = some (.map (some b)) := fun W hW => (hb4.next hW).cell 0
    have ham : AM W2 b [] 0 := ⟨hmap, (fun p hp => by cases hp), List.nodup_nil, List.Pairwise.nil, (fun p hp => by cases hp)⟩
    have hup := ham.up ⟨(b0, b1, b2, b3, b4), 0, ⟨k, f, t, s, g, r, c, o, l⟩⟩ n HX.out ⟨Int.le_refl 0, (by decide : (0 : Int) ≤ 3)⟩ hn
    have HUP := Lib.hid hup
    have hrun : ∀ W2' A' c', Below W2.heap.size W2 W2' → AR W2' A' n l → (Instr.mapUpdate 31 (.map (some b)) (.agg #[.int .i64 b0, .int .i64 b1, .int .u32 b2, .int .u32 b3, .int .u32 b4]) (.agg #[.int .i64 b0, .int .i64 b1, .int .u32 b2, .int .u32 b3, .int .u32 b4, .int .i64 0, .int .i64 k, .int .u32 f, .int .u32 t, .int .u32 s, .int .u32 g, .int .i64 r, .int .i64 c, .bool o, .slice A' n c'])).run Try.prog W2' = .ok () (stW W2' b [] 0 ⟨⟨(b0, b1, b2, b3, b4), 0, ⟨k, f, t, s, g, r, c, o, l⟩⟩, A', n, c'⟩) := fun W2' A' c' h1 h2 => hup.run W2' A' c' h1 h2
    have HRUN := Lib.hid hrun
    have HE : ∀ W A' c', Below W2.heap.size W2 W → AR W A' n l → NewB W2.heap.size A' n → HearPost w N none [] ⟨(b0, b1, b2, b3, b4), 0, ⟨k, f, t, s, g, r, c, o, l⟩⟩ n (stW W b [] 0 ⟨⟨(b0, b1, b2, b3, b4), 0, ⟨k, f, t, s, g, r, c, o, l⟩⟩, A', n, c'⟩) := fun W A' c' h1 h2 h3 =>
      hear_end HUP.out hb4 ⟨_, _, hmap⟩ hchg (.inr hw0) h1 h2 h3
    have HEN := Lib.hid HE
    have HAR : Hid (∀ W, Below W2.heap.size W2 W → AR W A n l) := Lib.hid fun W hW => har0.next hW
    have d1 : ∀ W, Below W2.heap.size W2 W → W.cell? ⟨w.heap.size, 0, none⟩ = some (.int .i64 b0) := fun W hW => (hk0'.next hW).cell 0
    have d2 : ∀ W, Below W2.heap.size W2 W → W.cell? ⟨w.heap.size, 1, none⟩ = some (.int .i64 b1) := fun W hW => (hk0'.next hW).cell 1
    have d3 : ∀ W, Below W2.heap.size W2 W → W.cell? ⟨w.heap.size, 2, none⟩ = some (.int .u32 b2) := fun W hW => (hk0'.next hW).cell 2
    have d4 : ∀ W, Below W2.heap.size W2 W → W.cell? ⟨w.heap.size, 3, none⟩ = some (.int .u32 b3) := fun W hW => (hk0'.next hW).cell 3
    have d5 : ∀ W, Below W2.heap.size W2 W → W.cell? ⟨w.heap.size, 4, none⟩ = some (.int .u32 b4) := fun W hW => (hk0'.next hW).cell 4
    have m0 : ∀ W, Below W2.heap.size W2 W → W.cell? ⟨w.heap.size + 1, 0, none⟩ = some (.int .i64 k) := fun W hW => (hk1'.next hW).cell 0
    have m1 : ∀ W, Below W2.heap.size W2 W → W.cell? ⟨w.heap.size + 1, 1, none⟩ = some (.int .u32 f) := fun W hW => (hk1'.next hW).cell 1
    have m2 : ∀ W, Below W2.heap.size W2 W → W.cell? ⟨w.heap.size + 1, 2, none⟩ = some (.int .u32 t) := fun W hW => (hk1'.next hW).cell 2
    have m3 : ∀ W, Below W2.heap.size W2 W → W.cell? ⟨w.heap.size + 1, 3, none⟩ = some (.int .u32 s) := fun W hW => (hk1'.next hW).cell 3
    have m4 : ∀ W, Below W2.heap.size W2 W → W.cell? ⟨w.heap.size + 1, 4, none⟩ = some (.int .u32 g) := fun W hW => (hk1'.next hW).cell 4
    have m5 : ∀ W, Below W2.heap.size W2 W → W.cell? ⟨w.heap.size + 1, 5, none⟩ = some (.int .i64 r) := fun W hW => (hk1'.next hW).cell 5
    have m6 : ∀ W, Below W2.heap.size W2 W → W.cell? ⟨w.heap.size + 1, 6, none⟩ = some (.int .i64 c) := fun W hW => (hk1'.next hW).cell 6
    have m7 : ∀ W, Below W2.heap.size W2 W → W.cell? ⟨w.heap.size + 1, 7, none⟩ = some (.bool o) := fun W hW => (hk1'.next hW).cell 7
    have m8 : ∀ W, Below W2.heap.size W2 W → W.cell? ⟨w.heap.size + 1, 8, none⟩ = some (.slice A n cp) := fun W hW => (hk1'.next hW).cell 8
    clear hup hrun HE hbw ham hmap hb3 hb4 har0 hchg hk0' hk1' hbz hzz hb2
    refine wp_region_held_drew (S := fun _ => True) (by kernel_rfl) trivial (fun _ => ?_)
    refine wpAnyH_each (md := .any) (m := 1) (rem := [0, 1, 2, 3, 4, 5, 6, 7, 8]) (tail := [9]) (deps := fun i => match i with | 1 => [0] | 2 => [1] | 3 => [2] | 7 => [5, 6] | 8 => [7] | _ => []) (fun _ W => Below W2.heap.size W2 W) (fun _ w _ w' => Below w.heap.size w w')
      (fun ix ds v W => match ix with | 0 => v = .pointer (some ⟨N, 0, none⟩) | 1 => v = .pointer (some ⟨N, 0, none⟩) | 2 => v = .pointer (some ⟨N, 0, none⟩) | 3 => v = .map (some b) | 4 => v = .agg #[.int .i64 b0, .int .i64 b1, .int .u32 b2, .int .u32 b3, .int .u32 b4] | 5 => v = .agg #[.int .i64 b0, .int .i64 b1, .int .u32 b2, .int .u32 b3, .int .u32 b4] | 6 => v = .agg #[.int .i64 k, .int .u32 f, .int .u32 t, .int .u32 s, .int .u32 g, .int .i64 r, .int .i64 c, .bool o, .slice A n cp] | 7 => v = .agg #[.int .i64 b0, .int .i64 b1, .int .u32 b2, .int .u32 b3, .int .u32 b4, .int .i64 0, .int .i64 k, .int .u32 f, .int .u32 t, .int .u32 s, .int .u32 g, .int .i64 r, .int .i64 c, .bool o, .slice A n cp] | 8 => ∃ A' c', v = .agg #[.int .i64 b0, .int .i64 b1, .int .u32 b2, .int .u32 b3, .int .u32 b4, .int .i64 0, .int .i64 k, .int .u32 f, .int .u32 t, .int .u32 s, .int .u32 g, .int .i64 r, .int .i64 c, .bool o, .slice A' n c'] ∧ AR W A' n l ∧ NewB W2.heap.size A' n | _ => True) (eachB_spec (by kernel_rfl)) (fun _ _ _ _ _ _ _ h k => below_next h k) (fun _ _ _ => trivial) ?_ (fun _ _ _ _ => True) (fun _ _ _ _ _ _ _ _ _ _ _ _ _ _ => ⟨trivial, trivial⟩) ?_ ?_ (Below.refl _ _).drew
    · intro i hi j _ hij hjd ds v u l W W' _ _ hk h
      simp only [List.mem_cons, List.not_mem_nil, or_false] at hi
      rcases hi with rfl | rfl | rfl | rfl | rfl | rfl | rfl | rfl | rfl
      · exact h
      · exact h
      · exact h
      · exact h
      · exact h
      · exact h
      · exact h
      · exact h
      · obtain ⟨A', c', e, h1, h2⟩ := h; exact ⟨A', c', e, h1.next hk, h2⟩
    · refine AllO.cons [] rfl rfl (fun vs l W hl hT hd => ?_) ?_
      · dsimp only [lay, List.foldl, List.map, dstOf]
        go_wp2
        exact ⟨rfl, _, rfl, Below.refl _ _, rfl⟩
      refine AllO.cons [0] rfl rfl (fun vs l W hl hT hd => ?_) ?_
      · have e0 : vs 0 = .pointer (some ⟨N, 0, none⟩) := hd 0 (by simp)
        dsimp only [lay, List.foldl, List.map, dstOf]
        rw [e0]
        go_wp2
        exact ⟨rfl, _, rfl, Below.refl _ _, rfl⟩
      refine AllO.cons [1] rfl rfl (fun vs l W hl hT hd => ?_) ?_
      · have e1 : vs 1 = .pointer (some ⟨N, 0, none⟩) := hd 1 (by simp)
        dsimp only [lay, List.foldl, List.map, dstOf]
        rw [e1]
        go_wp2
        exact ⟨rfl, _, rfl, Below.refl _ _, rfl⟩
      refine AllO.cons [2] rfl rfl (fun vs l W hl hT hd => ?_) ?_
      · have e2 : vs 2 = .pointer (some ⟨N, 0, none⟩) := hd 2 (by simp)
        have x0 := dd W hT
        dsimp only [lay, List.foldl, List.map, dstOf]
        rw [e2]
        go_wp2
        exact ⟨rfl, _, rfl, Below.refl _ _, rfl⟩
      refine AllO.cons [] rfl rfl (fun vs l W hl hT hd => ?_) ?_
      · have x1 := d1 W hT
        have x2 := d2 W hT
        have x3 := d3 W hT
        have x4 := d4 W hT
        have x5 := d5 W hT
        dsimp only [lay, List.foldl, List.map, dstOf]
        go_wp2
        exact ⟨rfl, _, rfl, Below.refl _ _, rfl⟩
      refine AllO.cons [] rfl rfl (fun vs l W hl hT hd => ?_) ?_
      · have x1 := d1 W hT
        have x2 := d2 W hT
        have x3 := d3 W hT
        have x4 := d4 W hT
        have x5 := d5 W hT
        dsimp only [lay, List.foldl, List.map, dstOf]
        go_wp2
        exact ⟨rfl, _, rfl, Below.refl _ _, rfl⟩
      refine AllO.cons [] rfl rfl (fun vs l W hl hT hd => ?_) ?_
      · have m0 := m0 W hT
        have m1 := m1 W hT
        have m2 := m2 W hT
        have m3 := m3 W hT
        have m4 := m4 W hT
        have m5 := m5 W hT
        have m6 := m6 W hT
        have m7 := m7 W hT
        have m8 := m8 W hT
        dsimp only [lay, List.foldl, List.map, dstOf]
        go_wp2
        exact ⟨rfl, _, rfl, Below.refl _ _, rfl⟩
      refine AllO.cons [5, 6] rfl rfl (fun vs l W hl hT hd => ?_) ?_
      · have e5 : vs 5 = .agg #[.int .i64 b0, .int .i64 b1, .int .u32 b2, .int .u32 b3, .int .u32 b4] := hd 5 (by simp)
        have e6 : vs 6 = .agg #[.int .i64 k, .int .u32 f, .int .u32 t, .int .u32 s, .int .u32 g, .int .i64 r, .int .i64 c, .bool o, .slice A n cp] := hd 6 (by simp)
        dsimp only [lay, List.foldl, List.map, dstOf]
        rw [e5, e6]
        go_wp2
        exact ⟨rfl, _, rfl, Below.refl _ _, rfl⟩
      refine AllO.cons [7] rfl rfl (fun vs l W hl hT hd => ?_) AllO.nil
      · have e7 : vs 7 = .agg #[.int .i64 b0, .int .i64 b1, .int .u32 b2, .int .u32 b3, .int .u32 b4, .int .i64 0, .int .i64 k, .int .u32 f, .int .u32 t, .int .u32 s, .int .u32 g, .int .i64 r, .int .i64 c, .bool o, .slice A n cp] := hd 7 (by simp)
        have hC := Lib.hid (copied_raw b0 b1 b2 b3 b4 0 k f t s g r c o A n cp _ W (HAR.out W hT) hn)
        dsimp only [lay, List.foldl, List.map, dstOf]
        rw [e7]
        go_wp2_with (go_at_call 25; refine hC.out.mono ?_; rintro e w3 ⟨A', c', rfl, har, hna, hb3⟩)
        exact ⟨rfl, _, rfl, hb3, A', c', rfl, har, hna.b.mono hT.size⟩
    · intro vs l W hall hT hF _ aE LE ha hL
      have e0 : vs 0 = .pointer (some ⟨N, 0, none⟩) := hF 0 (by simp)
      have e1 : vs 1 = .pointer (some ⟨N, 0, none⟩) := hF 1 (by simp)
      have e2 : vs 2 = .pointer (some ⟨N, 0, none⟩) := hF 2 (by simp)
      have e3 : vs 3 = .map (some b) := hF 3 (by simp)
      have e4 : vs 4 = .agg #[.int .i64 b0, .int .i64 b1, .int .u32 b2, .int .u32 b3, .int .u32 b4] := hF 4 (by simp)
      have e5 : vs 5 = .agg #[.int .i64 b0, .int .i64 b1, .int .u32 b2, .int .u32 b3, .int .u32 b4] := hF 5 (by simp)
      have e6 : vs 6 = .agg #[.int .i64 k, .int .u32 f, .int .u32 t, .int .u32 s, .int .u32 g, .int .i64 r, .int .i64 c, .bool o, .slice A n cp] := hF 6 (by simp)
      have e7 : vs 7 = .agg #[.int .i64 b0, .int .i64 b1, .int .u32 b2, .int .u32 b3, .int .u32 b4, .int .i64 0, .int .i64 k, .int .u32 f, .int .u32 t, .int .u32 s, .int .u32 g, .int .i64 r, .int .i64 c, .bool o, .slice A n cp] := hF 7 (by simp)
      obtain ⟨A', c', e8, har, hnb⟩ := hF 8 (by simp)
      have hL' : LE = #[true, true, true, true, true, true, true, true, true, false] := hL.trans (by kernel_rfl)
      dsimp only [lay, List.foldl, dstOf] at ha
      rw [e0, e1, e2, e3, e4, e5, e6, e7, e8] at ha
      clear e0 e1 e2 e3 e4 e5 e6 e7 e8 hL hF
      subst ha hL'
      have hrn := HRUN.out W A' c' hT har
      have HHP := Lib.hid (HEN.out W A' c' hT har hnb)
      refine wpAnyH_ready (rs := [9]) (by kernel_rfl) (by simp) ?_
      refine AllReadyH.cons rfl (fun K hK => ?_) AllReadyH.nil
      go_simp
      refine hK.out _ _ trivial (fun _ => ?_)
      clear hK
      clear K
      refine wpAnyH_done (by kernel_rfl) ?_ _
      generalize stW W b [] 0 ⟨⟨(b0, b1, b2, b3, b4), 0, ⟨k, f, t, s, g, r, c, o, _⟩⟩, A', n, c'⟩ = W9 at *
      clear hrn har hnb hT
      go_wp2
      go_ret
      exact ⟨rfl, HHP.out⟩
theorem hear_any (w : World) (N : Nat) (mb : Option Nat) (T : Row) (x : Th) (m : Ms) (A : Option Addr) (n cp : Nat) (h : TB w N mb T) (hx : wfT x) (hroom : T.length < 65536) (ha : AR w A n m.l) (hn : n ≤ 1000000) :
    Calls Try.prog 10 #[.pointer (some ⟨N, 0, none⟩), tv x, mv m A n cp] w fun e w' => e = .returned (.bool true) ∧ HearPost w N mb T ⟨x, 0, m⟩ n w' := by
  rcases h.map with ⟨rfl, rfl⟩ | ⟨b, clock, rfl, hm⟩
  · exact hear_none _ _ _ _ _ _ _ _ _ _ _ _ _ _ _ _ _ N w h.box hx ha hn
  · exact hear_some _ _ _ _ _ _ _ _ _ _ _ _ _ _ _ _ _ _ _ N b clock T w h.box hm hx rfl rfl hroom ha hn
end Go.Proofs.Ytnnppoamdllebaa

