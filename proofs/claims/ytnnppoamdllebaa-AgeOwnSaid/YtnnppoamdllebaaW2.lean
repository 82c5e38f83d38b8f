/- Contracts of wire.Same and of the document's like, over the seat's program. -/
import Derived.Test.YtnnppoamdllebaaW1
import Derived.Laws.StructEq
namespace Go.Proofs.Ytnnppoamdllebaa
open Go.RowKit Sm
theorem eql_key (s1 g1 s2 g2 : Int) (w : World) : (binOp .eql 26 (.agg #[.int .u32 s1, .int .u32 g1]) (.agg #[.int .u32 s2, .int .u32 g2])).run Try.prog w = .ok (.bool (s1 == s2 && g1 == g2)) w := by
  have u3 := Try.underlying24
  have hS : Try.prog.underlying 26 = some (.struct (Try.prog.fieldsOf 26)) := by kernel_rfl
  have hp : Try.prog.stoodInHeld 26 = false := by kernel_rfl
  rw [run_eql_struct, show (10000 : Nat) = 9999 + 1 from rfl, run_equalIn_agg w 9999 26 _ _ hS hp]
  simp only [Program.fieldsOf, Try.underlying26]
  go_simp
  by_cases h1 : s1 = s2 <;> by_cases h2 : g1 = g2 <;> simp [h1, h2]
theorem sameB_and (m n : Ms) : sameB m n = ((m.k == n.k) && ((m.f == n.f) && ((m.t == n.t) && ((m.s == n.s && m.g == n.g) && ((m.r == n.r) && ((m.c == n.c) && ((m.o == n.o) && decide (m.l = n.l)))))))) := by
  unfold sameB; rw [Bool.eq_iff_iff]; simp
theorem two_boxes (w : World) (o p : Obj) : Below w.heap.size w ((w.alloc o).alloc p) := ((Below.refl _ _).alloc (Nat.le_refl _) _).alloc (by simp) _
set_option maxHeartbeats 2000000 in
theorem rsame_any (m n : Ms) (A B : Option Addr) (a c b d : Nat) (w : World) (hA : AR w A a m.l) (hB : AR w B b n.l) (ha : a ≤ 1048576) (hb : b ≤ 1048576) :
    Calls Try.prog 23 #[mv m A a c, mv n B b d] w fun e w' => e = .returned (.bool (sameB m n)) ∧ Below w.heap.size w w' := by
  rw [sameB_and]
  have HE := Lib.hid (fun W (hW : Below w.heap.size w W) => saddrs_any A B a b c d m.l n.l W (hA.next hW) (hB.next hW) ha hb)
  have HB := Lib.hid (two_boxes w (.cells #[.int .i64 m.k, .int .u32 m.f, .int .u32 m.t, .int .u32 m.s, .int .u32 m.g, .int .i64 m.r, .int .i64 m.c, .bool m.o, .slice A a c] 40) (.cells #[.int .i64 n.k, .int .u32 n.f, .int .u32 n.t, .int .u32 n.s, .int .u32 n.g, .int .i64 n.r, .int .i64 n.c, .bool n.o, .slice B b d] 40))
  have HK1 := Lib.hid ((Blk.new w 40 #[.int .i64 m.k, .int .u32 m.f, .int .u32 m.t, .int .u32 m.s, .int .u32 m.g, .int .i64 m.r, .int .i64 m.c, .bool m.o, .slice A a c]).alloc (.cells #[.int .i64 n.k, .int .u32 n.f, .int .u32 n.t, .int .u32 n.s, .int .u32 n.g, .int .i64 n.r, .int .i64 n.c, .bool n.o, .slice B b d] 40))
  have HK2 := Lib.hid (Blk.new (w.alloc (.cells #[.int .i64 m.k, .int .u32 m.f, .int .u32 m.t, .int .u32 m.s, .int .u32 m.g, .int .i64 m.r, .int .i64 m.c, .bool m.o, .slice A a c] 40)) 40 #[.int .i64 n.k, .int .u32 n.f, .int .u32 n.t, .int .u32 n.s, .int .u32 n.g, .int .i64 n.r, .int .i64 n.c, .bool n.o, .slice B b d])
  have e9 : (w.alloc (.cells #[.int .i64 m.k, .int .u32 m.f, .int .u32 m.t, .int .u32 m.s, .int .u32 m.g, .int .i64 m.r, .int .i64 m.c, .bool m.o, .slice A a c] 40)).heap.size = w.heap.size + 1 := by simp
  rw [e9] at HK2
  clear hA hB ha hb e9
  unfold mv
  generalize m.l = xs at *
  generalize n.l = ys at *
  generalize m.k = k1 at *
  generalize n.k = k2 at *
  generalize m.f = f1 at *
  generalize n.f = f2 at *
  generalize m.t = t1 at *
  generalize n.t = t2 at *
  generalize m.s = s1 at *
  generalize n.s = s2 at *
  generalize m.g = g1 at *
  generalize n.g = g2 at *
  generalize m.r = r1 at *
  generalize n.r = r2 at *
  generalize m.c = c1 at *
  generalize n.c = c2 at *
  generalize m.o = o1 at *
  generalize n.o = o2 at *
  obtain ⟨b1, e1⟩ : ∃ r, (k1 == k2) = r := ⟨_, rfl⟩
  obtain ⟨b2, e2⟩ : ∃ r, (f1 == f2) = r := ⟨_, rfl⟩
  obtain ⟨b3, e3⟩ : ∃ r, (t1 == t2) = r := ⟨_, rfl⟩
  obtain ⟨b4, e4⟩ : ∃ r, (s1 == s2 && g1 == g2) = r := ⟨_, rfl⟩
  obtain ⟨b5, e5⟩ : ∃ r, (r1 == r2) = r := ⟨_, rfl⟩
  obtain ⟨b6, e6⟩ : ∃ r, (c1 == c2) = r := ⟨_, rfl⟩
  obtain ⟨b7, e7⟩ : ∃ r, (o1 == o2) = r := ⟨_, rfl⟩
  obtain ⟨b8', e8⟩ : ∃ r, decide (xs = ys) = r := ⟨_, rfl⟩
  rw [e1, e2, e3, e4, e5, e6, e7, e8]
  have E8 := Lib.hid e8
  clear e8
  have HK := Lib.hid (fun W => (key_any s1 g1 s2 g2 W))
  have e4' : decide (s1 = s2 ∧ g1 = g2) = b4 := by rw [← e4, Bool.eq_iff_iff]; simp
  rw [e4'] at HK
  clear e4'
  clear e4
  go_enter Try.func23, Try.ntmps23
  go_wp2_with (first
    | (go_at_call 24; refine (HK.out _).mono ?_; rintro e w1 ⟨rfl, hb⟩
       have k1 := HK1.out.next hb
       have k2 := HK2.out.next hb
       have x5 : w1.cell? ⟨w.heap.size, 5, none⟩ = _ := k1.cell 5
       have x6 : w1.cell? ⟨w.heap.size, 6, none⟩ = _ := k1.cell 6
       have x7 : w1.cell? ⟨w.heap.size, 7, none⟩ = _ := k1.cell 7
       have x8 : w1.cell? ⟨w.heap.size, 8, none⟩ = _ := k1.cell 8
       have y5 : w1.cell? ⟨w.heap.size + 1, 5, none⟩ = _ := k2.cell 5
       have y6 : w1.cell? ⟨w.heap.size + 1, 6, none⟩ = _ := k2.cell 6
       have y7 : w1.cell? ⟨w.heap.size + 1, 7, none⟩ = _ := k2.cell 7
       have y8 : w1.cell? ⟨w.heap.size + 1, 8, none⟩ = _ := k2.cell 8
       have HB1 := Lib.hid (below_next HB.out hb)
       clear hb k1 k2)
    | (go_at_call 30; refine (HE.out _ HB1.out).mono ?_; rintro e w2 ⟨rfl, hb⟩))
  all_goals
    go_ret
    first
    | exact ⟨ret_bool (by simp [*]), HB.out⟩
    | exact ⟨ret_bool (by simp [*]), HB1.out⟩
    | exact ⟨ret_bool (by rw [E8.out]; simp [*]), below_next HB1.out hb⟩
end Go.Proofs.Ytnnppoamdllebaa

