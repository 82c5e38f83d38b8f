/- Small words of memory that the texts of more than one stage use. No program is imported. -/
import Derived.Test.YtnnppoamdllebaaAs
import Derived.Test.YtnnppoamdllebaaVar
import Derived.IntWalk
import Derived.Laws.AppendOwn
namespace Go.Proofs.Ytnnppoamdllebaa
open Go.RowKit Sm
theorem own_drew {w : World} {base : Nat} {e : TypeId} {v : Value} {n : Nat} {ys : List Value} (h : w.ownsRow base e 1 v n ys) : w.drew.ownsRow base e 1 v n ys := h
theorem i64_or_nat (a b : Nat) (ha : a < 9223372036854775808) (hb : b < 9223372036854775808) : bits .or .i64 (a : Int) (b : Int) = ((a ||| b : Nat) : Int) := by
  have hx : a ||| b < 2 ^ 63 := Nat.or_lt_two_pow (by omega) (by omega)
  show IntKind.i64.wrap ((BitVec.ofInt 64 (a : Int) ||| BitVec.ofInt 64 (b : Int)).toNat : Int) = _
  rw [BitVec.toNat_or, ofInt_u64 a (by omega), ofInt_u64 b (by omega)]
  exact IntWalk.i64_in _ (by omega)
theorem or_i64 (a b : Int) (ha0 : 0 ≤ a) (ha : a ≤ 255) (hb0 : 0 ≤ b) (hb : b ≤ 255) : bits .or .i64 (a * 256) b = a * 256 + b := by
  obtain ⟨n, rfl⟩ := Int.eq_ofNat_of_zero_le ha0
  obtain ⟨m, rfl⟩ := Int.eq_ofNat_of_zero_le hb0
  have h := i64_or_nat (2 ^ 8 * n) m (by omega) (by omega)
  rw [← Nat.two_pow_add_eq_or_of_lt (by omega)] at h
  have e : ((2 ^ 8 * n : Nat) : Int) = (n : Int) * 256 := by omega
  rw [e] at h
  exact h.trans (by omega)
theorem keepc {w w' : World} {p : Addr} {v : Value} (h : w.cell? p = some v) (hb : Below w.heap.size w w') : w'.cell? p = some v := (hb.cell (World.block_lt_of_cell? w _ h)).trans h
theorem BR.cut {w : World} {b o : Nat} {n : Nat} {xs : List Int} (h : BR w (some ⟨b, o, none⟩) n xs) (k : Nat) (hk : k ≤ n) : BR w (some ⟨b, o + k, none⟩) (n - k) (xs.drop k) :=
  ⟨by have := h.len; simp; omega, h.isB.drop k, fun h0 => by
    obtain ⟨b', o', e, hlt, hc⟩ := h.2.2 (by omega)
    cases e
    refine ⟨b, o + k, rfl, hlt, fun i hi => ?_⟩
    rw [Nat.add_assoc, hc (k + i) (by omega)]
    simp [List.getD]⟩
theorem ra_drop (xs : List Int) (k : Nat) : ra (xs.drop k) 0 = ra xs k := by
  unfold ra
  simp [List.getD]
theorem BR.upto {w : World} {A : Option Addr} {n : Nat} {xs : List Int} (h : BR w A n xs) {m : Nat} (hm : m ≤ n) : BR w A m (xs.take m) :=
  ⟨by have := h.len; simp; omega, h.isB.take m, fun h0 => by
    obtain ⟨b, o, e, hlt, hc⟩ := h.2.2 (by omega)
    exact ⟨b, o, e, hlt, fun i hi => by rw [hc i (by omega)]; simp [List.getD, hi]⟩⟩
theorem own_base {w : World} {base : Nat} {e : TypeId} {g n c : Nat} {ys : List Value} (h : w.ownsRow base e 1 (.slice (some ⟨g, 0, none⟩) n c) n ys) : base ≤ g := by
  exact (h.lt g rfl).1
theorem BR_lit {w : World} {t : TypeId} (xs : List Int) (hb : IsB xs) (cs : Array Value) (hcs : cs.toList = B8 xs) (H n : Nat) (hH : H = w.heap.size) (hn : xs.length = n) : BR (w.alloc (.cells cs t)) (some ⟨H, 0, none⟩) n xs := by
  subst hH
  refine ⟨hn, hb, fun h0 => ⟨w.heap.size, 0, rfl, by simp, fun i hi => ?_⟩⟩
  rw [Nat.zero_add, (Blk.new w t cs).cell i, ← Array.getElem?_toList, hcs, B8_at (by omega)]
theorem own_br {w : World} {base : Nat} {e : TypeId} {A : Option Addr} {n c : Nat} {xs : List Int} (h : w.ownsRow base e 1 (.slice A n c) n (B8 xs)) (hb : IsB xs) : BR w A n xs ∧ n ≤ c := by
  obtain ⟨_, _, he, hnc, hr, _⟩ := own_form h hb
  simp only [Value.slice.injEq, true_and] at he
  obtain ⟨rfl, rfl⟩ := he
  exact ⟨hr, hnc⟩
theorem own_ptr {w : World} {base : Nat} {e : TypeId} {A : Option Addr} {n c : Nat} {xs : List Int} (h : w.ownsRow base e 1 (.slice A n c) n (B8 xs)) (hb : IsB xs) (hn : 0 < n) : ∃ g, A = some ⟨g, 0, none⟩ ∧ base ≤ g := by
  obtain ⟨_, _, he, _, _, hf⟩ := own_form h hb
  simp only [Value.slice.injEq, true_and] at he
  obtain ⟨rfl, rfl⟩ := he
  obtain ⟨g, e, hb, _⟩ := hf hn
  exact ⟨g, e, hb⟩
theorem own_from {B : Nat} {w w1 w2 : World} {e : TypeId} {v : Value} {n : Nat} {ys : List Value} (h : Below B w w1) (hw : B = w.heap.size) (ho : w2.ownsRow w1.heap.size e 1 v n ys) : w2.ownsRow B e 1 v n ys := own_up ho (by rw [hw]; exact h.size)
theorem isB4 {v : Int} (h : isA v) : IsB [v / 16777216, v / 65536 % 256, v / 256 % 256, v % 256] := by
  obtain ⟨h0, h1⟩ := h
  intro x hx; simp only [List.mem_cons, List.not_mem_nil, or_false] at hx; omega
theorem isB2 {a b : Int} (ha : 0 ≤ a ∧ a ≤ 255) (hb : 0 ≤ b ∧ b ≤ 255) : IsB [a, b] := by intro x hx; simp at hx; omega
theorem below_al {w w' : World} (h : Below w.heap.size w w') (o : Obj) : Below w.heap.size w (w'.alloc o) := h.alloc h.size o
theorem own_slice {w : World} {base : Nat} {e : TypeId} {v : Value} {n : Nat} {ys : List Value} (h : w.ownsRow base e 1 v n ys) (hn : 0 < n) : ∃ A c, v = .slice A n c := by
  rcases h.2 with ⟨_, h0⟩ | ⟨g, cap, cur, rfl, _⟩
  · omega
  · exact ⟨_, _, rfl⟩
theorem sum_zero {xs : List Int} : (sum xs != 0) = !decide (oc (tot xs) = 65535) := by
  unfold sum; rw [Bool.eq_iff_iff]; simp; omega
theorem AR_lit {w : World} {t : TypeId} (xs : List Int) (hb : IsAs xs) (cs : Array Value) (hcs : cs.toList = A32 xs) (H n : Nat) (hH : H = w.heap.size) (hn : xs.length = n) : AR (w.alloc (.cells cs t)) (some ⟨H, 0, none⟩) n xs := by
  subst hH
  refine ⟨hn, hb, fun h0 => ⟨w.heap.size, 0, rfl, by simp, fun i hi => ?_⟩⟩
  rw [Nat.zero_add, (Blk.new w t cs).cell i, ← Array.getElem?_toList, hcs, A32_at (by omega)]
theorem own_ar {w : World} {base : Nat} {e : TypeId} {A : Option Addr} {n c : Nat} {xs : List Int} (h : w.ownsRow base e 1 (.slice A n c) n (A32 xs)) (hb : IsAs xs) : AR w A n xs ∧ n ≤ c := by
  obtain ⟨_, _, he, hnc, hr, _⟩ := own_forma h hb
  simp only [Value.slice.injEq, true_and] at he
  obtain ⟨rfl, rfl⟩ := he
  exact ⟨hr, hnc⟩
theorem own_slicea {w : World} {base : Nat} {e : TypeId} {v : Value} {n : Nat} {ys : List Value} (h : w.ownsRow base e 1 v n ys) : ∃ A c, v = .slice A n c := by
  rcases h.2 with ⟨rfl, rfl⟩ | ⟨g, c, cur, rfl, _⟩
  · exact ⟨_, _, rfl⟩
  · exact ⟨_, _, rfl⟩
/-- append as a step of a region that draws -/
theorem step_app {P : Program} (w : World) {ops : Array Oper} {o : Oper} {a : Act} {K : Act → World → Prop} {Q : Exit → Act → World → Prop} {E : Prop} (hgd : o.guard = none) (s x : Operand) (t : TypeId)
    (ho : o.op = .call { callee := .builtin .append, args := #[s, x], argTypes := #[t, t] })
    (base : Nat) (e : TypeId) (i : TypeInfo) (z : Value) (size bytes : Nat) (ht : P.underlying t = some (.slice e)) (hi : P.info? e = some i) (hz : i.zero = some z)
    (hsize : i.size = size) (hby : i.bytes = bytes) (hzs : z.cells.size = size) (hsz : 0 < size)
    (v : Value) (n : Nat) (xs : List Value) (hs : a.eval s = v) (hown : w.ownsRow base e size v n xs)
    (ad : Addr) (m c : Nat) (news : List Value) (hx : a.eval x = .slice (some ad) m c) (hl : news.length = m * size) (hnews : ∀ j u, news[j]? = some u → w.cell? (ad.add j) = some u) (h1 : ∀ u ∈ news, u.oneCell' = true)
    (h63 : n + m ≤ maxLen) (hbytes : (n + m) * bytes ≤ 140737488355328) (hbase : base ≤ w.heap.size)
    (h : ∀ v' w', w'.ownsRow base e size v' (n + m) (xs ++ news) → w.grownBy w' v.ownBlock → K (a.put o.dst v') w') :
    if Region.wanted o (yielded ops a.tmps) = true then Oper.wp P o a w K Q else E := by
  rw [if_pos (by simp [Region.wanted, hgd])]
  obtain ⟨v', w', hr, h2, h3, _, _⟩ := run_append_own_at (P := P) w base t o.type e i z size bytes ht hi hz hsize hby hzs hsz v n xs hown ad m c news hl hnews h1 h63 hbytes hbase
  have hk := h v' w' h2 h3
  simp only [Oper.wp, execOp, ho, resolve, invoke, builtin, Sem.run_bind, Sem.run_pure, Result.andThen_ok, List.map_toArray, List.map_cons, List.map_nil, hs, hx, hr]
  exact hk
/-- a message as a value: its Sources' slice beside it -/
def mv (m : Ms) (A : Option Addr) (n c : Nat) : Value := .agg #[.int .i64 m.k, .int .u32 m.f, .int .u32 m.t, .int .u32 m.s, .int .u32 m.g, .int .i64 m.r, .int .i64 m.c, .bool m.o, .slice A n c]
end Go.Proofs.Ytnnppoamdllebaa

