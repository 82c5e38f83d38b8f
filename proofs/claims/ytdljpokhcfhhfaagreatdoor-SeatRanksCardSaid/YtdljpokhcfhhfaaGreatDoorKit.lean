/- Words for memory: a block that is known whole; what a region holds on to; the last step of a law whose world is only known below. No program is imported. Sentinel errors in a list of laid variables: each variable holds a pointer of its own. No program is imported. Small words: an address as a number; a row of the call's own goes on; keys of a map by addresses. No program is imported. A region that draws its order, that only reads, and whose callees may lay new blocks: walked once, in the order of the text. No program is imported. A variable of some cells that may be written whatever it holds: for regions that load, call and store in a drawn order. No program is imported. The keys of a map, met one by one: whatever reads as a key; what has been met when all is over. No program is imported. Rows of items, each of k cells, as they lie in memory; as an argument, opened. No program is imported. -/
import Derived.WalkKit
import Derived.Below
import Derived.Laws.OwnMore
import Derived.Laws.Rows
import Derived.Deep.Draws
import Derived.ChangeSame
import Derived.ChangeAlike
import Derived.Lib.Hide
import Derived.Sort.Grow
import Derived.Handed
import Derived.SizedLaws
import Derived.LaidLaws
import Derived.Stop.LaidErr
import Derived.Maps.OwnSet
import Derived.Maps.Keyed
import Derived.Maps.Views
import Derived.Carry
import Derived.Handy
import Derived.BigQuiet
import Derived.Deep.QuietTactic
import Derived.Sort.MapsRangeIn
import Derived.Sort.KeysCollected
import Derived.ProofKit
import Derived.OpenShut
import Derived.Deep.Slices
namespace Go.Proofs.YtdljpokhcfhhfaaGreatDoor
open Go.RowKit Go.WideShapes Go.ChangeShapes
theorem ret_int {k : IntKind} {a b : Int} (h : a = b) : Ending.returned (.int k a) = .returned (.int k b) := by rw [h]
theorem ret_bool {a b : Bool} (h : a = b) : Ending.returned (.bool a) = .returned (.bool b) := by rw [h]
theorem ret_str {a b : ByteArray} (h : a = b) : Ending.returned (.string a) = .returned (.string b) := by rw [h]
theorem wf_u32 {a : Int} (h : (Lit.int .u32 a).wf = true) : 0 ≤ a ∧ a ≤ 4294967295 := by
  simpa [Lit.wf, IntKind.min, IntKind.max, IntKind.signed, IntKind.bits] using h
theorem wf_u8 {a : Int} (h : (Lit.int .u8 a).wf = true) : 0 ≤ a ∧ a ≤ 255 := by
  simpa [Lit.wf, IntKind.min, IntKind.max, IntKind.signed, IntKind.bits] using h
theorem wf_i64 {a : Int} (h : (Lit.int .i64 a).wf = true) : -9223372036854775808 ≤ a ∧ a ≤ 9223372036854775807 := by
  simpa [Lit.wf, IntKind.min, IntKind.max, IntKind.signed, IntKind.bits] using h
theorem below_drewN {B : Nat} {a w : World} (h : Below B a w) (n : Nat) : Below B a (w.drewN n) := ⟨h.os, h.tape, h.output, h.size, h.block⟩
theorem below_grow (w : World) (k : Nat) (os : Array Obj) : Below w.heap.size w (Sort.grow (w.drewN k) os) :=
  ⟨rfl, rfl, rfl, by simp [Sort.grow, World.drewN], fun i hi => by simp [Sort.grow, World.drewN, Array.getElem?_append_left hi]⟩
def Blk (w : World) (g : Nat) (t : TypeId) (cs : Array Value) : Prop := w.heap[g]? = some (.cells cs t (0, 0))
section
variable {w w' : World} {g : Nat} {t : TypeId} {cs : Array Value}
theorem Blk.lt (h : Blk w g t cs) : g < w.heap.size := by
  rcases Nat.lt_or_ge g w.heap.size with hlt | hge
  · exact hlt
  · unfold Blk at h; rw [Array.getElem?_eq_none hge] at h; cases h
theorem Blk.cell (h : Blk w g t cs) (i : Nat) : w.cell? ⟨g, i, none⟩ = cs[i]? := cell_of_row w g i cs t (0, 0) h
theorem Blk.frozen (h : Blk w g t cs) (i : Nat) : w.frozen? ⟨g, i, none⟩ = false := by
  unfold Blk at h
  simp [World.frozen?, h]
theorem Blk.new (w : World) (t : TypeId) (cs : Array Value) : Blk (w.alloc (.cells cs t)) w.heap.size t cs := heap_alloc_new w _
theorem Blk.drew (h : Blk w g t cs) : Blk w.drew g t cs := h
theorem Blk.drewN (h : Blk w g t cs) (n : Nat) : Blk (w.drewN n) g t cs := h
theorem Blk.alloc (h : Blk w g t cs) (o : Obj) : Blk (w.alloc o) g t cs := (Below.heap_alloc w o g h.lt).trans h
theorem Blk.set_ (h : Blk w g t cs) (i : Nat) (u : Value) : Blk (w.setCell ⟨g, i, none⟩ u) g t (cs.setIfInBounds i u) := by
  unfold Blk at h ⊢
  simp [World.setCell, Array.getElem?_modify, h]
theorem Blk.set_to {cs' : Array Value} (h : Blk w g t cs) (i : Nat) (u : Value) (he : cs.setIfInBounds i u = cs') : Blk (w.setCell ⟨g, i, none⟩ u) g t cs' := he ▸ h.set_ i u
theorem Blk.far (h : Blk w g t cs) {p : Addr} (hp : g ≠ p.block) (u : Value) : Blk (w.setCell p u) g t cs := (Below.heap_setCell w p u g hp).trans h
theorem Blk.below {B : Nat} (h : Blk w g t cs) (hb : Below B w w') (hg : g < B) : Blk w' g t cs := (hb.block g hg).trans h
theorem Blk.next (h : Blk w g t cs) (hb : Below w.heap.size w w') : Blk w' g t cs := h.below hb h.lt
end
/-- What a region holds on to while its calls make memory: two cells of an elder block, and all that lay below it. -/
theorem two_new {w : World} (N : Nat) (u v : Value) (t : TypeId) (hN : N = w.heap.size) : ((w.alloc (.cells #[u, v] t)).drew.cell? ⟨N, 0, none⟩ = some u) ∧ ((w.alloc (.cells #[u, v] t)).drew.cell? ⟨N, 1, none⟩ = some v) ∧
    N < (w.alloc (.cells #[u, v] t)).drew.heap.size ∧ Below N w (w.alloc (.cells #[u, v] t)).drew := by
  subst hN
  refine ⟨by go_simp, by go_simp, by simp, ((Below.refl _ _).alloc (Nat.le_refl _) _).drew⟩
theorem two_next {N : Nat} {w W w1 : World} {x y : Option Value} (h : W.cell? ⟨N, 0, none⟩ = x ∧ W.cell? ⟨N, 1, none⟩ = y ∧ N < W.heap.size ∧ Below N w W) (hb : Below W.heap.size W w1) :
    w1.cell? ⟨N, 0, none⟩ = x ∧ w1.cell? ⟨N, 1, none⟩ = y ∧ N < w1.heap.size ∧ Below N w w1 :=
  ⟨(hb.cell (p := ⟨N, 0, none⟩) h.2.2.1).trans h.1, (hb.cell (p := ⟨N, 1, none⟩) h.2.2.1).trans h.2.1, Nat.lt_of_lt_of_le h.2.2.1 hb.size, h.2.2.2.trans (hb.mono (Nat.le_of_lt h.2.2.1))⟩
/-- Four cells in two elder blocks. -/
theorem four_new {w : World} (M N : Nat) (u v x y : Value) (t : TypeId) (hM : M = w.heap.size) (hN : N = w.heap.size + 1) :
    (((w.alloc (.cells #[u, v] t)).alloc (.cells #[x, y] t)).cell? ⟨M, 0, none⟩ = some u) ∧ (((w.alloc (.cells #[u, v] t)).alloc (.cells #[x, y] t)).cell? ⟨M, 1, none⟩ = some v) ∧
    (((w.alloc (.cells #[u, v] t)).alloc (.cells #[x, y] t)).cell? ⟨N, 0, none⟩ = some x) ∧ (((w.alloc (.cells #[u, v] t)).alloc (.cells #[x, y] t)).cell? ⟨N, 1, none⟩ = some y) ∧
    N < ((w.alloc (.cells #[u, v] t)).alloc (.cells #[x, y] t)).heap.size ∧ M < N ∧ Below M w ((w.alloc (.cells #[u, v] t)).alloc (.cells #[x, y] t)) := by
  subst hM hN
  refine ⟨by go_simp, by go_simp, by go_simp, by go_simp, by simp, by omega, ((Below.refl _ _).alloc (Nat.le_refl _) _).alloc (by simp) _⟩
theorem four_next {M N : Nat} {w W w1 : World} {u v x y : Option Value} (h : W.cell? ⟨M, 0, none⟩ = u ∧ W.cell? ⟨M, 1, none⟩ = v ∧ W.cell? ⟨N, 0, none⟩ = x ∧ W.cell? ⟨N, 1, none⟩ = y ∧ N < W.heap.size ∧ M < N ∧ Below M w W) (hb : Below W.heap.size W w1) :
    w1.cell? ⟨M, 0, none⟩ = u ∧ w1.cell? ⟨M, 1, none⟩ = v ∧ w1.cell? ⟨N, 0, none⟩ = x ∧ w1.cell? ⟨N, 1, none⟩ = y ∧ N < w1.heap.size ∧ M < N ∧ Below M w w1 := by
  obtain ⟨h1, h2, h3, h4, h5, h6, h7⟩ := h
  exact ⟨(hb.cell (p := ⟨M, 0, none⟩) (Nat.lt_trans h6 h5)).trans h1, (hb.cell (p := ⟨M, 1, none⟩) (Nat.lt_trans h6 h5)).trans h2, (hb.cell (p := ⟨N, 0, none⟩) h5).trans h3, (hb.cell (p := ⟨N, 1, none⟩) h5).trans h4, Nat.lt_of_lt_of_le h5 hb.size, h6, h7.trans (hb.mono (by omega))⟩
/- The last step of a row where of the world behind the call only Below is known. -/
section
variable {H : Type} {enc : TypeId × Value → H} {P : Program}
theorem post_of_below {f : Func} {s : ChangeSpec} {apart fresh handsOn again : Bool} {W W' : World} {args : Array Value} {v : Value} {ds gs : List (DataW H)} {before pa pv : List MemPlace}
    (hW : DataW.Whole enc P f.params.toList s.vars apart W args.toList ds gs before)
    (hres : ∀ (b : Nat) (sp : Nat → Bool) (hd : Bool), DataW.TrodAll enc P W' b sp hd f.resultTypes.toList (v.resultList f.resultTypes.size) (s.fn H (ds ++ gs)).results [])
    (hargs : ∀ sp : Nat → Bool, (∀ p ∈ before, sp p.block = true) → DataW.TrodAll enc P W' 0 sp true f.params.toList args.toList (s.fn H (ds ++ gs)).args pa)
    (hvars : ∀ sp : Nat → Bool, (∀ p ∈ before, sp p.block = true) → DataW.TrodVars enc P W' sp s.vars (s.fn H (ds ++ gs)).vars pv)
    (hps : before = pa ++ pv) (hb : Below W.heap.size W W')
    (hok : ∀ (j : Nat) (t : TypeId) (r : Value), f.resultTypes[j]? = some t → (v.resultList f.resultTypes.size)[j]? = some r → Value.okWide P W' .any 0 t r) :
    s.post enc P f apart fresh handsOn again W args v W' := by
  have hlt : ∀ p ∈ before, p.block < W.heap.size := fun p hp => hW.lt p hp
  have hold : ∀ p ∈ before, (fun b => decide (b < W.heap.size)) p.block = true := fun p hp => by simpa using hlt p hp
  refine ⟨ds, gs, before, [], pa, pv, hW, hres _ _ _, hargs _ hold, hvars _ hold, World.keptBut_mono (fun p hp => ⟨hp, ?_⟩) (hb.frame (· ∈ before)), fun _ => ?_⟩
  · rw [hps, List.mem_append] at hp
    exact Or.inr hp
  · obtain ⟨_, _, _, _, _, hz, hn⟩ := hW
    refine ⟨hok, _, _, ([] ++ pa) ++ pv, ⟨[] ++ pa, pv, trodAll_append (hargs _ (fun _ _ => rfl)) (hres _ _ _), hvars _ (fun _ _ => rfl), rfl, ?_, ?_⟩, ?_⟩
    · intro b off hp
      have hin : MemPlace.cell b off ∈ before := by rw [hps]; simpa using hp
      rw [hb.frozen (hlt _ hin)]
      exact hz b off hin
    · intro ha
      have := hn ha
      rw [hps] at this
      simpa using this
    · intro p hp _
      rw [hps]
      simpa using hp
end
/- The wrap of a law's contract: it is handed the listed variables and the world's shape. -/
theorem rih_and_shaped {H : Type} {enc : TypeId × Value → H} {a : Assume} {C : Checked} {os : Os} {f : FuncId} {fn : Func} {s : ChangeSpec} {conds : List PathCond} {apart fresh handsOn again : Bool} {X : World → Array Value → Prop}
    (hX : ∀ (w w' : World) (args : Array Value), w.heap = w'.heap → X w args → X w' args)
    (own : ownKnob C.prog.godebug = none) (started : os.Started) (noInit : C.prog.inits.idxOf? f = none) (hfn : C.prog.funcs[f]? = some fn)
    (witness : ∃ (w : World) (tape : Tape) (i : Input), w.os = os ∧ (w.forCall tape i).Shaped C.prog ∧ i.vars = [] ∧ Input.okWide C.prog (w.forCall tape i) .any w.heap.size f i ∧
      ((s.pre enc C.prog fn conds apart (w.forCall tape i).memory i.args ∧ X (w.forCall tape i).memory i.args) ∧ sizedMet enc C.prog fn (OpenSpec.ofChange s) apart (w.forCall tape i).memory i.args) ∧ a.holds C.prog (lone (Frame.enter C.prog f i.args .normal) [] (w.forCall tape i)))
    (contract : ∀ (W : World) (base : Nat) (args : Array Value) (ds gs : List (DataW H)) (before : List MemPlace),
      (∀ (j : Nat) t v, fn.params[j]? = some t → args[j]? = some v → Value.okWide C.prog W .any base t v) →
      DataW.Whole enc C.prog fn.params.toList s.vars apart W args.toList ds gs before →
      conds.all (PathCond.test C.prog ⟨fn.params.toList, ds, s.plain.varTypes C.prog, gs⟩) = true →
      (DataW.weightsEach C.prog (fn.params.toList ++ s.plain.varTypes C.prog) (ds ++ gs)).all (· ≤ reachBytes) = true → X W args →
      W.ShapedOpen C.prog →
      Calls C.prog f args W fun e W' => ∃ v, e = .returned v ∧ s.post enc C.prog fn apart fresh handsOn again W args v W') :
    ReturnsInHanded a C os f .any (fun w args => (s.pre enc C.prog fn conds apart w args ∧ X w args) ∧ sizedMet enc C.prog fn (OpenSpec.ofChange s) apart w args) (s.post enc C.prog fn apart fresh handsOn again) := by
  refine returnsInHanded_of_calls own started noInit witness ?_
  intro w tape i _ hsh _ hok hpre _
  obtain ⟨_, _, _, fn', hfn', _, _, _, _, hval⟩ := hok
  have e : fn' = fn := Option.some.inj (hfn'.symm.trans hfn)
  subst e
  obtain ⟨⟨⟨ds, gs, before, hw, hc⟩, hx⟩, hz⟩ := hpre
  have hw' := DataW.Whole.of_heap (w' := w.forCall tape i) (by rfl) hw
  refine (contract (w.forCall tape i) w.heap.size i.args ds gs before hval hw' hc (hz.weights hw) (hX _ _ _ (by rfl) hx) hsh).mono fun e W' ⟨v, he, hp⟩ => ?_
  subst he
  exact ChangeSpec.post_blind hp
end Go.Proofs.YtdljpokhcfhhfaaGreatDoor
namespace Go.Proofs.YtdljpokhcfhhfaaGreatDoor
open Go.RowKit
/-- how a sentinel error reads -/
def errD (text : List UInt8) : DataW Unit := .iface "*errors.errorString" (.ptr (.agg [.lit (.string text)]))
theorem sents {P : Program} {W : World} {ti tp te ts : TypeId} {ms : Array (String × TypeId)} {f : Field}
    (hi : P.underlying ti = some (.interface ms)) (hrow : ∀ u, P.typeName? 3 u = some "*errors.errorString" → u = tp)
    (hp : P.underlying tp = some (.pointer te)) (he : P.underlying te = some (.struct #[f])) (hft : f.type = ts) (hfo : f.offset = 0) (hs : P.underlying ts = some .string) (hc : P.cellsOf te = 1) (hcs : P.cellsOf ts = 1)
    (rest : List (String × DataW Unit)) : ∀ (l : List (String × List UInt8)) (ps : List MemPlace), DataW.LaidVars P W (l.map (fun x => (x.1, errD x.2)) ++ rest) ps → ps.Nodup →
      (∀ b off, MemPlace.cell b off ∈ ps → (∃ c t, W.heap[b]? = some (.cells c t (0, 0))) ∧ ∀ u v, W.cell? ⟨b, off, none⟩ = some (.iface u v) → Value.okWide P W .any 0 u v) →
      (∀ x ∈ l, ∃ g, P.globalNamed x.1 = some g ∧ (P.globals[g]?).map (·.type) = some ti) →
      ∃ ads : List Addr, ads.length = l.length ∧ ads.Nodup ∧ (∀ a ∈ ads, MemPlace.cell a.block a.off ∈ ps ∧ ∃ c t, W.heap[a.block]? = some (.cells c t (0, 0))) ∧
        ∀ (i : Nat) (n : String), (l.map (·.1))[i]? = some n → ∃ a, ads[i]? = some a ∧ W.var? P n = some #[.iface tp (.pointer (some a))]
  | [], ps, _, _, _, _ => ⟨[], rfl, List.nodup_nil, fun a h => absurd h (by simp), fun i n h => by simp at h⟩
  | (n0, t0) :: l, ps, h, hnd, hrows, hg => by
    obtain ⟨g, t, cs, fuel, p, q, hg', ht', hvar, hd, hq, e⟩ := h
    obtain ⟨g0, hg0, hty⟩ := hg (n0, t0) (by simp)
    obtain rfl := Option.some.inj (hg0.symm.trans hg')
    obtain rfl := Option.some.inj (hty.symm.trans ht')
    subst e
    obtain ⟨cl⟩ := cs
    have ok0 : ∀ u v, cl = [.iface u v] → Value.okWide P W .any 0 u v := fun u v e => by
      subst e
      exact (hrows g0 0 (by simp [MemPlace.row])).2 u v (by simpa using World.var?_cell hg0 hvar 0)
    obtain ⟨a, s, e1, hca, _, _, e2⟩ := errorString_of_trod hi hrow hp he hft hfo hs hc hcs hd ok0
    have e1' : cl = [.iface tp (.pointer (some a))] := e1
    subst e1' e2
    have hnd2 : q.Nodup := (List.nodup_append.1 hnd).2.1
    obtain ⟨ads, hlen, hno, hall, hat⟩ := sents hi hrow hp he hft hfo hs hc hcs rest l q hq hnd2 (fun b off hm => hrows b off (by simp [hm])) (fun x hx => hg x (by simp [hx]))
    have hain : MemPlace.cell a.block a.off ∈ MemPlace.row a 1 := by simp [MemPlace.row]
    refine ⟨a :: ads, by simp [hlen], ?_, ?_, ?_⟩
    · refine List.nodup_cons.2 ⟨fun hin => ?_, hno⟩
      have h1 := (hall a hin).1
      have h2 := (List.nodup_append.1 hnd).2.2 (MemPlace.cell a.block a.off) (by simp [hain]) (MemPlace.cell a.block a.off) h1
      exact h2 rfl
    · intro b hb
      rcases List.mem_cons.1 hb with rfl | hb
      · exact ⟨by simp [hain], (hrows b.block b.off (by simp [hain])).1⟩
      · exact ⟨by simp [(hall b hb).1], (hall b hb).2⟩
    · intro i n hn
      cases i with
      | zero =>
        simp at hn
        subst hn
        exact ⟨a, rfl, hvar⟩
      | succ i =>
        simp at hn
        obtain ⟨b, hb, hv⟩ := hat i n (by simpa using hn)
        exact ⟨b, by simpa using hb, hv⟩
/-- an error of the project's at an address -/
def ev (a : Addr) : Value := .iface 324 (.pointer (some a))
end Go.Proofs.YtdljpokhcfhhfaaGreatDoor
namespace Go.Proofs.YtdljpokhcfhhfaaGreatDoor
open Go.RowKit Go.Maps
def U32 (a : Int) : Prop := 0 ≤ a ∧ a ≤ 4294967295
theorem lit_key (a : Int) : WideAt.IsKeyLit (.int .u32 a) := trivial
theorem wf_a {a : Int} (h : U32 a) : (Lit.int .u32 a).wf = true := by
  obtain ⟨h0, h1⟩ := h
  simp [Lit.wf, IntKind.min, IntKind.max, IntKind.signed, IntKind.bits]; omega
section
variable {b k n : Nat} {t : TypeId} {v : Value} {W W' : World}
theorem ownk_next {ys : List Value} (h : W.ownsRow b t k v n ys) (hb : Below W.heap.size W W') : W'.ownsRow b t k v n ys := by
  refine ⟨h.1, ?_⟩
  rcases h.2 with hn | ⟨g, cap, cur, rfl, hbg, hh, rest⟩
  · exact .inl hn
  · exact .inr ⟨g, cap, cur, rfl, hbg, (hb.block g (Array.getElem?_eq_some_iff.1 hh).1).trans hh, rest⟩
theorem ownk_up {b' : Nat} {ys : List Value} (h : W.ownsRow b' t k v n ys) (hb : b ≤ b') : W.ownsRow b t k v n ys := by
  refine ⟨h.1, ?_⟩
  rcases h.2 with hn | ⟨g, cap, cur, rfl, hbg, hh, rest⟩
  · exact .inl hn
  · exact .inr ⟨g, cap, cur, rfl, Nat.le_trans hb hbg, hh, rest⟩
end
end Go.Proofs.YtdljpokhcfhhfaaGreatDoor
namespace Go.Proofs.YtdljpokhcfhhfaaGreatDoor
open Go.RowKit
/-- a world that has come of w, all that lay in w as it was -/
structure Snc (w : World) where
  W : World
  b : Below w.heap.size w W
instance (w : World) : Inhabited (Snc w) := ⟨⟨w, Below.refl _ _⟩⟩
theorem wp_region_since {P : Program} {id : Nat} {Q : Exit → Act → World → Prop} {a : Act} {w : World} {l : List Oper} (hm : P.follows .mixedOrders = true) (hB : Region.lexB .any l.toArray = true)
    (h : wpQuiet P l.toArray (fun w' => ∃ p : Snc w, w' = p.W) (fun a' => ∀ w', (∃ p : Snc w, w' = p.W) → Q .normal a' w') l a) : (Code.region id l.toArray true).wp P Q a w :=
  wp_region_quiet (C := fun w' => ∃ p : Snc w, w' = p.W) hm hB ⟨⟨w.drew, (Below.refl _ _).drew⟩, rfl⟩ (by simpa using h)
/-- a callee's contract, met in such a world -/
theorem Calls.since {P : Program} {f : FuncId} {args : Array Value} {w : World} {p : Snc w} {v : Value} (h : Calls P f args p.W fun e w' => e = .returned v ∧ Below p.W.heap.size p.W w') :
    Calls P f args p.W fun e w'' => e = .returned v ∧ ∃ q : Snc w, w'' = q.W :=
  h.mono fun _ _ ⟨he, hb⟩ => ⟨he, ⟨⟨_, p.b.trans (hb.mono p.b.size)⟩, rfl⟩⟩
theorem Calls.since_same {P : Program} {f : FuncId} {args : Array Value} {w : World} {p : Snc w} {v : Value} (h : Calls P f args p.W fun e w' => e = .returned v ∧ p.W = w') :
    Calls P f args p.W fun e w'' => e = .returned v ∧ ∃ q : Snc w, w'' = q.W :=
  h.mono fun _ _ ⟨he, hb⟩ => ⟨he, ⟨p, hb.symm⟩⟩
/-- a fact on every later world, said of such worlds -/
theorem Snc.all {w : World} {X : World → Prop} (h : ∀ W, Below w.heap.size w W → X W) : ∀ p : Snc w, X p.W := fun p => h p.W p.b
end Go.Proofs.YtdljpokhcfhhfaaGreatDoor
namespace Go.Proofs.YtdljpokhcfhhfaaGreatDoor
open Go.RowKit
/-- what lies at a place, as a word that no rule opens -/
def rd (w : World) (p : Addr) : Value := (w.cell? p).getD undef
theorem rd_of {w : World} {p : Addr} {v : Value} (h : w.cell? p = some v) : w.cell? p = some (rd w p) := by unfold rd; rw [h]; rfl
def Slot (w : World) (N : Nat) (t : TypeId) (k : Nat) : Prop := ∃ cs : Array Value, cs.size = k ∧ Blk w N t cs
section
variable {w w' : World} {N k : Nat} {t : TypeId}
theorem Blk.slot {cs : Array Value} (h : Blk w N t cs) : Slot w N t cs.size := ⟨cs, rfl, h⟩
theorem Slot.cell (h : Slot w N t k) {i : Nat} (hi : i < k) : w.cell? ⟨N, i, none⟩ = some (rd w ⟨N, i, none⟩) := by
  obtain ⟨cs, hs, hb⟩ := h
  refine rd_of (v := cs[i]'(by omega)) ?_
  rw [hb.cell i]
  simp
theorem Slot.frozen (h : Slot w N t k) (i : Nat) : w.frozen? ⟨N, i, none⟩ = false := by
  obtain ⟨cs, _, hb⟩ := h
  exact hb.frozen i
theorem Slot.lt (h : Slot w N t k) : N < w.heap.size := by
  obtain ⟨cs, _, hb⟩ := h
  exact hb.lt
theorem Slot.next (h : Slot w N t k) (hb : Below w.heap.size w w') : Slot w' N t k := by
  obtain ⟨cs, hs, hc⟩ := h
  exact ⟨cs, hs, hc.next hb⟩
theorem Slot.store (h : Slot w N t k) (i : Nat) (u : Value) : Slot (w.setCell ⟨N, i, none⟩ u) N t k := by
  obtain ⟨cs, hs, hc⟩ := h
  exact ⟨_, by simp [hs], hc.set_ i u⟩
theorem Slot.far (h : Slot w N t k) {p : Addr} (hp : N ≠ p.block) (u : Value) : Slot (w.setCell p u) N t k := by
  obtain ⟨cs, hs, hc⟩ := h
  exact ⟨cs, hs, hc.far hp u⟩
/-- what a region holds on to: all that lay below, and a variable of its own that it writes -/
def Keep (w : World) (t : TypeId) (k : Nat) (W : World) : Prop := Below w.heap.size w W ∧ Slot W w.heap.size t k
theorem Keep.next (h : Keep w t k w') {w1 : World} (hb : Below w'.heap.size w' w1) : Keep w t k w1 := ⟨h.1.trans (hb.mono h.1.size), h.2.next hb⟩
theorem Keep.drew (h : Keep w t k w') : Keep w t k w'.drew := ⟨h.1.drew, h.2.next (Below.refl _ _).drew⟩
theorem Keep.store (h : Keep w t k w') (i : Nat) (u : Value) : Keep w t k (w'.setCell ⟨w.heap.size, i, none⟩ u) := ⟨h.1.setCell (Nat.le_refl _) u, h.2.store i u⟩
theorem Keep.new (w : World) (t : TypeId) (cs : Array Value) : Keep w t cs.size (w.alloc (.cells cs t)) := ⟨(Below.refl _ _).alloc (Nat.le_refl _) _, (Blk.new _ _ _).slot⟩
theorem Keep.cell (h : Keep w t k w') (i : Nat) (hi : i < k) : w'.cell? ⟨w.heap.size, i, none⟩ = some (rd w' ⟨w.heap.size, i, none⟩) := Slot.cell h.2 hi
theorem Keep.frozen (h : Keep w t k w') (i : Nat) : w'.frozen? ⟨w.heap.size, i, none⟩ = false := Slot.frozen h.2 i
theorem Keep.old (h : Keep w t k w') {p : Addr} {v : Value} (hc : w.cell? p = some v) : w'.cell? p = some v := (h.1.cell (World.block_lt_of_cell? w _ hc)).trans hc
theorem Keep.alloc (h : Keep w t k w') (o : Obj) : Keep w t k (w'.alloc o) := h.next ((Below.refl _ _).alloc (Nat.le_refl _) o)
theorem Keep.far (h : Keep w t k w') {N : Nat} (hn : w.heap.size ≠ N) (hl : w.heap.size ≤ N) (i : Nat) (u : Value) : Keep w t k (w'.setCell ⟨N, i, none⟩ u) := ⟨h.1.setCell (by simpa using hl) u, h.2.far hn u⟩
theorem Keep.far6 (h : Keep w t k w') {N : Nat} (hn : w.heap.size < N) (v0 v1 v2 v3 v4 v5 : Value) : Keep w t k ((((((w'.setCell ⟨N, 0, none⟩ v0).setCell ⟨N, 1, none⟩ v1).setCell ⟨N, 2, none⟩ v2).setCell ⟨N, 3, none⟩ v3).setCell ⟨N, 4, none⟩ v4).setCell ⟨N, 5, none⟩ v5) :=
  have a := Nat.ne_of_lt hn
  have b := Nat.le_of_lt hn
  (((((h.far a b 0 v0).far a b 1 v1).far a b 2 v2).far a b 3 v3).far a b 4 v4).far a b 5 v5
theorem Keep.lt (h : Keep w t k w') : w.heap.size < w'.heap.size := Slot.lt h.2
end
end Go.Proofs.YtdljpokhcfhhfaaGreatDoor
namespace Go.Proofs.YtdljpokhcfhhfaaGreatDoor
open Go.RowKit Go.Maps
open Go.WideElems (Fit)
/-- the keys met so far: none twice; a key is among them just where the map has it and it is no longer to come -/
structure Met {H : Type} {α : Type} (P : Program) (k : TypeId) (enc : α → Value) (D0 : DataW H) (left : Lit → Bool) (ss : List α) : Prop where
  apart : ss.Nodup
  keys : ∀ x ∈ ss, ∃ kl, keyOf P k (enc x) = some kl
  just : ∀ x kl, keyOf P k (enc x) = some kl → (x ∈ ss ↔ (has D0 kl = true ∧ left kl = false))
section
variable {H : Type} {α : Type} {P : Program} {k : TypeId} {enc : α → Value} {D0 : DataW H} {left : Lit → Bool} {ss : List α}
theorem Met.start : Met P k enc D0 (has D0) ([] : List α) := ⟨List.nodup_nil, by simp, fun x kl _ => by cases has D0 kl <;> simp⟩
theorem Met.step (K : Keyed P k) (hinj : ∀ x y, enc x = enc y → x = y) (h : Met P k enc D0 left ss) {x : α} {kl : Lit} {y : DataW H} (hx : keyOf P k (enc x) = some kl) (hl : left kl = true) (hat : ∀ zd, D0.atKey kl zd = y) :
    Met P k enc D0 (fun z => left z && !z.sameKey kl) (ss ++ [x]) := by
  have hhas : has D0 kl = true := has_true_of_atKey hat
  have hnew : x ∉ ss := fun hm => by have := ((h.just x kl hx).1 hm).2; rw [hl] at this; cases this
  have hself := WideAt.sameKey_self (K.key hx)
  refine ⟨List.nodup_append.2 ⟨h.apart, by simp, fun a ha b hb => by simp at hb; subst hb; exact fun e => hnew (e ▸ ha)⟩, fun z hz => ?_, fun z kz hz => ?_⟩
  · rw [List.mem_append, List.mem_singleton] at hz
    rcases hz with hz | rfl
    · exact h.keys z hz
    · exact ⟨kl, hx⟩
  · rw [List.mem_append, List.mem_singleton, h.just z kz hz]
    by_cases e : z = x
    · subst e
      obtain rfl : kl = kz := by rw [hx] at hz; cases hz; rfl
      simp [hhas, hself]
    · have hne : kz.sameKey kl = false := by
        cases hk : kz.sameKey kl with
        | false => rfl
        | true =>
          have := (WideAt.sameKey_iff (K.key hx)).1 hk
          subst this
          exact absurd (hinj _ _ (K.inj hz hx)) e
      simp [e, hne]
/-- when nothing is left: just the map's keys, in some order -/
theorem Met.all (K : Keyed P k) (hinj : ∀ x y, enc x = enc y → x = y) {R : Value → Option (DataW H × List MemPlace)} {es : Array MapEntry} {clock : Nat} (hF : Fit P k R es clock) (hD : D0 = .map ((es.toList.map (WideElems.rg P k R)).foldr DataW.insert []))
    (h : Met P k enc D0 left ss) (hl : ∀ kl, left kl = false) {ks : List α} (hks : es.toList.map (·.key) = ks.map enc) : ss.Perm ks := by
  have hnd : ks.Nodup := by
    have hn := hF.stamped.2.2
    rw [hks] at hn
    unfold List.Nodup at hn ⊢
    rw [List.pairwise_map] at hn
    exact hn.imp fun h e => h (congrArg enc e)
  refine (List.perm_ext_iff_of_nodup h.apart hnd).2 fun x => ?_
  have hkey : ∀ e ∈ es.toList, ∃ kl, keyOf P k e.key = some kl ∧ (WideElems.rg P k R e).1 = kl := fun e he => by
    obtain ⟨y, hy⟩ := hF.reads e he
    exact ⟨_, WideElems.rd_key hy, by rw [WideElems.rg_of hy]⟩
  have hhas : ∀ kl, WideAt.IsKeyLit kl → (has D0 kl = true ↔ ∃ e ∈ es.toList, (WideElems.rg P k R e).1 = kl) := fun kl hkl => by
    rw [hD, has_eq, List.any_eq_true]
    constructor
    · rintro ⟨p, hp, hs⟩
      obtain ⟨e, he, rfl⟩ := List.mem_map.1 (mem_sorted.1 hp)
      exact ⟨e, he, (WideAt.sameKey_iff hkl).1 hs⟩
    · rintro ⟨e, he, rfl⟩
      exact ⟨_, mem_sorted.2 (List.mem_map.2 ⟨e, he, rfl⟩), WideAt.sameKey_self hkl⟩
  constructor
  · intro hx
    obtain ⟨kl, hkl⟩ := h.keys x hx
    obtain ⟨e, he, hr⟩ := (hhas kl (K.key hkl)).1 ((h.just x kl hkl).1 hx).1
    obtain ⟨kl', h1, h2⟩ := hkey e he
    have h3 : e.key = enc x := K.inj (h1.trans (by rw [← h2, hr])) hkl
    have h4 : e.key ∈ ks.map enc := by rw [← hks]; exact List.mem_map.2 ⟨e, he, rfl⟩
    obtain ⟨y, hy, hyk⟩ := List.mem_map.1 h4
    obtain rfl : y = x := hinj _ _ (hyk.trans h3)
    exact hy
  · intro hx
    have h4 : enc x ∈ es.toList.map (·.key) := by rw [hks]; exact List.mem_map.2 ⟨x, hx, rfl⟩
    obtain ⟨e, he, hek⟩ := List.mem_map.1 h4
    obtain ⟨kl, h1, h2⟩ := hkey e he
    rw [show e.key = enc x from hek] at h1
    exact (h.just x kl h1).2 ⟨(hhas kl (K.key h1)).2 ⟨e, he, h2⟩, hl kl⟩
end
end Go.Proofs.YtdljpokhcfhhfaaGreatDoor
namespace Go.Proofs.YtdljpokhcfhhfaaGreatDoor
open Go.ChangeShapes Go.WideShapes Go.ChangeAt Go.RowKit
theorem list_of {α : Type} {P : Nat → α → Prop} : ∀ n, (∀ i, i < n → ∃ x, P i x) → ∃ xs : List α, xs.length = n ∧ ∀ (i : Nat) x, xs[i]? = some x → P i x
  | 0, _ => ⟨[], rfl, fun i x h => by simp at h⟩
  | n + 1, h => by
    obtain ⟨xs, hl, hx⟩ := list_of n (fun i hi => h i (by omega))
    obtain ⟨x, hp⟩ := h n (by omega)
    refine ⟨xs ++ [x], by simp [hl], fun i y hy => ?_⟩
    rcases Nat.lt_or_ge i n with hi | hi
    · rw [List.getElem?_append_left (by omega)] at hy
      exact hx i y hy
    · rw [List.getElem?_append_right (by omega)] at hy
      have h0 : i - xs.length = 0 := by
        have := (List.getElem?_eq_some_iff.1 hy).1
        simp at this
        omega
      rw [h0] at hy
      simp at hy
      subst hy
      obtain rfl : i = n := by omega
      exact hp
/-- a slice of items, each of k cells, nil let in -/
def RI {α : Type} (enc : α → List Value) (k : Nat) (w : World) (A : Option Addr) (n : Nat) (xs : List α) : Prop :=
  xs.length = n ∧ (0 < n → ∃ b o, A = some ⟨b, o, none⟩ ∧ b < w.heap.size ∧ ∀ i x, xs[i]? = some x → ∀ j v, (enc x)[j]? = some v → w.cell? ⟨b, o + i * k + j, none⟩ = some v)
section
variable {α : Type} {enc : α → List Value} {k : Nat} {w w' : World} {A : Option Addr} {n : Nat} {xs : List α}
theorem RI.none_ (enc : α → List Value) (k : Nat) (w : World) (A : Option Addr) : RI enc k w A 0 [] := ⟨rfl, fun h => absurd h (by omega)⟩
theorem RI.len (h : RI enc k w A n xs) : xs.length = n := h.1
theorem RI.next (h : RI enc k w A n xs) (hb : Below w.heap.size w w') : RI enc k w' A n xs :=
  ⟨h.1, fun hn => by
    obtain ⟨b, o, e, hlt, hc⟩ := h.2 hn
    exact ⟨b, o, e, Nat.lt_of_lt_of_le hlt hb.size, fun i x hx j v hv => (hb.cell (p := ⟨b, o + i * k + j, none⟩) hlt).trans (hc i x hx j v hv)⟩⟩
theorem RI.at_ {i : Nat} (h : RI enc k w A n xs) (hk : i < n) : ∃ b o x, A = some ⟨b, o, none⟩ ∧ b < w.heap.size ∧ xs[i]? = some x ∧ ∀ j v, (enc x)[j]? = some v → w.cell? ⟨b, o + i * k + j, none⟩ = some v := by
  obtain ⟨b, o, e, hlt, hc⟩ := h.2 (by omega)
  have hx : xs[i]? = some (xs[i]'(by have := h.1; omega)) := List.getElem?_eq_getElem _
  exact ⟨b, o, _, e, hlt, hx, hc i _ hx⟩
theorem RI.take (h : RI enc k w A n xs) {i : Nat} (hi : i ≤ n) : RI enc k w A i (xs.take i) := by
  refine ⟨by rw [List.length_take]; have := h.1; omega, fun hp => ?_⟩
  obtain ⟨b, o, e, hlt, hc⟩ := h.2 (by omega)
  refine ⟨b, o, e, hlt, fun j x hx => hc j x ?_⟩
  rw [List.getElem?_take] at hx
  split at hx
  · exact hx
  · cases hx
/-- .. that the call owns -/
theorem RI.of_own {base : Nat} {e : TypeId} {v : Value} (hk : ∀ x, (enc x).length = k) (h : w.ownsRow base e k v xs.length (xs.flatMap enc)) : ∃ A c, v = .slice A xs.length c ∧ xs.length ≤ c ∧ RI enc k w A xs.length xs := by
  rcases h.2 with ⟨rfl, hl⟩ | ⟨g, cap, cur, rfl, _, hh, hnc, _, hsz, ht⟩
  · exact ⟨none, 0, by rw [hl], by omega, rfl, fun hn => by omega⟩
  · refine ⟨_, cap, rfl, hnc, rfl, fun _ => ⟨g, 0, rfl, (Array.getElem?_eq_some_iff.1 hh).1, fun i x hx j v hv => ?_⟩⟩
    have hat : ∀ (ys : List α) (i : Nat) (x : α), ys[i]? = some x → (ys.flatMap enc)[i * k + j]? = some v ∨ (enc x)[j]? ≠ some v := by
      intro ys
      induction ys with
      | nil => intro i x h; simp at h
      | cons y ys ih =>
        intro i x h
        by_cases hne : (enc x)[j]? = some v
        · left
          rw [List.flatMap_cons]
          cases i with
          | zero =>
            simp only [List.getElem?_cons_zero, Option.some.injEq] at h
            subst h
            rw [Nat.zero_mul, Nat.zero_add, List.getElem?_append_left (List.getElem?_eq_some_iff.1 hne).1]
            exact hne
          | succ i =>
            simp only [List.getElem?_cons_succ] at h
            rw [List.getElem?_append_right (by rw [hk, Nat.succ_mul]; omega), hk, show (i + 1) * k + j - k = i * k + j by rw [Nat.succ_mul]; omega]
            exact (ih i x h).resolve_right (fun hn => hn hne)
        · exact .inr hne
    have hc := (hat xs i x hx).resolve_right (fun hn => hn hv)
    rw [Nat.zero_add, cell_of_row w g (i * k + j) cur e (0, 0) hh]
    rw [← ht, List.getElem?_take] at hc
    split at hc
    · simpa using hc
    · cases hc
end
/-- an argument that is such a slice, opened, its items by what opens one -/
theorem open_items {α H : Type} {enc : TypeId × Value → H} {P : Program} {W : World} {t e : TypeId} {k : Nat} (cs : α → List Value) (wf : α → Prop) (ht : P.underlying t = some (.slice e)) (hC : P.cellsOf e = k) (hk : 0 < k)
    (hopen : ∀ n l y, l.length = k → DataW.trod enc P W 0 (fun _ => true) true n e l = some y → ∃ x : α, l = cs x ∧ wf x) {a0 : Option Addr} {len cap : Nat} {d0 : DataW H} {p : List MemPlace}
    (h0 : DataW.Trod enc P W 0 (fun _ => true) true t (.slice a0 len cap) d0 p) : ∃ xs : List α, RI cs k W a0 len xs ∧ (∀ x ∈ xs, wf x) ∧ len ≤ cap := by
  obtain ⟨fuel, hf⟩ := h0
  rcases Deep.open_slice ht hf with ⟨hcs, hx⟩ | ⟨a, len', cap', m, n, D, Pl, hcs, _, hl, hm, hz, hx, hi⟩
  · simp [Value.cells] at hcs
    obtain ⟨rfl, rfl, rfl⟩ := hcs
    exact ⟨[], RI.none_ _ _ _ _, fun _ h => (by cases h), Nat.le_refl _⟩
  · simp [Value.cells] at hcs
    obtain ⟨rfl, rfl, rfl⟩ := hcs
    simp only [if_true] at hz
    subst hz
    rw [hC] at hi
    obtain ⟨xs, hxl, hxs⟩ := list_of (P := fun i (x : α) => wf x ∧ ∀ j v, (cs x)[j]? = some v → W.cell? (a.add (i * k + j)) = some v) len (fun i hil => by
      obtain ⟨l, hc, htr⟩ := hi i (by omega)
      obtain ⟨_, hcl, hat⟩ := World.cells?_some hc
      obtain ⟨x, rfl, hw⟩ := hopen n l _ hcl htr
      refine ⟨x, hw, fun j v hv => ?_⟩
      have hj : j < k := by have := (List.getElem?_eq_some_iff.1 hv).1; omega
      have := hat j hj
      rw [hv] at this
      rw [← Go.Deep.add_add]
      exact this)
    refine ⟨xs, ⟨hxl, fun hn => ?_⟩, fun x hx => ?_, hl⟩
    · obtain ⟨x, hx⟩ : ∃ x, xs[0]? = some x := ⟨xs[0]'(by omega), List.getElem?_eq_getElem _⟩
      obtain ⟨l, hc, htr⟩ := hi 0 (by omega)
      obtain ⟨_, hcl, hat⟩ := World.cells?_some hc
      have h0 := hat 0 hk
      rw [List.getElem?_eq_getElem (by omega)] at h0
      obtain ⟨b, o, s⟩ := a
      obtain rfl : s = none := by simpa [Addr.add] using World.cell?_spot h0
      refine ⟨b, o, rfl, ?_, fun i x hx j v hv => ?_⟩
      · have := World.block_lt_of_cell? _ _ h0
        simpa [add_plain] using this
      · have := (hxs i x hx).2 j v hv
        rw [add_plain] at this
        rw [Nat.add_assoc]
        exact this
    · obtain ⟨i, hi⟩ := List.getElem?_of_mem hx
      exact (hxs i x hi).1
/-- a key: source, group -/
def CKy : Int × Int → List Value := fun k => [.int .u32 k.1, .int .u32 k.2]
theorem lit_cells {w : World} {g : Nat} {t : TypeId} {cs : List Value} (h : Blk w g t cs.toArray) : ∀ j u, cs[j]? = some u → w.cell? ((⟨g, 0, none⟩ : Addr).add j) = some u := by
  intro j u hj
  have := h.cell j
  rw [WideShapes.add_plain, Nat.zero_add, this]
  simpa using hj
theorem ri_one {w : World} {g : Nat} {t : TypeId} {k : Int × Int} (h : Blk w g t #[.int .u32 k.1, .int .u32 k.2]) : RI CKy 2 w (some ⟨g, 0, none⟩) 1 [k] :=
  ⟨rfl, fun _ => ⟨g, 0, rfl, h.lt, fun i x hx j v hv => by
    have hi : i = 0 := by have := (List.getElem?_eq_some_iff.1 hx).1; simp at this; exact this
    subst hi
    simp at hx
    subst hx
    have := h.cell j
    rw [show (0 : Nat) + 0 * 2 + j = j by omega, this]
    simpa [CKy] using hv⟩⟩
end Go.Proofs.YtdljpokhcfhhfaaGreatDoor

