/- Package age's All, over the seat's program. -/
import Derived.Test.YtnnppoamdllebaaAl
import Derived.Test.YtnnppoamdllebaaAo
import Derived.Test.YtnnppoamdllebaaIt
import Derived.Test.YtnnppoamdllebaaKn
import Derived.Test.YtnnppoamdllebaaSort
import Derived.Shelf.SlSortCmp.NoneTotal
import Derived.Maps.AppendAt
namespace Go.Proofs.Ytnnppoamdllebaa
open Go.RowKit Go.MapKept Go.ChangeMaps Sm Ag
open Go.Sort Go.Shelf
instance instEx : Inhabited Ex := ⟨z0⟩
theorem info_entry : ∃ i z, Try.prog.info? 56 = some i ∧ i.zero = some z ∧ z.cells.size = 15 ∧ i.size = 15 ∧ i.bytes = 112 := by
  have h : (Try.prog.info? 56).map (fun i => (i.zero.map (·.cells.size), i.size, i.bytes)) = some (some 15, 15, 112) := by kernel_rfl
  cases hi : Try.prog.info? 56 with
  | none => rw [hi] at h; cases h
  | some i =>
    rw [hi] at h
    simp only [Option.map_some, Option.some.injEq, Prod.mk.injEq] at h
    cases hz : i.zero with
    | none => rw [hz] at h; simp at h
    | some z => rw [hz] at h; exact ⟨i, z, rfl, hz, by simpa using h.1, h.2.1, h.2.2⟩
theorem encE_len (y : Ex) : (encE y).length = 15 := rfl
theorem encE_one (y : Ex) : ∀ v ∈ encE y, v.oneCell' = true := by
  intro v hv
  simp only [encE, List.mem_cons, List.not_mem_nil, or_false] at hv
  rcases hv with rfl | rfl | rfl | rfl | rfl | rfl | rfl | rfl | rfl | rfl | rfl | rfl | rfl | rfl | rfl <;> rfl
theorem swoE : SWO (ltOf fun x y : Ex => ordT x.e.t y.e.t) where
  irrefl x := by
    have := ltT_irrefl x.e.t
    rw [← ord_ltT] at this
    simpa [ltOf] using this
  trans x y z h1 h2 := by
    simp only [ltOf, decide_eq_true_eq, ord_ltT] at *
    exact ltT_trans h1 h2
  ntrans x y z h1 h2 := by
    simp only [ltOf, decide_eq_false_iff_not, ord_ltT] at *
    intro h3
    by_cases h4 : ltT y.e.t x.e.t
    · exact h2 (ltT_trans h4 h3)
    · have := ltT_total h1 h4
      rw [this] at h3
      exact h2 h3
theorem cmpLaysE (blk off size : Nat) (w : World) : CmpLays Try.prog 29 #[] encE 15 (fun x y : Ex => ordT x.e.t y.e.t) blk off size w :=
  fun _ _ _ _ x y => (clos_any x y _).mono fun _ _ ⟨he, hg⟩ => ⟨he, hg⟩
theorem eClos : ∀ args w, (callFunc 29 args).run Try.prog w = .ok (.enter 29 args) w := enters_of Try.func29 (by kernel_rfl) rfl
theorem holds_ri {w : World} {g cap base : Nat} {L : List Ex} (h : w.ownsRow base 56 15 (.slice (some ⟨g, 0, none⟩) L.length cap) L.length (L.flatMap encE)) : HoldsK encE 15 w g 0 L.toArray ∧ g < w.heap.size := by
  obtain ⟨A, c, he, _, hri⟩ := RI.of_own encE_len h
  rcases h.2 with ⟨hv, _⟩ | ⟨g', cap', cur, hv, _, hh, hnc, _, hsz, ht⟩
  · cases hv
  · have hg : g = g' := by cases hv; rfl
    subst hg
    refine ⟨fun j hj => ?_, (Array.getElem?_eq_some_iff.1 hh).1⟩
    have hj' : j < L.length * 15 := by simpa using hj
    refine ⟨?_, by simp [World.frozen?, hh]⟩
    rw [get_flatK _ _ _ _ (by simpa using hj'), Nat.zero_add]
    have hi : j / 15 < L.length := by omega
    obtain ⟨b', o', x, e1, _, hx, hc⟩ := hri.at_ hi
    cases he
    cases e1
    have e2 : L.toArray[j / 15]! = x := by
      obtain ⟨h1, h2⟩ := List.getElem?_eq_some_iff.1 hx
      simp [h1, h2]
    rw [e2]
    have hm : j % 15 < (encE x).length := by rw [encE_len]; omega
    have := hc (j % 15) (encE x)[j % 15] (List.getElem?_eq_getElem hm)
    rw [getElem!_pos (encE x) (j % 15) hm]
    show w.cell? ⟨g, j, none⟩ = some (encE x)[j % 15]
    rw [← this]
    have e3 : 0 + j / 15 * 15 + j % 15 = j := by omega
    rw [e3]
theorem reads_ri {w : World} {g : Nat} {L : List Ex} (h : HoldsK encE 15 w g 0 L.toArray) (hg : g < w.heap.size) : RI encE 15 w (some ⟨g, 0, none⟩) L.length L := by
  refine ⟨rfl, fun _ => ⟨g, 0, rfl, hg, fun i x hx j v hv => ?_⟩⟩
  have hi := (List.getElem?_eq_some_iff.1 hx).1
  have hj : j < 15 := by have := (List.getElem?_eq_some_iff.1 hv).1; rw [encE_len] at this; exact this
  have hc := (HoldsK.cell h (i := i) (c := j) (by simpa using hi) hj).1
  rw [hc]
  have e1 : L.toArray[i]! = x := by
    have := (List.getElem?_eq_some_iff.1 hx).2
    simp [hi, this]
  rw [e1]
  obtain ⟨h1, h2⟩ := List.getElem?_eq_some_iff.1 hv
  rw [getElem!_pos (encE x) j h1, h2]
theorem grown_sortE {w : World} {g n : Nat} {os : Array Obj} (d : Array Ex) : w.grownBy (sortWorldK encE 15 w g 0 n d os) (some g) := by
  refine ⟨rfl, rfl, rfl, by simp [sortWorldK, putRowK, putRow, mapBlock, Sort.ahead, Sort.grow], fun k hk hne => ?_⟩
  unfold sortWorldK
  rw [heap_grow_old _ _ (by simpa [putRowK, putRow, mapBlock, Sort.ahead] using hk)]
  have : g ≠ k := fun e => hne (by rw [e])
  simp [putRowK, putRow, mapBlock, Sort.ahead, Array.getElem?_modify, this]
theorem sortE_some (g cap base : Nat) (L : List Ex) (w : World) (h : w.ownsRow base 56 15 (.slice (some ⟨g, 0, none⟩) L.length cap) L.length (L.flatMap encE)) (hn : L.length ≤ 1000000) :
    Calls Try.prog 28 #[.slice (some ⟨g, 0, none⟩) L.length cap, .func (.func 29) #[] #[]] w fun e w' => e = .returned (.tuple #[]) ∧ ∃ L' : List Ex, L'.Perm L ∧ L'.Pairwise (fun a b => ¬ ltT b.e.t a.e.t) ∧ RI encE 15 w' (some ⟨g, 0, none⟩) L.length L' ∧ w.grownBy w' (some g) := by
  obtain ⟨hH, hg⟩ := holds_ri h
  have hcon := AnyQ.slices_SortFunc Try.sortE 15 Try.isAgg56 Try.sizeOf56 encE encE_len encE_one (fun x y : Ex => ordT x.e.t y.e.t) swoE 29 #[] g 0 cap L.toArray w eClos (cmpLaysE g 0 L.toArray.size w) hH hg (by simp; omega)
  simp only [List.size_toArray] at hcon
  refine hcon.mono ?_
  rintro e w' ⟨rfl, d', n, os, hp, hs, rfl⟩
  have hsz : d'.size = L.length := by simpa using hp.1
  have hext : d'.extract 0 L.length = d' := by rw [← hsz]; simp
  have hext2 : L.toArray.extract 0 L.length = L.toArray := by
    simp
  have hperm : d'.toList.Perm L := by
    have := hp.2.2
    rw [hext, hext2] at this
    simpa using this
  refine ⟨rfl, d'.toList, hperm, ?_, ?_, grown_sortE _⟩
  · rw [List.pairwise_iff_getElem]
    intro i j hi hj hij hlt
    have hj' : j < d'.size := by simpa using hj
    have hi' : i < d'.size := by simpa using hi
    have := hs i j (Nat.zero_le _) hij (by omega)
    rw [getElem!_pos d' i hi', getElem!_pos d' j hj'] at this
    simp only [ltOf, decide_eq_false_iff_not, ord_ltT] at this
    exact this (by simpa using hlt)
  · have hk : HoldsK encE 15 (sortWorldK encE 15 w g 0 n d' os) g 0 d' := by
      unfold sortWorldK
      refine holdsK_grow _ _ _ _ _ _ _ (by simpa [putRowK, putRow, mapBlock, Sort.ahead] using hg) ?_
      exact holdsK_putRowK _ _ _ _ _ L.toArray _ (holdsK_ahead _ _ _ _ _ _ _ hH) (by simp [hsz])
    have hr := reads_ri (L := d'.toList) (by simpa using hk) (by simp [sortWorldK, putRowK, putRow, mapBlock, Sort.ahead, Sort.grow]; omega)
    have e : d'.toList.length = L.length := by simpa using hsz
    rw [e] at hr
    exact hr
/-- what All tells: those of the kind, rising -/
def AllOf (T : Row) (kind : Int) (M : List En) : Prop := M.Pairwise (fun a b => ltT a.t b.t) ∧ ∀ e, e ∈ M ↔ ∃ p ∈ T, p.2.e = e ∧ e.t.1 = kind
theorem NewA.next {w w' : World} {B : Nat} {A : Option Addr} {n : Nat} (h : NewA w B A n) (hb : Below w.heap.size w w') : NewA w' B A n := fun hn => by
  obtain ⟨g, cs, h1, h2, h3⟩ := h hn
  exact ⟨g, cs, h1, h2, h3.next hb⟩
/-- a row of entries whose Sources lie in memory -/
def Ents (w : World) (L : List Ex) : Prop := ∀ y ∈ L, AR w y.A y.n y.e.m.l ∧ y.n ≤ 1000000 ∧ NewA w 0 y.A y.n
theorem Ents.next {w w' : World} {L : List Ex} (h : Ents w L) (hb : Below w.heap.size w w') : Ents w' L := fun y hy => ⟨(h y hy).1.next hb, (h y hy).2.1, (h y hy).2.2.next hb⟩
/-- All under way -/
def AllI (w : World) (N b R ck : Nat) (T : Row) (kind : Int) (v : Value) (wr : World) : Prop :=
  ∃ S L, IT wr b R T ck S ∧ wr.ownsRow w.heap.size 56 15 v L.length (L.flatMap encE) ∧ Ents wr L ∧ Blk wr N 33 #[.map (some b)] ∧ Below w.heap.size w wr ∧ (L.map (·.e.t)).Nodup ∧
    (∀ e, e ∈ L.map (·.e) ↔ ∃ p ∈ T, S.contains p.1 = true ∧ p.2.e = e ∧ e.t.1 = kind) ∧ L.length + cnt T S ≤ T.length
theorem cnt_start (T : Row) : cnt T #[] = T.length := by
  unfold cnt
  rw [List.filter_eq_self.2 (fun p _ => by simp)]
section
variable {w wr w2 W3 : World} {N b R ck nb : Nat} {T : Row} {S : Array Nat} {y : Ex} {kind : Int} {v : Value}
theorem Ents.grown {w w' : World} {L : List Ex} (h : Ents w L) {row : Option Nat} (hg : w.grownBy w' row) (hn : ∀ g cs, row = some g → ¬ Blk w g 24 cs) : Ents w' L := fun y hy => by
  obtain ⟨h1, h2, h3⟩ := h y hy
  have hk : ∀ q cs, Blk w q 24 cs → w'.heap[q]? = w.heap[q]? := fun q cs hq => hg.block q hq.lt (fun e => hn q cs e.symm hq)
  refine ⟨h1.far hg.size (fun hp => ?_), h2, fun hp => ?_⟩
  all_goals obtain ⟨q, cs, e1, e2, e3⟩ := h3 hp
  · exact ⟨q, 0, e1, hk q cs e3⟩
  · exact ⟨q, cs, e1, e2, (hk q cs e3).trans e3⟩
theorem Ents.iter {L : List Ex} (h : Ents wr L) (hI : IT wr b R T ck S) (hg : wr.grownBy w2 (some R)) : Ents w2 L := by
  obtain ⟨since, c0, hr, _⟩ := hI.it
  refine h.grown hg fun g cs e hq => ?_
  cases e
  unfold Blk at hq
  rw [hr] at hq
  cases hq
/-- what holds behind the step, whichever way -/
theorem all_step (hcm : Came wr w2 b R T ck S nb y) (hI : IT wr b R T ck S) {L : List Ex} (ho : wr.ownsRow w.heap.size 56 15 v L.length (L.flatMap encE)) (he : Ents wr L) (hB : Blk wr N 33 #[.map (some b)]) (hb : Below w.heap.size w wr)
    (hR : w.heap.size ≤ R) (hN : N < w.heap.size) (hW : Below w2.heap.size w2 W3) :
    W3.ownsRow w.heap.size 56 15 v L.length (L.flatMap encE) ∧ Ents W3 L ∧ Blk W3 N 33 #[.map (some b)] ∧ Below w.heap.size w W3 ∧ IT W3 b R T ck (S.push nb) := by
  have hg := hcm.grown
  have hvR : v.ownBlock ≠ some R := by
    obtain ⟨since, c0, hr, _⟩ := hI.it
    intro e
    rcases ho.2 with ⟨hv, _⟩ | ⟨g', cap', cur, hv, _, hh, _⟩
    · rw [hv] at e; cases e
    · rw [hv] at e
      simp [Value.ownBlock] at e
      subst e
      rw [hr] at hh
      cases hh
  have ho2 : w2.ownsRow w.heap.size 56 15 v L.length (L.flatMap encE) := ho.kept hg (.inr hvR)
  have hB2 : Blk w2 N 33 #[.map (some b)] := (hg.block N hB.lt (fun e => by cases e; omega)).trans hB
  have hb2 : Below w.heap.size w w2 := hb.grown hg hb.size (fun k e => by cases e; exact hR)
  exact ⟨ownk_next ho2 hW, (he.iter hI hg).next hW, hB2.next hW, hb2.trans (hW.mono hb2.size), hcm.it.next hW⟩
end
theorem all_add {wr w2 : World} {b R ck nb : Nat} {T : Row} {S : Array Nat} {y : Ex} {kind : Int} {L : List Ex} (hAp : Apart T) (hcm : Came wr w2 b R T ck S nb y) (hnd : (L.map (·.e.t)).Nodup)
    (hmem : ∀ e, e ∈ L.map (·.e) ↔ ∃ p ∈ T, S.contains p.1 = true ∧ p.2.e = e ∧ e.t.1 = kind) (hlen : L.length + cnt T S ≤ T.length) :
    (∀ A' c' n', y.e.t.1 = kind → (((L ++ [(⟨y.e, A', n', c'⟩ : Ex)]).map (·.e.t)).Nodup ∧ (∀ e, e ∈ (L ++ [(⟨y.e, A', n', c'⟩ : Ex)]).map (·.e) ↔ ∃ p ∈ T, (S.push nb).contains p.1 = true ∧ p.2.e = e ∧ e.t.1 = kind) ∧ (L ++ [(⟨y.e, A', n', c'⟩ : Ex)]).length + cnt T (S.push nb) ≤ T.length)) ∧
    (y.e.t.1 ≠ kind → ((∀ e, e ∈ L.map (·.e) ↔ ∃ p ∈ T, (S.push nb).contains p.1 = true ∧ p.2.e = e ∧ e.t.1 = kind) ∧ L.length + cnt T (S.push nb) ≤ T.length)) := by
  have hc : cnt T (S.push nb) < cnt T S := cnt_push hcm.mem hcm.new
  have hone : ∀ p ∈ T, p.1 = nb → p = (nb, y) := fun p hp e => by
    have h1 := hcm.it.am.once
    obtain ⟨i, hi⟩ := List.getElem?_of_mem hp
    obtain ⟨j, hj⟩ := List.getElem?_of_mem hcm.mem
    have a1 : (T.map (·.1))[i]? = some nb := by rw [List.getElem?_map, hi]; simp [e]
    have a2 : (T.map (·.1))[j]? = some nb := by rw [List.getElem?_map, hj]; rfl
    obtain rfl : i = j := (List.getElem?_inj (List.getElem?_eq_some_iff.1 a1).1 h1).1 (a1.trans a2.symm)
    rw [hi] at hj
    exact Option.some.inj hj
  have hpush : ∀ q : Nat, (S.push nb).contains q = true ↔ (S.contains q = true ∨ q = nb) := fun q => by simp
  refine ⟨fun A' c' n' hk => ⟨?_, fun e => ?_, ?_⟩, fun hk => ⟨fun e => ?_, by omega⟩⟩
  · rw [List.map_append, List.nodup_append]
    refine ⟨hnd, by simp, fun a ha c hc' => ?_⟩
    simp only [List.map_cons, List.map_nil, List.mem_singleton] at hc'
    subst hc'
    rintro rfl
    obtain ⟨z, hz, hzt⟩ := List.mem_map.1 ha
    obtain ⟨p, hp, hs, hpe, _⟩ := (hmem z.e).1 (List.mem_map.2 ⟨z, hz, rfl⟩)
    have := apart_eq hAp hp hcm.mem (by rw [hpe]; exact hzt)
    rw [this] at hs
    have h2 := hcm.new
    simp only at hs
    rw [hs] at h2
    cases h2
  · rw [List.map_append, List.mem_append, hmem]
    simp only [List.map_cons, List.map_nil, List.mem_singleton]
    constructor
    · rintro (⟨p, hp, hs, h1, h2⟩ | rfl)
      · exact ⟨p, hp, (hpush _).2 (.inl hs), h1, h2⟩
      · exact ⟨(nb, y), hcm.mem, (hpush _).2 (.inr rfl), rfl, hk⟩
    · rintro ⟨p, hp, hs, h1, h2⟩
      rcases (hpush _).1 hs with hs | hs
      · exact .inl ⟨p, hp, hs, h1, h2⟩
      · rw [hone p hp hs] at h1
        exact .inr h1.symm
  · simp only [List.length_append, List.length_cons, List.length_nil]
    omega
  · rw [hmem]
    constructor
    · rintro ⟨p, hp, hs, h1, h2⟩
      exact ⟨p, hp, (hpush _).2 (.inl hs), h1, h2⟩
    · rintro ⟨p, hp, hs, h1, h2⟩
      rcases (hpush _).1 hs with hs | hs
      · exact ⟨p, hp, hs, h1, h2⟩
      · rw [hone p hp hs] at h1
        rw [← h1] at h2
        exact absurd h2 hk
theorem own_or {w : World} {base : Nat} {v : Value} {L : List Ex} (h : w.ownsRow base 56 15 v L.length (L.flatMap encE)) : (v = .slice none 0 0 ∧ L = []) ∨ ∃ g cap, v = .slice (some ⟨g, 0, none⟩) L.length cap := by
  rcases h.2 with ⟨hv, h0⟩ | ⟨g, cap, cur, hv, _⟩
  · exact .inl ⟨hv, List.length_eq_zero_iff.1 h0⟩
  · exact .inr ⟨g, cap, hv⟩
theorem own_no_u32 {w : World} {base g n cap : Nat} {ys : List Value} (h : w.ownsRow base 56 15 (.slice (some ⟨g, 0, none⟩) n cap) n ys) {cs : Array Value} (hc : Blk w g 24 cs) : False := by
  rcases h.2 with ⟨hv, _⟩ | ⟨g', cap, cur, hv, _, hh, _⟩
  · cases hv
  · cases hv
    unfold Blk at hc
    rw [hh] at hc
    simp at hc
theorem all_end {T : Row} {S : Array Nat} {L : List Ex} {kind : Int} (hall : AllCame T S) (hnd : (L.map (·.e.t)).Nodup) (hmem : ∀ e, e ∈ L.map (·.e) ↔ ∃ p ∈ T, S.contains p.1 = true ∧ p.2.e = e ∧ e.t.1 = kind) :
    ∀ L' : List Ex, L'.Perm L → L'.Pairwise (fun a b => ¬ ltT b.e.t a.e.t) → AllOf T kind (L'.map (·.e)) := by
  intro L' hp hs
  refine ⟨?_, fun e => ?_⟩
  · rw [List.pairwise_map]
    have hn : (L'.map (·.e.t)).Nodup := ((hp.map _).nodup_iff).2 hnd
    unfold List.Nodup at hn
    rw [List.pairwise_map] at hn
    refine (hs.and hn).imp fun {a b} h => ?_
    by_cases h1 : ltT a.e.t b.e.t
    · exact h1
    · exact absurd (ltT_total h1 h.1) h.2
  · rw [(hp.map (·.e)).mem_iff, hmem]
    constructor
    · rintro ⟨p, hp, _, h1, h2⟩; exact ⟨p, hp, h1, h2⟩
    · rintro ⟨p, hp, h1, h2⟩; exact ⟨p, hp, hall p hp, h1, h2⟩
/-- one more in the row -/
theorem all_app {w W5 w' : World} {N b R ck : Nat} {T : Row} {S : Array Nat} {kind : Int} {v v' : Value} {L : List Ex} {y : Ex} (HM : AM w b T ck) (ho : W5.ownsRow w.heap.size 56 15 v L.length (L.flatMap encE)) (he : Ents W5 L) (hy : Ents W5 [y]) (hB : Blk W5 N 33 #[.map (some b)]) (hb : Below w.heap.size w W5) (hI : IT W5 b R T ck S)
    (hg : W5.grownBy w' v.ownBlock) (hown : w'.ownsRow w.heap.size 56 15 v' (L.length + 1) (L.flatMap encE ++ encE y))
    (hA : ((L ++ [y]).map (·.e.t)).Nodup ∧ (∀ e, e ∈ (L ++ [y]).map (·.e) ↔ ∃ p ∈ T, S.contains p.1 = true ∧ p.2.e = e ∧ e.t.1 = kind) ∧ (L ++ [y]).length + cnt T S ≤ T.length) : AllI w N b R ck T kind v' w' ∧ w'.rangeLeft b R = cnt T S := by
  have hvb : ∀ g, v.ownBlock = some g → ∃ cs, W5.heap[g]? = some (.cells cs 56) ∧ w.heap.size ≤ g := fun g hv => by
    rcases ho.2 with ⟨h1, _⟩ | ⟨g', cap, cur, h1, h2, hh, _⟩
    · rw [h1] at hv; cases hv
    · rw [h1] at hv
      simp [Value.ownBlock] at hv
      subst hv
      exact ⟨cur, hh, h2⟩
  have hb' : Below w.heap.size w w' := hb.grown hg hb.size (fun k e => by obtain ⟨_, _, h2⟩ := hvb k e; exact h2)
  have hl : (L ++ [y]).length = L.length + 1 := by simp
  have hf : (L ++ [y]).flatMap encE = L.flatMap encE ++ encE y := by simp
  have hnA : ∀ g cs, v.ownBlock = some g → ¬ Blk W5 g 24 cs := fun g cs hv hq => by
    obtain ⟨cs', h1, _⟩ := hvb g hv
    unfold Blk at hq
    rw [h1] at hq
    simp at hq
  have hRl := hI.lt
  obtain ⟨since, c0, hr, rest⟩ := hI.it
  have hIT : IT w' b R T ck S := ⟨HM.next hb', since, c0, (hg.block R hRl (fun e => by
    obtain ⟨cs', h1, _⟩ := hvb R e.symm
    rw [hr] at h1
    cases h1)).trans hr, rest⟩
  refine ⟨⟨S, L ++ [y], hIT, by rw [hl, hf]; exact hown, ?_, (hg.block N hB.lt (fun e => ?_)).trans hB, hb', hA.1, hA.2.1, hA.2.2⟩, hIT.left_eq⟩
  · intro z hz
    rcases List.mem_append.1 hz with hz | hz
    · exact (he.grown hg hnA) z hz
    · exact (hy.grown hg hnA) z hz
  · obtain ⟨cs', h1, _⟩ := hvb N e.symm
    unfold Blk at hB
    rw [h1] at hB
    simp at hB
set_option maxRecDepth 100000 in
set_option maxHeartbeats 4000000 in
theorem all_some (w : World) (N b clock : Nat) (T : Row) (kind : Int) (hN : Blk w N 33 #[.map (some b)]) (hm : AM w b T clock) (hlen : T.length ≤ 100000) :
    Calls Try.prog 17 #[.pointer (some ⟨N, 0, none⟩), .int .i64 kind] w fun e w' => ∃ (A : Option Addr) (c : Nat) (L : List Ex), e = .returned (.slice A L.length c) ∧ RI encE 15 w' A L.length L ∧ Ents w' L ∧ AllOf T kind (L.map (·.e)) ∧ Below w.heap.size w w' := by
  have hc : w.cell? ⟨N, 0, none⟩ = some (.map (some b)) := by simpa using hN.cell 0
  obtain ⟨hrg, hI0⟩ := hm.range_
  have HI : Hid (AllI w N b w.heap.size clock T kind (.slice none 0 0) (w.alloc (.mapIter (some b) clock #[] clock))) := Lib.hid ⟨#[], [], hI0, World.ownsRow_nil _ _ _ _, (fun y hy => by cases hy), hN.alloc _, (Below.refl _ _).alloc (Nat.le_refl _) _, List.nodup_nil, (fun e => by simp), by rw [cnt_start]; simp⟩
  have HAp := Lib.hid hm.apart
  have HNW : Hid (N < w.heap.size) := Lib.hid hN.lt
  have HM := Lib.hid hm
  clear hN hm
  go_enter Try.func17, Try.ntmps17
  go_upto_region 3 with fail
  generalize w.alloc (.mapIter (some b) clock #[] clock) = W1 at *
  generalize hRR : w.heap.size = R at hI0 HI ⊢
  have HRR : Hid (R = w.heap.size) := Lib.hid hRR.symm
  clear hrg hRR hc hI0
  go_loopw [5] (fun v wr => Hid (AllI w N b R clock T kind v wr)) (fun _ wr => wr.rangeLeft b R)
  case atStart => exact HI
  case round =>
    clear HI
    have HR := hrel
    clear hrel
    obtain ⟨S, L, hI, ho0, he0, hB0, hb0, hnd0, hmem0, hlen0⟩ := HR.out
    have HI := Lib.hid hI
    have ho := Lib.hid ho0
    have he := Lib.hid he0
    have hB := Lib.hid hB0
    have hb := Lib.hid hb0
    have hnd := Lib.hid hnd0
    have hmem := Lib.hid hmem0
    have hll := Lib.hid hlen0
    clear ho0 he0 hB0 hb0 hnd0 hmem0 hlen0
    have hll2 : L.length ≤ 100000 := by have := hll.out; omega
    go_wp2_with (first | (at_next; refine wpList_next_it rfl _ rfl rfl hI ?_ ?_) | go_in)
    · intro hall
      have HALL : Hid (∀ L' : List Ex, L'.Perm L → L'.Pairwise (fun a b => ¬ ltT b.e.t a.e.t) → AllOf T kind (L'.map (·.e))) := Lib.hid (all_end hall hnd.out hmem.out)
      rcases own_or ho.out with ⟨rfl, rfl⟩ | ⟨g, cp, rfl⟩
      · go_wp2_with (go_at_call 28; refine (AnyF.slices_SortFunc_none Try.sortE none 0 (.func (.func 29) #[] #[]) wr).mono ?_; rintro e w3 ⟨rfl, rfl⟩)
        go_ret
        exact ⟨none, 0, [], rfl, RI.none_ _ _ _ _, (fun y hy => by cases hy), HALL.out [] (List.Perm.refl _) List.Pairwise.nil, hb.out⟩
      · have hsb : w.heap.size ≤ g := ((ho.out).lt g rfl).1
        have hso := Lib.hid (sortE_some g cp w.heap.size L wr ho.out (by omega))
        go_wp2_with (go_at_call 28; refine hso.out.mono ?_; rintro e w3 ⟨rfl, L', hp, hs, hri, hg⟩)
        have hl' : L'.length = L.length := hp.length_eq
        go_ret
        rw [← hl'] at hri ⊢
        exact ⟨_, cp, L', rfl, hri, fun y hy => (he.out.grown hg (fun q cs e hc => by cases e; exact own_no_u32 ho.out hc)) y (hp.mem_iff.1 hy), HALL.out L' hp hs, hb.out.grown hg hb.out.size (fun k e => by cases e; exact hsb)⟩
    · intro nb y w2 hcm
      obtain ⟨⟨⟨b0, b1, b2, b3, b4⟩, a5, ⟨k, f, t, s, g, r, c, o, l⟩⟩, A, n, cp⟩ := y
      have HCM := Lib.hid hcm
      have en := hcm.entry w2 rfl rfl
      clear hcm hI
      dsimp only [tv, ev, encE] at en ⊢
      have hWB : Below w2.heap.size w2 ((w2.alloc (.cells #[.int .i64 b0, .int .i64 b1, .int .u32 b2, .int .u32 b3, .int .u32 b4] 28)).alloc (.cells #[.int .i64 b0, .int .i64 b1, .int .u32 b2, .int .u32 b3, .int .u32 b4, .int .i64 a5, .int .i64 k, .int .u32 f, .int .u32 t, .int .u32 s, .int .u32 g, .int .i64 r, .int .i64 c, .bool o, .slice A n cp] 56)) := (((Below.refl _ _).alloc (Nat.le_refl _) _).alloc (by simp) _)
      have hk0 := ((Blk.new w2 28 #[.int .i64 b0, .int .i64 b1, .int .u32 b2, .int .u32 b3, .int .u32 b4]).alloc (.cells #[.int .i64 b0, .int .i64 b1, .int .u32 b2, .int .u32 b3, .int .u32 b4, .int .i64 a5, .int .i64 k, .int .u32 f, .int .u32 t, .int .u32 s, .int .u32 g, .int .i64 r, .int .i64 c, .bool o, .slice A n cp] 56))
      have hk1 := (Blk.new (w2.alloc (.cells #[.int .i64 b0, .int .i64 b1, .int .u32 b2, .int .u32 b3, .int .u32 b4] 28)) 56 #[.int .i64 b0, .int .i64 b1, .int .u32 b2, .int .u32 b3, .int .u32 b4, .int .i64 a5, .int .i64 k, .int .u32 f, .int .u32 t, .int .u32 s, .int .u32 g, .int .i64 r, .int .i64 c, .bool o, .slice A n cp])
      rw [sz_alloc] at hk1
      have HST := all_step HCM.out HI.out ho.out he.out hB.out hb.out (Nat.le_of_eq HRR.out.symm) HNW.out hWB
      have HAD := all_add HAp.out HCM.out hnd.out hmem.out hll.out
      by_cases hk : b0 = kind
      · subst hk
        have hk1' : (b0 == b0) = true := by simp
        have HA2 := Lib.hid (HAD.1)
        clear HAD
        have HGY : Hid (AR w2 A n l ∧ n ≤ 1000000) := Lib.hid ⟨(HCM.out.it.am.each _ HCM.out.mem).2.2.1, (HCM.out.it.am.each _ HCM.out.mem).2.2.2⟩
        have HS2 := Lib.hid HST
        have HW2 := Lib.hid hWB
        clear HST hWB
        go_upto_region 6 with fail
        generalize ((w2.alloc (.cells #[.int .i64 b0, .int .i64 b1, .int .u32 b2, .int .u32 b3, .int .u32 b4] 28)).alloc (.cells #[.int .i64 b0, .int .i64 b1, .int .u32 b2, .int .u32 b3, .int .u32 b4, .int .i64 a5, .int .i64 k, .int .u32 f, .int .u32 t, .int .u32 s, .int .u32 g, .int .i64 r, .int .i64 c, .bool o, .slice A n cp] 56)) = W3 at *
        have hC := Lib.hid (copied_raw b0 b1 b2 b3 b4 a5 k f t s g r c o A n cp l W3 (HGY.out.1.next HW2.out) HGY.out.2)
        have x0 : W3.cell? ⟨w2.heap.size + 1, 0, none⟩ = some (.int .i64 b0) := hk1.cell 0
        have x1 : W3.cell? ⟨w2.heap.size + 1, 1, none⟩ = some (.int .i64 b1) := hk1.cell 1
        have x2 : W3.cell? ⟨w2.heap.size + 1, 2, none⟩ = some (.int .u32 b2) := hk1.cell 2
        have x3 : W3.cell? ⟨w2.heap.size + 1, 3, none⟩ = some (.int .u32 b3) := hk1.cell 3
        have x4 : W3.cell? ⟨w2.heap.size + 1, 4, none⟩ = some (.int .u32 b4) := hk1.cell 4
        have x5 : W3.cell? ⟨w2.heap.size + 1, 5, none⟩ = some (.int .i64 a5) := hk1.cell 5
        have x6 : W3.cell? ⟨w2.heap.size + 1, 6, none⟩ = some (.int .i64 k) := hk1.cell 6
        have x7 : W3.cell? ⟨w2.heap.size + 1, 7, none⟩ = some (.int .u32 f) := hk1.cell 7
        have x8 : W3.cell? ⟨w2.heap.size + 1, 8, none⟩ = some (.int .u32 t) := hk1.cell 8
        have x9 : W3.cell? ⟨w2.heap.size + 1, 9, none⟩ = some (.int .u32 s) := hk1.cell 9
        have x10 : W3.cell? ⟨w2.heap.size + 1, 10, none⟩ = some (.int .u32 g) := hk1.cell 10
        have x11 : W3.cell? ⟨w2.heap.size + 1, 11, none⟩ = some (.int .i64 r) := hk1.cell 11
        have x12 : W3.cell? ⟨w2.heap.size + 1, 12, none⟩ = some (.int .i64 c) := hk1.cell 12
        have x13 : W3.cell? ⟨w2.heap.size + 1, 13, none⟩ = some (.bool o) := hk1.cell 13
        have x14 : W3.cell? ⟨w2.heap.size + 1, 14, none⟩ = some (.slice A n cp) := hk1.cell 14
        clear hk0 hk1 en
        go_wp2_with fail
        refine hC.out.mono ?_
        rintro e W4 ⟨A', c', rfl, har, hna, hb4⟩
        have HA4 := Lib.hid har
        have HN4 := Lib.hid hna
        have HB4 := Lib.hid hb4
        clear har hna hb4
        obtain ⟨i0, z0, hi, hz, hzs, hsz, hby⟩ := info_entry
        have hW5 : Below W3.heap.size W3 (W4.alloc (.cells #[.int .i64 b0, .int .i64 b1, .int .u32 b2, .int .u32 b3, .int .u32 b4, .int .i64 a5, .int .i64 k, .int .u32 f, .int .u32 t, .int .u32 s, .int .u32 g, .int .i64 r, .int .i64 c, .bool o, .slice A' n c'] 56)) := HB4.out.alloc HB4.out.size _
        have hnew := Blk.new W4 56 #[.int .i64 b0, .int .i64 b1, .int .u32 b2, .int .u32 b3, .int .u32 b4, .int .i64 a5, .int .i64 k, .int .u32 f, .int .u32 t, .int .u32 s, .int .u32 g, .int .i64 r, .int .i64 c, .bool o, .slice A' n c']
        have HO5 := Lib.hid (ownk_next HS2.out.1 hW5)
        have HE5 := Lib.hid (HS2.out.2.1.next hW5)
        have HB5 := Lib.hid (HS2.out.2.2.1.next hW5)
        have Hb5 := Lib.hid (HS2.out.2.2.2.1.trans (hW5.mono HS2.out.2.2.2.1.size))
        have HI5 := Lib.hid (HS2.out.2.2.2.2.next hW5)
        have HY5 : Hid (Ents (W4.alloc (.cells #[.int .i64 b0, .int .i64 b1, .int .u32 b2, .int .u32 b3, .int .u32 b4, .int .i64 a5, .int .i64 k, .int .u32 f, .int .u32 t, .int .u32 s, .int .u32 g, .int .i64 r, .int .i64 c, .bool o, .slice A' n c'] 56)) [⟨⟨(b0, b1, b2, b3, b4), a5, ⟨k, f, t, s, g, r, c, o, l⟩⟩, A', n, c'⟩]) := Lib.hid (fun z hz => by
          simp only [List.mem_singleton] at hz
          subst hz
          have hb6 : Below W4.heap.size W4 (W4.alloc (.cells #[.int .i64 b0, .int .i64 b1, .int .u32 b2, .int .u32 b3, .int .u32 b4, .int .i64 a5, .int .i64 k, .int .u32 f, .int .u32 t, .int .u32 s, .int .u32 g, .int .i64 r, .int .i64 c, .bool o, .slice A' n c'] 56)) := (Below.refl _ _).alloc (Nat.le_refl _) _
          exact ⟨HA4.out.next hb6, HGY.out.2, fun hn => by obtain ⟨q, cs, e1, _, e3⟩ := HN4.out hn; exact ⟨q, cs, e1, Nat.zero_le _, e3.next hb6⟩⟩)
        have HADD := Lib.hid (HA2.out A' c' n (by trivial))
        go_wp2_with (at_builtin; refine wpList_append_own_at _ rfl _ _ 51 rfl w.heap.size 56 i0 z0 15 112 Try.underlying51 hi hz hsz hby hzs (by decide) _ L.length (L.flatMap encE) (by rfl) HO5.out ⟨W4.heap.size, 0, none⟩ 1 1 (encE ⟨⟨(b0, b1, b2, b3, b4), a5, ⟨k, f, t, s, g, r, c, o, l⟩⟩, A', n, c'⟩) (by rfl) (by rfl) (fun j u hj => by rw [WideShapes.add_plain, Nat.zero_add, hnew.cell j]; simpa [encE] using hj) (encE_one _) (by unfold maxLen; omega) (by omega) (Hb5.out.size) ?_; intro v' w9 hown hg9 _ _; have HAP := Lib.hid (all_app HM.out HO5.out HE5.out HY5.out HB5.out Hb5.out HI5.out hg9 hown HADD.out); clear hown hg9)
        go_roundw
        case rel => exact Lib.hid HAP.out.1
        case measure =>
          rw [HAP.out.2, HI.out.left_eq]
          exact cnt_push HCM.out.mem HCM.out.new
      · have hk1' : (b0 == kind) = false := by simpa using hk
        have HA2 := Lib.hid (HAD.2 hk)
        have HS2 := Lib.hid HST
        clear HAD HST hWB hk0 hk1
        go_wp2_with fail
        refine ⟨Lib.hid ⟨S.push nb, L, HS2.out.2.2.2.2, HS2.out.1, HS2.out.2.1, HS2.out.2.2.1, HS2.out.2.2.2.1, hnd.out, HA2.out.1, HA2.out.2⟩, ?_⟩
        rw [HS2.out.2.2.2.2.left_eq, HI.out.left_eq]
        exact cnt_push HCM.out.mem HCM.out.new
set_option maxRecDepth 100000 in
theorem all_none (w : World) (N : Nat) (kind : Int) (hN : Blk w N 33 #[.map none]) :
    Calls Try.prog 17 #[.pointer (some ⟨N, 0, none⟩), .int .i64 kind] w fun e w' => e = .returned (.slice none 0 0) ∧ Below w.heap.size w w' := by
  have hc : w.cell? ⟨N, 0, none⟩ = some (.map none) := by simpa using hN.cell 0
  have hrg := run_range_nilMap (P := Try.prog) w 31 28 56 Try.underlying31
  have hnx : ∀ ty, (Instr.next (.pointer (some ⟨w.heap.size, 0, none⟩)) false ty).run Try.prog (w.alloc (.mapIter none 0 #[] 0)) = _ := fun ty => run_next_nilMap _ ty 0 0 #[]
  have hlt := hN.lt
  go_enter Try.func17, Try.ntmps17
  go_wp2
  refine wp_loop_rounds 1 ?_
  rw [rounds_succ]
  go_wp2_with (go_at_call 28; refine (AnyF.slices_SortFunc_none Try.sortE none 0 (.func (.func 29) #[] #[]) _).mono ?_; rintro e w3 ⟨rfl, rfl⟩)
  go_ret
  exact ⟨rfl, (Below.refl _ _).alloc (Nat.le_refl _) _⟩
theorem all_any (w : World) (N : Nat) (mb : Option Nat) (T : Row) (kind : Int) (h : TB w N mb T) (hlen : T.length ≤ 100000) :
    Calls Try.prog 17 #[.pointer (some ⟨N, 0, none⟩), .int .i64 kind] w fun e w' => ∃ (A : Option Addr) (c : Nat) (L : List Ex), e = .returned (.slice A L.length c) ∧ RI encE 15 w' A L.length L ∧ Ents w' L ∧ AllOf T kind (L.map (·.e)) ∧ Below w.heap.size w w' := by
  rcases h.map with ⟨rfl, rfl⟩ | ⟨b, clock, rfl, hm⟩
  · refine (all_none w N kind h.box).mono ?_
    rintro e w' ⟨rfl, hb⟩
    exact ⟨none, 0, [], rfl, RI.none_ _ _ _ _, (fun y hy => by cases hy), ⟨List.Pairwise.nil, fun e => by simp⟩, hb⟩
  · exact all_some w N b clock T kind h.box hm hlen
end Go.Proofs.Ytnnppoamdllebaa

