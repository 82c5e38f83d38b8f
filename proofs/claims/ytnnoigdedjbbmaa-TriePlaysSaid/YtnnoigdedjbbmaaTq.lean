/- Package trie's Put, over the seat's program. -/
import Derived.Test.YtnnoigdedjbbmaaTr
namespace Go.Proofs.Ytnnoigdedjbbmaa
open Go.RowKit
/-- an entry taken, as a step of a region that draws -/
theorem step_entry {P : Program} (w : World) {ops : Array Oper} {o : Oper} {a : Act} {K : Act → World → Prop} {Q : Exit → Act → World → Prop} {E : Prop} (hgd : o.guard = none) (m k : Operand) (t : TypeId)
    (ho : o.op = .mapEntry t m k) (vm vk v : Value) (w1 : World) (hm : a.eval m = vm) (hk : a.eval k = vk) (hr : (Instr.mapEntry t vm vk).run P w = .ok v w1) (h : K (a.put o.dst v) w1) :
    if Region.wanted o (yielded ops a.tmps) = true then Oper.wp P o a w K Q else E := by
  rw [if_pos (by simp [Region.wanted, hgd])]
  simp only [Oper.wp, execOp, ho, Sem.run_bind, Sem.run_pure, Result.andThen_ok, hm, hk, hr]
  exact h
theorem step_estore {P : Program} (w : World) {ops : Array Oper} {o : Oper} {a : Act} {K : Act → World → Prop} {Q : Exit → Act → World → Prop} {E : Prop} (hgd : o.guard = none) (m k x : Operand) (t : TypeId)
    (ho : o.op = .entryStore t m k x) (vm vk v : Value) (w1 : World) (hm : a.eval m = vm) (hk : a.eval k = vk) (hx : a.eval x = v) (hr : (Instr.entryStore t vm vk v).run P w = .ok () w1) (h : K (a.put o.dst undef) w1) :
    if Region.wanted o (yielded ops a.tmps) = true then Oper.wp P o a w K Q else E := by
  rw [if_pos (by simp [Region.wanted, hgd])]
  simp only [Oper.wp, execOp, ho, Sem.run_bind, Sem.run_pure, Result.andThen_ok, hm, hk, hx, hr]
  exact h
/-- a trie's blocks but the variable's own -/
def Rest (F : Nat → Prop) (N : Nat) (i : Nat) : Prop := F i ∧ i ≠ N
theorem Off.drew {F : Nat → Prop} {w w' : World} (h : Off F w w') : Off F w w'.drew := ⟨h.os, h.tape, h.output, h.size, h.block⟩
theorem Off.alloc {F : Nat → Prop} {w w' : World} (h : Off F w w') (o : Obj) : Off F w (w'.alloc o) :=
  ⟨h.os, h.tape, h.output, Nat.le_trans h.size (by simp), fun i hi hn => (Below.heap_alloc _ _ _ (Nat.lt_of_lt_of_le hi h.size)).trans (h.block i hi hn)⟩
theorem Off.cell {F : Nat → Prop} {w w' : World} (h : Off F w w') {p : Addr} (hp : p.block < w.heap.size) (hn : ¬ F p.block) : w'.cell? p = w.cell? p := World.cell?_of_block (h.block _ hp hn)
def Tr.putv (L : Tr.Row) (p : Tr.Pf) (x : Int) : Tr.Row := if Ad.valid p.1 p.2 = true then Tr.put L p x else L
def PutPost (w : World) (F : Nat → Prop) (N : Nat) (L : Tr.Row) (w' : World) : Prop := ∃ F', TR w' F' N L ∧ Off F w w' ∧ ∀ i, F' i → F i ∨ w.heap.size ≤ i
theorem PutPost.after {w w1 w2 : World} {F F1 : Nat → Prop} {N : Nat} {L : Tr.Row} (h : PutPost w1 F1 N L w2) (h0 : Off F w w1) (hF : ∀ i, F1 i → F i ∨ w.heap.size ≤ i) : PutPost w F N L w2 := by
  obtain ⟨F', h1, h2, h3⟩ := h
  refine ⟨F', h1, h0.trans h2 (fun i hi h => (hF i h).resolve_right (by omega)), fun i hi => ?_⟩
  rcases h3 i hi with h | h
  · exact hF i h
  · exact .inr (Nat.le_trans h0.size h)
/-- a trie that has a map, ahead of a put -/
structure PB (w1 : World) (F : Nat → Prop) (N b : Nat) (L : Tr.Row) (p : Tr.Pf) : Prop where
  own : F N
  lt : ∀ i, F i → i < w1.heap.size
  var : Blk w1 N 31 #[.map (some b)]
  ne : b ≠ N
  map : MR w1 F b L
  wf : wfP p
  few : L.length ≤ 1000000
  short : ((Tr.get L p).getD []).length ≤ 1000000
section
variable {w1 W : World} {F : Nat → Prop} {N b : Nat} {L : Tr.Row} {p : Tr.Pf} {x : Int} {ops : Array Oper} {o : Oper} {a : Act} {K : Act → World → Prop} {Q : Exit → Act → World → Prop} {E : Prop}
theorem PB.inb (B : PB w1 F N b L p) : F b := by obtain ⟨_, _, h⟩ := B.map; exact h.own
theorem PB.apart (B : PB w1 F N b L p) : Tr.Apart L := by obtain ⟨_, _, h⟩ := B.map; exact h.apartL
theorem PB.next {w2 : World} (B : PB w1 F N b L p) (hb : Below w1.heap.size w1 w2) : PB w2 F N b L p := by
  obtain ⟨h1, h2, h3, h4, ⟨es, clock, h5⟩, h6, h7, h8⟩ := B
  exact ⟨h1, fun i hi => Nat.lt_of_lt_of_le (h2 i hi) hb.size, h3.next hb, h4, ⟨es, clock, h5.kept (fun i hi => hb.block i (h2 i hi)) (fun _ h => h)⟩, h6, h7, h8⟩
theorem PB.entry (B : PB w1 F N b L p) (hW : Below w1.heap.size w1 W) : ∃ (v0 : Value) (st : Nat) (w2 : World) (xs : List Int), (Instr.mapEntry 29 (.map (some b)) (pv p)).run Try.prog W = .ok (.tuple #[v0, .int .i64 st]) w2 ∧
    ME w2 F b (ent L p) p v0 st xs ∧ Off (Rest F N) w1 w2 ∧ W.grownBy w2 (some b) ∧ w2.heap.size = W.heap.size := by
  obtain ⟨v0, st, w2, xs, hrun, hME, hgr, hsz⟩ := (B.next hW).map.entry B.wf (by have := B.few; unfold maxLen; omega)
  exact ⟨v0, st, w2, xs, hrun, hME, (Off.of_below (Rest F N) hW).trans (Off.of_grown (F := Rest F N) hgr (fun g hg => by cases hg; exact ⟨B.inb, B.ne⟩)) (fun _ _ h => h), hgr, hsz⟩
/-- what an append to an entry's row leaves -/
structure AP (w1 W W' : World) (F : Nat → Prop) (N : Nat) (v0 v' : Value) (xs : List Int) (x : Int) : Prop where
  row : W'.ownsRow 0 3 1 v' (xs.length + 1) (I64 (xs ++ [x]))
  grown : W.grownBy W' v0.ownBlock
  loc : v'.ownBlock = v0.ownBlock ∨ ∃ g, v'.ownBlock = some g ∧ W.heap.size ≤ g
  off : Off (Rest F N) w1 W'
theorem PB.short_ent (B : PB w1 F N b L p) {w2 : World} {v0 : Value} {st : Nat} {xs : List Int} (h : ME w2 F b (ent L p) p v0 st xs) : xs.length ≤ 1000000 ∧ ∃ j : Nat, (ent L p)[j]? = some (p, xs) := by
  obtain ⟨es, clock, h1, j, e0, he, hL, _⟩ := h
  exact ⟨by rw [← (put_ent B.apart hL 0).2]; exact B.short, j, hL⟩
theorem step_appT (B : PB w1 F N b L p) {v0 : Value} {st : Nat} {xs : List Int} (hME : ME W F b (ent L p) p v0 st xs) (hS : Off (Rest F N) w1 W) (hgd : o.guard = none) (s y : Operand)
    (ho : o.op = .call { callee := .builtin .append, args := #[s, y], argTypes := #[39, 39] }) (hs : a.eval s = v0) (g c : Nat) (hy : a.eval y = .slice (some ⟨g, 0, none⟩) 1 c)
    (hc : W.cell? ⟨g, 0, none⟩ = some (.int .i64 x))
    (h : ∀ v' W', AP w1 W W' F N v0 v' xs x → K (a.put o.dst v') W') :
    if Region.wanted o (yielded ops a.tmps) = true then Oper.wp Try.prog o a W K Q else E := by
  rw [if_pos (by simp [Region.wanted, hgd])]
  obtain ⟨i0, hi, hz0, hz1, hz2⟩ := info_parts info_int
  obtain ⟨hrow, hF⟩ := hME.own
  have hsh := (B.short_ent hME).1
  obtain ⟨v', W', hr, h2, h3, _, h5⟩ := run_append_own_at (P := Try.prog) W 0 39 o.type 3 i0 (.int .i64 0) 1 8 Try.underlying39 hi hz0 hz1 hz2 rfl (by decide) v0 xs.length (I64 xs) hrow ⟨g, 0, none⟩ 1 c [.int .i64 x] rfl
    (fun j u hj => by
      match j, hj with
      | 0, hj => simp at hj; subst hj; simpa [Addr.add] using hc) (by intro u hu; simp at hu; subst hu; rfl) (by unfold maxLen; omega) (by omega) (Nat.zero_le _)
  have hk := h v' W' ⟨by rw [I64_app]; exact h2, h3, h5.imp_right (fun e => ⟨_, e, Nat.le_refl _⟩), hS.trans (Off.of_grown (F := Rest F N) h3 (fun g hg => ⟨hF g hg, fun e => ?_⟩)) (fun _ _ h => h)⟩
  · simp only [Oper.wp, execOp, ho, resolve, invoke, builtin, Sem.run_bind, Sem.run_pure, Result.andThen_ok, List.map_toArray, List.map_cons, List.map_nil, hs, hy, hr]
    exact hk
  · subst e
    have hN : W.heap[g]? = w1.heap[g]? := hS.block g (B.lt g B.own) (fun h => h.2 rfl)
    rcases hrow.2 with ⟨hv, _⟩ | ⟨g', cap, cur, hv, _, hh, _⟩
    · rw [hv] at hg; simp [Value.ownBlock] at hg
    · rw [hv] at hg
      simp [Value.ownBlock] at hg
      subst hg
      have hV := B.var
      unfold Blk at hV
      rw [hN, hV] at hh
      simp at hh
/-- the world behind a store at an entry -/
noncomputable def stw (b st : Nat) (v' : Value) (W : World) : World := match (Instr.entryStore 29 (.map (some b)) (.int .i64 st) v').run Try.prog W with | .ok _ w => w | _ => W
theorem PB.store (B : PB w1 F N b L p) {W0 : World} {v0 v' : Value} {st : Nat} {xs : List Int} (hME : ME W0 F b (ent L p) p v0 st xs) (hS : Off (Rest F N) w1 W0) (hA : AP w1 W0 W F N v0 v' xs x) :
    (Instr.entryStore 29 (.map (some b)) (.int .i64 st) v').run Try.prog W = .ok () (stw b st v' W) ∧ Off (Rest F N) w1 (stw b st v' W) ∧ PutPost w1 F N (Tr.put L p x) (stw b st v' W) := by
  have hlt : ∀ i, F i → i < W0.heap.size := fun i hi => Nat.lt_of_lt_of_le (B.lt i hi) hS.size
  obtain ⟨W', hrun, ⟨j, hj, hM⟩, hgr, hsz⟩ := hME.store (F' := fun i => F i ∨ (w1.heap.size ≤ i ∧ i < W.heap.size)) hA.grown hA.row hA.loc hlt (fun i h => .inl h) (fun i h h2 => .inr ⟨Nat.le_trans hS.size h, h2⟩)
  rw [← (put_ent B.apart hj x).1] at hM
  have hrun' : (Instr.entryStore 29 (.map (some b)) (.int .i64 st) v').run Try.prog W = .ok () W' := hrun
  have he : stw b st v' W = W' := by unfold stw; rw [hrun']
  rw [he]
  have hO : Off (Rest F N) w1 W' := hA.off.trans (Off.of_grown (F := Rest F N) hgr (fun g hg => by cases hg; exact ⟨B.inb, B.ne⟩)) (fun _ _ h => h)
  refine ⟨hrun', hO, _, ⟨.inl B.own, ?_, _, ?_, .inr ⟨b, rfl, B.ne, hM⟩⟩, ?_, ?_⟩
  · intro i hi
    rw [hsz]
    rcases hi with hi | hi
    · exact Nat.lt_of_lt_of_le (B.lt i hi) hA.off.size
    · exact hi.2
  · exact (hO.block N (B.lt N B.own) (fun h => h.2 rfl)).trans B.var
  · exact ⟨hO.os, hO.tape, hO.output, hO.size, fun i hi hn => hO.block i hi (fun h => hn h.1)⟩
  · intro i hi
    rcases hi with hi | hi
    · exact .inl hi
    · exact .inr hi.1
end
theorem PB.fresh {w w1 : World} {F : Nat → Prop} {N : Nat} {p : Tr.Pf} (h : TR w F N []) (hv : Blk w N 31 #[.map none]) (hb : Below w.heap.size w w1) (hp : wfP p) :
    PB ((w1.setCell ⟨N, 0, none⟩ (.map (some w1.heap.size))).alloc (.map #[] 0)) (fun i => F i ∨ i = w1.heap.size) N w1.heap.size [] p ∧ Off F w ((w1.setCell ⟨N, 0, none⟩ (.map (some w1.heap.size))).alloc (.map #[] 0)) := by
  have hN : N < w1.heap.size := Nat.lt_of_lt_of_le (h.lt N h.own) hb.size
  have hne : w1.heap.size ≠ N := by omega
  have hz : ((w1.setCell ⟨N, 0, none⟩ (.map (some w1.heap.size))).alloc (.map #[] 0)).heap.size = w1.heap.size + 1 := by simp
  refine ⟨⟨.inl h.own, fun i hi => ?_, ((hv.next hb).set_to 0 _ rfl).alloc _, hne, ⟨#[], 0, .inr rfl, ?_, ⟨by simp, MapKept.stamped_empty 0, by simp⟩, rfl, by simp, by simp⟩, hp, by simp, by simp [Tr.get]⟩, ?_⟩
  · rw [hz]
    rcases hi with hi | hi
    · have := h.lt i hi; have := hb.size; omega
    · omega
  · have := (MapKept.heap_alloc (w1.setCell ⟨N, 0, none⟩ (.map (some w1.heap.size))) (.map #[] 0)).1
    simpa using this
  · exact ⟨hb.os, hb.tape, hb.output, by rw [hz]; have := hb.size; omega, fun i hi hn => by
      rw [Below.heap_alloc _ _ _ (by have := hb.size; simp; omega), Below.heap_setCell _ _ _ _ (by simp; intro e; exact hn (e ▸ h.own))]
      exact hb.block i hi⟩
set_option maxHeartbeats 1000000 in
theorem put_any (w : World) (F : Nat → Prop) (N : Nat) (L : Tr.Row) (a n x : Int) (h : TR w F N L) (hp : wfP (a, n)) (hL : L.length ≤ 1000000) (hx : ((Tr.get L (a, n)).getD []).length ≤ 1000000) :
    Calls Try.prog 7 #[.pointer (some ⟨N, 0, none⟩), .agg #[.int .u32 a, .int .i64 n], .int .i64 x] w fun e w' => e = .returned (.bool (Ad.valid a n)) ∧ PutPost w F N (Tr.putv L (a, n) x) w' := by
  have q29 := fun (w : World) (r : Option Nat) => Go.run_eql_map_nil w 29 27 39 r Try.underlying29
  have g1 := hp.1
  have hB1 : Below w.heap.size w (w.alloc (.cells #[.int .u32 a, .int .i64 n] 27)) := (Below.refl _ _).alloc (Nat.le_refl _) _
  by_cases hv : Ad.valid a n = true
  · have HV := Lib.hid hv
    obtain ⟨m, hm, hcase⟩ := h.var
    have HL := Lib.hid (show Tr.putv L (a, n) x = Tr.put L (a, n) x by unfold Tr.putv; rw [if_pos hv])
    have HH := Lib.hid h
    have HB := Lib.hid hB1
    have HBn : Hid (∀ w1, Below (w.alloc (.cells #[.int .u32 a, .int .i64 n] 27)).heap.size (w.alloc (.cells #[.int .u32 a, .int .i64 n] 27)) w1 → w.heap.size < w1.heap.size ∧ w1.cell? ⟨w.heap.size, 0, none⟩ = some (.int .u32 a) ∧ w1.cell? ⟨w.heap.size, 1, none⟩ = some (.int .i64 n) ∧ Below w.heap.size w w1) :=
      Lib.hid fun w1 hb => ⟨by have := hb.size; simp at this; omega, (hb.cell (p := ⟨w.heap.size, 0, none⟩) (by simp)).trans (by go_simp), (hb.cell (p := ⟨w.heap.size, 1, none⟩) (by simp)).trans (by go_simp), hB1.trans (hb.mono hB1.size)⟩
    clear hv hB1
    rcases hcase with ⟨rfl, rfl⟩ | ⟨b, rfl, hbN, hM⟩
    · clear h
      go_enter Try.func7, Try.ntmps7
      go_wp2_with fail
      refine (valid_any a n _ g1.1 g1.2).mono ?_
      rintro e w1 ⟨rfl, hb1⟩
      rw [HV.out]
      obtain ⟨hw1, d1, d2, hB2⟩ := HBn.out w1 hb1
      obtain ⟨B, hO⟩ := PB.fresh HH.out hm hB2 hp
      have e0 : w1.cell? ⟨N, 0, none⟩ = some (.map none) := by simpa using (hm.next hB2).cell 0
      have e1 := (hm.next hB2).frozen 0
      have hN : N < w1.heap.size := (hm.next hB2).lt
      have hmm := @run_makeMap Try.prog
      have hz : w1.heap.size < ((w1.setCell ⟨N, 0, none⟩ (.map (some w1.heap.size))).alloc (.map #[] 0)).heap.size := by simp
      have d1' : ((w1.setCell ⟨N, 0, none⟩ (.map (some w1.heap.size))).alloc (.map #[] 0)).cell? ⟨w.heap.size, 0, none⟩ = some (.int .u32 a) := by
        have := HH.out.lt N HH.out.own
        go_simp
      have d2' : ((w1.setCell ⟨N, 0, none⟩ (.map (some w1.heap.size))).alloc (.map #[] 0)).cell? ⟨w.heap.size, 1, none⟩ = some (.int .i64 n) := by
        have := HH.out.lt N HH.out.own
        go_simp
      clear d1 d2 hm
      go_wp2_with fail
      obtain ⟨F1, hF1⟩ : ∃ F1 : Nat → Prop, F1 = fun i => F i ∨ i = w1.heap.size := ⟨_, rfl⟩
      have hsub : ∀ i, F1 i → F i ∨ w.heap.size ≤ i := fun i h => by
        rw [hF1] at h
        exact h.imp_right (by omega)
      have hnF : ¬ Rest F1 N w.heap.size := fun h => by
        have h := h.1
        rw [hF1] at h
        rcases h with h | h
        · have := HH.out.lt _ h; omega
        · omega
      rw [← hF1] at B
      have hw3 := Nat.lt_trans hw1 hz
      clear hw1 hz hN e0 e1 hmm hb1 hB2 hF1
      generalize ((w1.setCell ⟨N, 0, none⟩ (.map (some w1.heap.size))).alloc (.map #[] 0)) = w3 at *
      generalize w1.heap.size = b at *
      have d1 := d1'
      have d2 := d2'
      clear d1' d2'
      have c0 : ∀ W, Off (Rest F1 N) w3 W → W.cell? ⟨N, 0, none⟩ = some (.map (some b)) := fun W hW => (hW.cell (B.lt N B.own) (fun h => h.2 rfl)).trans (by simpa using B.var.cell 0)
      have c1 : ∀ W, Off (Rest F1 N) w3 W → W.cell? ⟨w.heap.size, 0, none⟩ = some (.int .u32 a) := fun W hW => (hW.cell hw3 hnF).trans d1
      have c2 : ∀ W, Off (Rest F1 N) w3 W → W.cell? ⟨w.heap.size, 1, none⟩ = some (.int .i64 n) := fun W hW => (hW.cell hw3 hnF).trans d2
      have hS := Off.refl (Rest F1 N) w3
      have hb3 : Below w3.heap.size w3 (w3.alloc (.cells #[.int .i64 x] 3)).drew := ((Below.refl _ _).alloc (Nat.le_refl _) _).drew
      obtain ⟨v0, st, w2, xs, hrun, hME, hS2, hgr, hsz⟩ := B.entry hb3
      have hx2 : w2.cell? ⟨w3.heap.size, 0, none⟩ = some (.int .i64 x) := hgr.cell (by go_simp) (fun e => by have := B.lt _ B.inb; simp at e; omega)
      have hst : ∀ W v', AP w3 w2 W F1 N v0 v' xs x → (Instr.entryStore 29 (.map (some b)) (.int .i64 st) v').run Try.prog W = .ok () (stw b st v' W) := fun W v' h => (B.store hME hS2 h).1
      have HM := Lib.hid hME
      unfold pv at hrun
      clear hnF hw3 d1 d2 hb3 hgr hsz hME
      go_wp2_with fail
      go_region_held3 (fun W' => Off (Rest F1 N) w3 W') (first | exact hS.drew | with_reducible assumption | exact Off.drew (Off.alloc (by with_reducible assumption) _) | exact (B.store HM.out hS2 hAP).2.1)
       (first
        | (refine step_appT B HM.out (by with_reducible assumption) (by rfl) _ _ (by rfl) (by rfl) _ _ (by rfl) hx2 ?_; intro v1 w3 hAP; have hS3 := hAP.off))
      go_wp2
      go_ret
      rw [HV.out, HL.out]
      exact ⟨rfl, ((B.store HM.out hS2 hAP).2.2).after hO hsub⟩
    · have HP : Hid (∀ w1, Below w.heap.size w w1 → PB w1 F N b L (a, n)) := Lib.hid fun w1 hb => (PB.mk h.own h.lt hm hbN hM hp hL hx : PB w F N b L (a, n)).next hb
      clear hm h hM
      go_enter Try.func7, Try.ntmps7
      go_wp2_with fail
      refine (valid_any a n _ g1.1 g1.2).mono ?_
      rintro e w1 ⟨rfl, hb1⟩
      rw [HV.out]
      obtain ⟨hw1, d1, d2, hB2⟩ := HBn.out w1 hb1
      have B := HP.out w1 hB2
      have c0 : ∀ W, Off (Rest F N) w1 W → W.cell? ⟨N, 0, none⟩ = some (.map (some b)) := fun W hW => (hW.cell (B.lt N B.own) (fun h => h.2 rfl)).trans (by simpa using B.var.cell 0)
      have hnF : ¬ Rest F N w.heap.size := fun h => by have := HH.out.lt _ h.1; omega
      have c1 : ∀ W, Off (Rest F N) w1 W → W.cell? ⟨w.heap.size, 0, none⟩ = some (.int .u32 a) := fun W hW => (hW.cell hw1 hnF).trans d1
      have c2 : ∀ W, Off (Rest F N) w1 W → W.cell? ⟨w.heap.size, 1, none⟩ = some (.int .i64 n) := fun W hW => (hW.cell hw1 hnF).trans d2
      have hS := Off.refl (Rest F N) w1
      have hb3 : Below w1.heap.size w1 (w1.alloc (.cells #[.int .i64 x] 3)).drew := ((Below.refl _ _).alloc (Nat.le_refl _) _).drew
      obtain ⟨v0, st, w2, xs, hrun, hME, hS2, hgr, hsz⟩ := B.entry hb3
      have hx2 : w2.cell? ⟨w1.heap.size, 0, none⟩ = some (.int .i64 x) := hgr.cell (by go_simp) (fun e => by have := B.lt _ B.inb; simp at e; omega)
      have hst : ∀ W v', AP w1 w2 W F N v0 v' xs x → (Instr.entryStore 29 (.map (some b)) (.int .i64 st) v').run Try.prog W = .ok () (stw b st v' W) := fun W v' h => (B.store hME hS2 h).1
      have HM := Lib.hid hME
      unfold pv at hrun
      clear hnF hw1 d1 d2 hb1 hb3 hgr hsz hME
      go_wp2_with fail
      go_region_held3 (fun W' => Off (Rest F N) w1 W') (first | exact hS.drew | with_reducible assumption | exact Off.drew (Off.alloc (by with_reducible assumption) _) | exact (B.store HM.out hS2 hAP).2.1)
       (first
        | (refine step_appT B HM.out (by with_reducible assumption) (by rfl) _ _ (by rfl) (by rfl) _ _ (by rfl) hx2 ?_; intro v1 w3 hAP; have hS3 := hAP.off))
      go_wp2
      go_ret
      rw [HV.out, HL.out]
      exact ⟨rfl, ((B.store HM.out hS2 hAP).2.2).after (Off.of_below F hB2) (fun i h => .inl h)⟩
  · have hv' : Ad.valid a n = false := by simpa using hv
    have HV := Lib.hid hv'
    have HL := Lib.hid (show Tr.putv L (a, n) x = L by unfold Tr.putv; rw [if_neg hv])
    have HH := Lib.hid h
    have HB := Lib.hid hB1
    clear hv hv' h hB1
    go_enter Try.func7, Try.ntmps7
    go_wp2_with fail
    refine (valid_any a n _ g1.1 g1.2).mono ?_
    rintro e w1 ⟨rfl, hb1⟩
    rw [HV.out]
    go_wp2
    go_ret
    have hb := HB.out.trans (hb1.mono HB.out.size)
    rw [HL.out, HV.out]
    exact ⟨rfl, F, HH.out.next hb, Off.of_below F hb, fun i hi => .inl hi⟩
end Go.Proofs.Ytnnoigdedjbbmaa

