/- Plain facts of a router's step, and of its way; rpf over a light network; over the seat's program. -/
import Derived.Test.YtojahaphkjdenaaGreatDoorTn
import Derived.Test.YtojahaphkjdenaaGreatDoorUn
import Derived.Test.YtojahaphkjdenaaGreatDoorRpf
import Derived.Test.YtojahaphkjdenaaGreatDoorRg
namespace Go.Proofs.YtojahaphkjdenaaGreatDoor
open Go.RowKit Lx Sm Go.Maps
theorem elemI : Elem Tryz.prog 45 3 CInt 1 8 := ⟨Tryz.underlying45, (by obtain ⟨i0, hi, hz0, hz1, hz2⟩ := info_parts info_int; exact ⟨_, _, hi, hz0, hz1, hz2, rfl⟩), fun _ => rfl, tint_one, by decide, by decide⟩
theorem I64_flat : ∀ xs : List Int, xs.flatMap CInt = I64 xs
  | [] => rfl
  | x :: xs => by
    rw [List.flatMap_cons, I64_flat xs]
    rfl
/-- an append of any numbers behind a row of the call's own, guarded or not -/
theorem wpList_app_jr {w : World} {ops : Array Oper} {rest : List Oper} {o : Oper} {a : Act} {Q : Exit → Act → World → Prop} (hgd : Region.wanted o (yielded ops a.tmps) = true) (s x : Operand)
    (ho : o.op = .call { callee := .builtin .append, args := #[s, x], argTypes := #[45, 45] })
    (base : Nat) (v : Value) (n : Nat) (xs : List Int) (hs : a.eval s = v) (hown : w.ownsRow base 3 1 v n (I64 xs))
    (A : Option Addr) (m c : Nat) (ys : List Int) (hx : a.eval x = .slice A m c) (hj : JR w A m ys) (hn : n ≤ 1048576) (hm : m ≤ 1048576) (hbase : base ≤ w.heap.size)
    (h : ∀ v' w', w'.ownsRow base 3 1 v' (n + m) (I64 (xs ++ ys)) → Below base w w' → wpList Tryz.prog ops Q rest (a.put o.dst v') w') : wpList Tryz.prog ops Q (o :: rest) a w := by
  have hri : RI CInt 1 w A m ys := hj.ir
  obtain ⟨v', w', hr, h2, h3, _⟩ := run_items elemI w base o.type v n xs (by rw [I64_flat]; exact hown) A m c ys hri hn hm hbase
  rw [I64_flat] at h2
  have hk := h v' w' h2 h3
  unfold wpList
  rw [if_pos hgd]
  refine .inl ?_
  unfold Oper.wp execOp
  simp only [ho, resolve, invoke, builtin, Sem.run_bind, Sem.run_pure, Result.andThen_ok, List.map_toArray, List.map_cons, List.map_nil, hs, hx, hr]
  exact hk
theorem jsame_self (A B : Option Addr) (n m c d : Nat) (xs : List Int) (w : World) (h : JR w A n xs) (g : JR w B m xs) (hn : xs.length ≤ 1000) :
    Calls Tryz.prog 22 #[.slice A n c, .slice B m d] w fun e w' => e = .returned (.bool true) ∧ Below w.heap.size w w' := by
  have := jsame_any A B n m c d xs xs w h g (by have := h.1; omega) (by have := g.1; omega)
  rwa [decide_eq_true rfl] at this
theorem lcode_ok {y : List UInt8 × Int × Int} {ah : List (List UInt8 × Int × Int)} (h : lcode y ah = 0) : Ad.valid y.2.1 y.2.2 = true := by
  unfold lcode at h
  split at h
  · cases h
  · split at h
    · cases h
    · split at h
      · cases h
      · rename_i h2; simpa using h2
theorem ocode_ok {n : Nat} {y : Int × Int × Int × Int × Int} (h : ocode n y = 0) : 0 ≤ y.1 ∧ y.1 < n ∧ Ad.valid y.2.1 y.2.2.1 = true ∧ costOk y.2.2.2.2 = true := by
  unfold ocode at h
  split at h
  · cases h
  · rename_i h0
    split at h
    · cases h
    · rename_i h1
      split at h
      · cases h
      · rename_i h2
        have := plOk_lt h0
        exact ⟨this.1, this.2, by simpa using h1, by simpa using h2⟩
theorem lt_ls {x : Cfg} (k : LtOK x) : ∀ y ∈ x.ls, Ad.valid y.2.1 y.2.2 = true := fun y hy => by
  obtain ⟨ah, he⟩ := atc_all (v_parts k.v).2.1 hy
  exact lcode_ok he
theorem lt_os {x : Cfg} (k : LtOK x) : ∀ y ∈ x.os, 0 ≤ y.1 ∧ y.1 < x.rs.length ∧ Ad.valid y.2.1 y.2.2.1 = true ∧ 0 ≤ y.2.2.2.2 ∧ y.2.2.2.2 ≤ 65535 := fun y hy => by
  obtain ⟨ah, he⟩ := atc_all (v_parts k.v).2.2.2.1 hy
  have := ocode_ok he
  have h4 := this.2.2.2
  unfold costOk at h4
  simp only [decide_eq_true_eq] at h4
  exact ⟨this.1, this.2.1, this.2.2.1, by omega, by omega⟩
theorem lt_ribok {x : Cfg} (k : LtOK x) : RibOK x := by
  refine ⟨fun y hy => ?_, fun y hy => (k.po y hy).2.2, fun y hy => ?_, fun y hy => (lt_os k y hy).2.2.2⟩
  · have := lt_ls k y hy
    unfold Ad.valid at this
    simp only [decide_eq_true_eq] at this
    omega
  · have := (lt_os k y hy).2.2.1
    unfold Ad.valid at this
    simp only [decide_eq_true_eq] at this
    omega
theorem toA_al {x x' : Cfg} (k : Alike x x') (r a : Int) : toA x' r a = toA x r a := by
  unfold toA mine upN portAt
  rw [lookA_same k, portsOf_alike k, k.p]
theorem nextP_al {x x' : Cfg} (k : Alike x x') (a : Int) : (fun q => nextP x' q a) = fun q => nextP x q a := by
  funext q
  unfold nextP portAt
  rw [toA_al k, k.p]
theorem chainA_al {x x' : Cfg} (k : Alike x x') (r a : Int) : chainA x' r a = chainA x r a := by
  unfold chainA
  rw [toA_al k, nextP_al k, k.r]
section
variable {b : Nat} {T : TP} {x x' : Cfg} {gs : List Int}
theorem to_al (r a : Int) (ha : U32 a) (w : World) (h : TW w b T x' gs) (k : Alike x x') (o : LtOK x) :
    Calls Tryz.prog 43 #[.pointer (some ⟨T.N, 0, none⟩), .int .i64 r, .int .u32 a] w fun e w' => e = .returned (.tuple #[.agg #[.int .i64 (toA x r a).1.1, .int .i64 (toA x r a).1.2.1, .int .i64 (toA x r a).1.2.2.1, .bool (toA x r a).1.2.2.2], .bool (toA x r a).2]) ∧ Below w.heap.size w w' := by
  have := to_any r a ha w h (by rw [k.r]; exact o.rn) (by rw [k.l]; exact o.ln) ((lt_ribok o).alike k)
  rw [toA_al k] at this
  exact this
theorem chain_al (r a : Int) (ha : U32 a) (w : World) (h : TW w b T x' gs) (k : Alike x x') (o : LtOK x) :
    Calls Tryz.prog 46 #[.pointer (some ⟨T.N, 0, none⟩), .int .i64 r, .int .u32 a] w fun e w' => ∃ A c, e = .returned (.tuple #[.slice A (chainA x r a).1.length c, .bool (chainA x r a).2]) ∧ JR w' A (chainA x r a).1.length (chainA x r a).1 ∧ Below w.heap.size w w' := by
  have := chain_any r a ha w h (by rw [k.r]; exact o.rn) (by rw [k.l]; exact o.ln) ((lt_ribok o).alike k) (by rw [k.p, k.r]; exact fun y hy => ⟨(o.po y hy).1, (o.po y hy).2.1⟩) (by rw [k.r]; have := o.rl; omega)
  rw [chainA_al k] at this
  exact this
end
theorem look_cost {x : Cfg} {r : Int} (hc : ∀ y ∈ x.os, 0 ≤ y.2.2.2.2 ∧ y.2.2.2.2 ≤ 65535) : ∀ (k : Nat) (a v c : Int) (q : Int × Int × Int), 0 ≤ c → c ≤ 65535 → lookP x r k a v c = some q → 0 ≤ q.2.2 ∧ q.2.2 ≤ 65535
  | 0, _, _, _, _, _, _, h => by cases h
  | k + 1, a, v, c, q, h0, h1, h => by
    by_cases hn : (nearP x r a).1 = [] ∨ (nearP x r a).2 < (farP x r a).2
    · by_cases hf : (farP x r a).1 = []
      · rw [look_none hn hf] at h; cases h
      · rw [look_far hn hf] at h
        have hm := cheap_in (os := x.os) (L := (farP x r a).1) (List.length_pos_iff.2 hf) (fun q hq => by
          have : q ∈ (longP (preO x) a (routesOf x r) [] 0).1 := hq
          rcases longP_mem _ _ _ _ _ _ this with h | h
          · exact routesOf_mem h
          · cases h)
        have := hc _ hm
        exact look_cost hc k _ _ _ q (by omega) (by omega) h
    · obtain ⟨p, l, e⟩ : ∃ p l, (nearP x r a).1 = p :: l := by
        cases hc : (nearP x r a).1 with
        | nil => exact absurd (.inl hc) hn
        | cons p l => exact ⟨p, l, rfl⟩
      rw [look_near (nb := (nearP x r a).2) (Prod.ext e rfl) (by have := fun h => hn (.inr h); omega)] at h
      cases h
      exact ⟨h0, h1⟩
theorem upN_mem (x : Cfg) (r l a : Int) : upN x r l a = -1 ∨ ∃ o : Nat, upN x r l a = (o : Int) ∧ o < x.ps.length ∧ (o : Int) ∈ oth x.ps r l := by
  unfold upN
  cases h : lastAt a x.ps x.ps.length with
  | none => exact .inl rfl
  | some o =>
    dsimp only
    split
    · rename_i hm
      obtain ⟨y, hy, he⟩ := List.any_eq_true.1 hm
      have : (o : Int) = y := by simpa using he
      exact .inr ⟨o, rfl, (lastAt_in h).2, by rw [this]; exact hy⟩
    · exact .inl rfl
theorem portsOf_row (x : Cfg) (r : Int) : portsOf x r = rowF x r := rfl
/-- a router's step: none; at its own address; by one of its ports -/
theorem toA_cases {x : Cfg} (k : LtOK x) (r a : Int) :
    (toA x r a = ((0, 0, 0, false), false)) ∨ (toA x r a = ((-1, -1, 0, true), true)) ∨
    ∃ (p lN : Nat) (a1 u c : Int) (t : Bool), toA x r a = (((p : Int), u, c, t), true) ∧ x.ps[p]? = some (r, (lN : Int), a1) ∧ lN < x.ls.length ∧ (p : Int) ∈ rowF x r ∧ (u = -1 ∨ ∃ o : Nat, u = (o : Int) ∧ o < x.ps.length ∧ u ∈ oth x.ps r lN) ∧ 0 ≤ c ∧ c ≤ 65535 := by
  by_cases h1 : mine x r a = true
  · exact .inr (.inl (by unfold toA; rw [if_pos h1]))
  · by_cases h2 : (lookA x r a).2 = true
    · right; right
      have e0 : toA x r a = (((lookA x r a).1.1, upN x (portAt x (lookA x r a).1.1).1 (portAt x (lookA x r a).1.1).2.1 (if (lookA x r a).1.2.1 = 0 then a else (lookA x r a).1.2.1), (lookA x r a).1.2.2, decide ((lookA x r a).1.2.1 = 0)), true) := by
        unfold toA; rw [if_neg h1, if_pos h2]
      have hr := toA_r (x := x) (r := r) (a := a) (by rw [e0])
      obtain ⟨q, hq⟩ := Option.isSome_iff_exists.1 (show (lookP x r 7 a 0 0).isSome = true from h2)
      have e1 : (lookA x r a).1 = q := by unfold lookA; rw [hq]; rfl
      have hin := rlook_in 7 a 0 0 q hq
      have hc := look_cost (lt_ribok k).c 7 a 0 0 q (by omega) (by omega) hq
      rw [e1] at e0
      obtain ⟨p, hp, he⟩ := portsOf_mem hin
      rw [portsOf_row, he, rowF_at hr.1 hr.2, picks_get] at hin
      obtain ⟨_, ⟨r1, l1, a1⟩, hy, hyr⟩ := hin
      obtain rfl : r1 = r := by simpa using hyr
      have hpo := k.po _ (List.mem_of_getElem? hy)
      dsimp only at hpo
      obtain ⟨lN, rfl⟩ : ∃ lN : Nat, l1 = (lN : Int) := ⟨l1.toNat, by omega⟩
      have hpa : portAt x q.1 = (r1, (lN : Int), a1) := by unfold portAt; rw [he, Int.toNat_natCast, hy]; rfl
      rw [hpa, he] at e0
      refine ⟨p, lN, a1, _, _, _, e0, hy, by omega, ?_, ?_, hc⟩
      · rw [rowF_at hr.1 hr.2, picks_get]
        exact ⟨hp, _, hy, by simp⟩
      · rcases upN_mem x r1 lN (if q.2.1 = 0 then a else q.2.1) with h | ⟨o, h, ho, hm⟩
        · exact .inl h
        · exact .inr ⟨o, h, ho, by rw [h]; exact hm⟩
    · left
      unfold toA; rw [if_neg h1, if_neg h2]
/-- at its own addresses -/
theorem toA_own {x : Cfg} (k : LtOK x) {j : Nat} {r l a : Int} (h : x.ps[j]? = some (r, l, a)) : toA x r a = ((-1, -1, 0, true), true) := by
  have hm : mine x r a = true := by
    unfold mine
    rw [show a = ((r, l, a) : Int × Int × Int).2.2 from rfl, lastAt_is k.v h]
    have hpo := k.po _ (List.mem_of_getElem? h)
    dsimp only at hpo ⊢
    rw [portsOf_row, rowF_at hpo.1 hpo.2.1, List.any_eq_true]
    exact ⟨(j : Int), picks_get.2 ⟨(List.getElem?_eq_some_iff.1 h).1, _, h, by simp⟩, by simp⟩
  unfold toA; rw [if_pos hm]
/-- the way from a router on, to its end -/
inductive Path (N : Int → Int) : Int → List Int → Prop
  | done : Path N (-1) []
  | step {q : Int} {l : List Int} : q ≠ -1 → Path N (N q) l → Path N q (q :: l)
theorem Path.one {N : Int → Int} {q : Int} {l m : List Int} (h : Path N q l) : Path N q m → l = m := by
  intro k
  induction h generalizing m with
  | done => cases k with | done => rfl | step h => exact absurd rfl h
  | step hq _ ih => cases k with
    | done => exact absurd rfl hq
    | step _ h2 => rw [ih h2]
theorem wlk_path {N : Int → Int} : ∀ {k : Nat} {L M : List Int} {q : Int}, L.Nodup → wlkP N k L q = (M, false) → ∃ l, Path N q l ∧ M = L ++ l ∧ M.Nodup
  | 0, L, M, q, _, h => by unfold wlkP at h; cases h
  | k + 1, L, M, q, hn, h => by
    unfold wlkP at h
    by_cases hq : q = -1
    · rw [if_pos hq] at h
      cases h
      exact ⟨[], hq ▸ Path.done, by simp, hn⟩
    · rw [if_neg hq] at h
      by_cases ha : L.any (fun x => q == x) = true
      · rw [if_pos ha] at h; cases h
      · rw [if_neg ha] at h
        have hnin : q ∉ L := fun hm => ha (List.any_eq_true.2 ⟨q, hm, by simp⟩)
        obtain ⟨l, hp, e, hd⟩ := wlk_path (k := k) (by
          rw [List.nodup_append]
          exact ⟨hn, by simp, fun c hc b hb e => by simp at hb; subst hb; exact hnin (e ▸ hc)⟩) h
        exact ⟨q :: l, Path.step hq hp, by rw [e]; simp, hd⟩
theorem path_wlk {N : Int → Int} : ∀ {k : Nat} {L l : List Int} {q : Int}, Path N q l → (L ++ l).Nodup → l.length < k → wlkP N k L q = (L ++ l, false)
  | 0, _, _, _, _, _, h => by omega
  | k + 1, L, l, q, hp, hn, hk => by
    unfold wlkP
    cases hp with
    | done => rw [if_pos rfl]; simp
    | @step _ l hq hp =>
      rw [if_neg hq]
      have hnin : q ∉ L := fun hm => by
        have := (List.nodup_append.1 hn).2.2 q hm q (List.mem_cons_self ..)
        exact this rfl
      have ha : ¬ L.any (fun x => q == x) = true := fun h => by
        obtain ⟨y, hy, e⟩ := List.any_eq_true.1 h
        obtain rfl : q = y := by simpa using e
        exact hnin hy
      rw [if_neg ha, path_wlk (k := k) hp (by simpa using hn) (by simpa using hk)]
      simp
theorem Path.lt {N : Int → Int} {b : Nat} (hN : ∀ q, N q = -1 ∨ 0 ≤ N q ∧ N q < (b : Int)) {q : Int} {l : List Int} (h : Path N q l) : (q = -1 ∨ 0 ≤ q ∧ q < (b : Int)) → ∀ y ∈ l, 0 ≤ y ∧ y < (b : Int) := by
  induction h with
  | done => intro _ y hy; cases hy
  | step hq _ ih =>
    intro hb y hy
    rcases List.mem_cons.1 hy with rfl | hy
    · exact hb.resolve_left hq
    · exact ih (hN _) y hy
theorem nextP_lt {x : Cfg} (k : LtOK x) (a q : Int) : nextP x q a = -1 ∨ 0 ≤ nextP x q a ∧ nextP x q a < (x.rs.length : Int) := nextP_in (fun y hy => ⟨(k.po y hy).1, (k.po y hy).2.1⟩) q
theorem chain_none {x : Cfg} {r a : Int} (h : (toA x r a).2 = false) : chainA x r a = ([], false) := by unfold chainA; rw [if_pos h]
theorem chain_wlk {x : Cfg} {r a : Int} (h : (toA x r a).2 = true) : chainA x r a = if (wlkP (fun q => nextP x q a) (x.rs.length + 1) [] r).2 = true then ([], false) else ((wlkP (fun q => nextP x q a) (x.rs.length + 1) [] r).1, true) := by unfold chainA; rw [if_neg (by rw [h]; decide)]
/-- a way that is there has its end -/
theorem chain_path {x : Cfg} {r a : Int} (h : (chainA x r a).2 = true) : (toA x r a).2 = true ∧ Path (fun q => nextP x q a) r (chainA x r a).1 ∧ (chainA x r a).1.Nodup := by
  cases ht : (toA x r a).2 with
  | false => rw [chain_none ht] at h; cases h
  | true =>
    rw [chain_wlk ht] at h ⊢
    split at h
    · cases h
    · rename_i h1
      rw [if_neg h1]
      obtain ⟨l, hp, e, hn⟩ := wlk_path (k := x.rs.length + 1) (L := []) (M := (wlkP (fun q => nextP x q a) (x.rs.length + 1) [] r).1) (q := r) List.nodup_nil (Prod.ext rfl (by simpa using h1))
      rw [List.nil_append] at e
      exact ⟨rfl, by dsimp only; rw [e]; exact hp, hn⟩
theorem path_chain {x : Cfg} (k : LtOK x) {r a : Int} {l : List Int} (ht : (toA x r a).2 = true) (hp : Path (fun q => nextP x q a) r l) (hn : l.Nodup) : chainA x r a = (l, true) := by
  have hr := toA_r ht
  have hl := few hn (hp.lt (fun q => nextP_lt k a q) (.inr hr))
  rw [chain_wlk ht, path_wlk (k := x.rs.length + 1) (L := []) hp (by simpa using hn) (by omega), if_neg (by simp)]
  simp
theorem chain_len {x : Cfg} (k : LtOK x) (r a : Int) : (chainA x r a).1.length ≤ 16 := by
  cases h : (chainA x r a).2 with
  | true =>
    obtain ⟨ht, hp, hn⟩ := chain_path h
    have := few hn (hp.lt (fun q => nextP_lt k a q) (.inr (toA_r ht)))
    have := k.rl
    omega
  | false =>
    have : (chainA x r a).1 = [] := by
      unfold chainA at h ⊢
      split
      · rfl
      · split
        · rfl
        · rename_i h1 h2
          rw [if_neg h1, if_neg h2] at h; cases h
    rw [this]; simp
theorem chain_end {x : Cfg} (k : LtOK x) {r a : Int} (h : (toA x r a).2 = true) (hu : (toA x r a).1.2.1 = -1) : chainA x r a = ([r], true) := by
  have hr := toA_r h
  refine path_chain k h (Path.step (by omega) ?_) (by simp)
  have : nextP x r a = -1 := by unfold nextP; rw [if_neg (by rw [h]; decide), if_pos hu]
  show Path _ (nextP x r a) []
  rw [this]
  exact Path.done
theorem chain_step {x : Cfg} (k : LtOK x) {r a q : Int} (hr : (toA x r a).2 = true) (hq : nextP x r a = q) (hq1 : q ≠ -1) :
    ((chainA x r a).2 = true ∧ (toA x q a).2 = false ∧ (chainA x r a).1 = [r, q]) ∨
    ((chainA x r a).2 = true ∧ (toA x q a).2 = true ∧ (chainA x q a).2 = true ∧ (chainA x r a).1 = r :: (chainA x q a).1) ∨
    ((chainA x r a).2 = false ∧ ((chainA x q a).2 = false ∨ r ∈ (chainA x q a).1)) := by
  have hr0 := toA_r hr
  cases h : (chainA x r a).2 with
  | false =>
    right; right
    refine ⟨rfl, ?_⟩
    cases hg : (chainA x q a).2 with
    | false => exact .inl rfl
    | true =>
      right
      obtain ⟨_, hp, hn⟩ := chain_path hg
      refine Classical.byContradiction fun hni => ?_
      have := path_chain k hr (Path.step (by omega) (by show Path _ (nextP x r a) _; rw [hq]; exact hp)) (List.nodup_cons.2 ⟨hni, hn⟩)
      rw [this] at h; cases h
  | true =>
    obtain ⟨_, hp, hn⟩ := chain_path h
    generalize (chainA x r a).1 = L at *
    cases hp with
    | done => omega
    | @step _ l _ hp =>
      rw [hq] at hp
      cases ht : (toA x q a).2 with
      | false =>
        left
        refine ⟨rfl, rfl, ?_⟩
        have hm : nextP x q a = -1 := by unfold nextP; rw [if_pos ht]
        have := hp.one (Path.step hq1 (by show Path _ (nextP x q a) []; rw [hm]; exact Path.done))
        rw [this]
      | true =>
        right; left
        have := path_chain k ht hp (List.nodup_cons.1 hn).2
        rw [this]
        exact ⟨rfl, rfl, rfl, rfl⟩
end Go.Proofs.YtojahaphkjdenaaGreatDoor

