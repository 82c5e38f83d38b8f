/- A region that draws its order, operation by operation: what each one hands back is shown once, over what it waits for alone; whatever order comes, all of it holds at the end. No program is imported. -/
import Derived.Test.YtdljpokhcfhhfaaGreatDoorKit
import Derived.OrdersHeld
import Derived.Tactics
namespace Go.Proofs.YtdljpokhcfhhfaaGreatDoor
open Go.RowKit
section
variable {P : Program} {ops : Array Oper} {md : Region.Mode} {Q : Exit → Act → World → Prop} {S : World → Prop}
def dstOf (ops : Array Oper) (i : Nat) : Option Tmp := (ops[i]?).bind (·.dst)
/-- some operations' values in their slots -/
def lay (ops : Array Oper) (vs : Nat → Value) (l : List Nat) (a : Act) : Act := l.foldl (fun a i => a.put (dstOf ops i) (vs i)) a
def mark (l : List Nat) (L : Array Bool) : Array Bool := l.foldl (fun L i => L.setIfInBounds i true) L
def upd (vs : Nat → Value) (i : Nat) (v : Value) : Nat → Value := fun j => if j = i then v else vs j
theorem put_size (a : Act) (d : Option Tmp) (v : Value) : (a.put d v).tmps.size = a.tmps.size := by cases d <;> simp [Act.put]
theorem put_defs (a : Act) (d : Option Tmp) (v : Value) : (a.put d v).defers = a.defers := by cases d <;> rfl
theorem lay_size (vs : Nat → Value) : ∀ (l : List Nat) (a : Act), (lay ops vs l a).tmps.size = a.tmps.size
  | [], _ => rfl
  | _ :: l, _ => (lay_size vs l _).trans (put_size _ _ _)
theorem lay_snoc (vs : Nat → Value) (l : List Nat) (i : Nat) (a : Act) : lay ops vs (l ++ [i]) a = (lay ops vs l a).put (dstOf ops i) (vs i) := by simp [lay]
theorem lay_app (vs : Nat → Value) (l l' : List Nat) (a : Act) : lay ops vs (l ++ l') a = lay ops vs l' (lay ops vs l a) := by simp [lay]
theorem lay_congr {vs vs' : Nat → Value} : ∀ (l : List Nat) (a : Act), (∀ i ∈ l, vs i = vs' i) → lay ops vs l a = lay ops vs' l a
  | [], _, _ => rfl
  | i :: l, a, h => by
    show lay ops vs l (a.put _ (vs i)) = lay ops vs' l (a.put _ (vs' i))
    rw [h i (List.mem_cons_self ..), lay_congr l _ (fun j hj => h j (List.mem_cons_of_mem _ hj))]
theorem lay_perm {vs : Nat → Value} {l l' : List Nat} (hp : l.Perm l') (hap : ∀ i ∈ l, ∀ j ∈ l, i ≠ j → ∀ d, dstOf ops i = some d → dstOf ops j ≠ some d) (a : Act) : lay ops vs l a = lay ops vs l' a := by
  refine hp.foldl_eq' ?_ a
  intro x hx y hy z
  by_cases hxy : x = y
  · subst hxy; rfl
  · exact Act.put_comm z (vs x) (vs y) (hap x hx y hy hxy)
theorem mark_perm {l l' : List Nat} (hp : l.Perm l') (L : Array Bool) : mark l L = mark l' L := by
  refine hp.foldl_eq' ?_ L
  intro x _ y _ z
  by_cases hxy : x = y
  · subst hxy; rfl
  · exact Array.setIfInBounds_comm _ _ hxy
theorem mark_snoc (l : List Nat) (i : Nat) (L : Array Bool) : mark (l ++ [i]) L = (mark l L).setIfInBounds i true := by simp [mark]
theorem mark_size : ∀ (l : List Nat) (L : Array Bool), (mark l L).size = L.size
  | [], _ => rfl
  | i :: l, L => (mark_size l _).trans (by simp)
theorem mark_old : ∀ (l : List Nat) (L : Array Bool) (j : Nat) (d : Bool), j ∉ l → (mark l L).getD j d = L.getD j d
  | [], _, _, _, _ => rfl
  | i :: l, L, j, d, h => by
    have h1 : i ≠ j := fun e => h (by rw [e]; exact List.mem_cons_self ..)
    exact (mark_old l _ j d (fun hm => h (List.mem_cons_of_mem _ hm))).trans (getD_set_ne d h1)
theorem mark_true : ∀ (l : List Nat) (L : Array Bool) (j : Nat) (d : Bool), L.getD j d = true → (mark l L).getD j d = true
  | [], _, _, _, h => h
  | i :: l, L, j, d, h => by
    refine mark_true l _ j d ?_
    show (L.setIfInBounds i true).getD j d = true
    by_cases e : i = j
    · subst e
      rcases Nat.lt_or_ge i L.size with hl | hl
      · simp [hl]
      · rw [show L.setIfInBounds i true = L from by simp [Array.setIfInBounds, Nat.not_lt.2 hl]]; exact h
    · rw [getD_set_ne d e]; exact h
theorem mark_in : ∀ (l : List Nat) (L : Array Bool) (j : Nat) (d : Bool), j ∈ l → j < L.size → (mark l L).getD j d = true
  | [], _, _, _, h, _ => by cases h
  | i :: l, L, j, d, h, hl => by
    rcases List.mem_cons.1 h with rfl | h
    · exact mark_true l _ _ d (by simp [hl])
    · exact mark_in l _ j d h (by simpa using hl)
/-- what lies in slots at which an operation does not look -/
theorem exec_lay {o : Oper} (hs : ∀ cs b, o.op ≠ .select cs b) {vs : Nat → Value} : ∀ (l : List Nat) (b : Act), (∀ j ∈ l, ∀ d, dstOf ops j = some d → d ∉ o.looksAt ops) →
    execOp (lay ops vs l b).eval o = execOp b.eval o ∧ Region.wanted o (yielded ops (lay ops vs l b).tmps) = Region.wanted o (yielded ops b.tmps)
  | [], _, _ => ⟨rfl, rfl⟩
  | i :: l, b, h => by
    have h1 := exec_lay hs (vs := vs) l (b.put (dstOf ops i) (vs i)) (fun j hj => h j (List.mem_cons_of_mem _ hj))
    have h2 := h i (List.mem_cons_self ..)
    exact ⟨h1.1.trans (execOp_put o hs b _ _ h2), h1.2.trans (wanted_put o b _ _ h2)⟩
/-- what an operation hands back, as the walk of a plain region shows it -/
def Gives (P : Program) (ops : Array Oper) (o : Oper) (a : Act) (w : World) (post : Value → World → Prop) : Prop :=
  wpList P ops (fun e a' w' => e = .normal ∧ ∃ v, a' = a.put o.dst v ∧ post v w') [o] a w
theorem put_same {a a2 : Act} {d : Option Tmp} {v v' : Value} (h : a.put d v = a.put d v') (hs : a.tmps.size = a2.tmps.size) : a2.put d v = a2.put d v' := by
  cases d with
  | none => rfl
  | some t =>
    rcases Nat.lt_or_ge t a.tmps.size with hl | hl
    · have h1 : (a.put (some t) v).tmps[t]? = (a.put (some t) v').tmps[t]? := by rw [h]
      simp [Act.put, hl] at h1
      rw [h1]
    · simp [Act.put, Array.setIfInBounds, Nat.not_lt.2 (hs ▸ hl)]
theorem Gives.wpOp {i : Nat} {o : Oper} {a a2 : Act} {w : World} {post : Value → World → Prop} (hi : ops[i]? = some o) (h : Gives P ops o a w post) (he : execOp a2.eval o = execOp a.eval o)
    (hw : Region.wanted o (yielded ops a2.tmps) = Region.wanted o (yielded ops a.tmps)) (hs : a.tmps.size = a2.tmps.size) {K : Act → World → Prop} (hK : ∀ v w', post v w' → K (a2.put o.dst v) w') : wpOp P ops Q i K a2 w := by
  have hput : ∀ v w', (Exit.normal = Exit.normal ∧ ∃ v', a.put o.dst v = a.put o.dst v' ∧ post v' w') → K (a2.put o.dst v) w' := by
    rintro v w' ⟨_, v', e, hp⟩
    rw [put_same e hs]
    exact hK v' w' hp
  unfold Gives wpList at h
  unfold Go.wpOp
  simp only [hi, hw]
  split
  · rename_i hwt
    simp only [hwt, if_true] at h
    refine .inl ?_
    rcases h with h | ⟨_, _, _, h, _⟩
    case inr => cases h
    unfold Oper.wp at *
    rw [he]
    generalize (execOp a.eval o).run P w = r at *
    cases r with
    | ok n w' =>
      cases n <;> simp only [Oper.upon] at h ⊢
      case value u => exact hput _ _ h
      case skip => exact hput _ _ h
      case defer d =>
        obtain ⟨_, v, hd, _⟩ := h
        have h1 := congrArg Act.defers hd
        rw [put_defs, put_defs] at h1
        have h1 : d :: a.defers = a.defers := h1
        exact absurd (congrArg List.length h1) (by simp)
      case enter f args =>
        refine Calls.mono h fun e w'' he => ?_
        cases e with
        | returned u => exact hput _ _ he
        | panicked c => exact absurd he.1 (by simp)
        | outgrown => obtain ⟨_, _, h, _⟩ := he; cases h
      case row row args => exact Rows.mono h fun u w'' he => hput _ _ he
    | halt x w' =>
      cases x <;> simp only [Oper.upon] at h ⊢
      case panic u => exact absurd h.1 (by simp)
  · rename_i hwt
    simp only [hwt] at h
    exact hput _ _ h
theorem len_le : ∀ {l r : List Nat}, l.Nodup → (∀ i ∈ l, i ∈ r) → l.length ≤ r.length
  | [], _, _, _ => Nat.zero_le _
  | i :: l, r, hn, h => by
    obtain ⟨h1, h2⟩ := List.nodup_cons.1 hn
    have hi := h i (List.mem_cons_self ..)
    have h3 : l.length ≤ (r.erase i).length := len_le h2 fun j hj => (List.mem_erase_of_ne (fun e => h1 (by rw [← e]; exact hj))).2 (h j (List.mem_cons_of_mem _ hj))
    rw [List.length_erase_of_mem hi] at h3
    have := List.length_pos_of_mem hi
    simp only [List.length_cons]
    omega
theorem perm_full {l r : List Nat} (hl : l.Nodup) (hr : r.Nodup) (h : ∀ i ∈ l, i ∈ r) (hn : r.length ≤ l.length) : l.Perm r := by
  refine (List.perm_ext_iff_of_nodup hl hr).2 fun x => ⟨h x, fun hx => ?_⟩
  by_cases hm : x ∈ l
  · exact hm
  · have := len_le (l := x :: l) (r := r) (List.nodup_cons.2 ⟨hm, hl⟩) (fun i hi => by
      rcases List.mem_cons.1 hi with rfl | hi
      · exact hx
      · exact h i hi)
    simp only [List.length_cons] at this
    omega
def direct (md : Region.Mode) (ops : Array Oper) (i : Nat) : List Nat := match ops[i]? with | none => [] | some o => (o.after.toList.filter (fun e => Region.binds md e)).map (·.on)
def looks (ops : Array Oper) (i : Nat) : List Tmp := match ops[i]? with | none => [] | some o => o.looksAt ops
def nodupB : List Nat → Bool
  | [] => true
  | i :: l => !l.contains i && nodupB l
theorem nodupB_spec : ∀ {l : List Nat}, nodupB l = true → l.Nodup
  | [], _ => List.nodup_nil
  | i :: l, h => by
    simp only [nodupB, Bool.and_eq_true, Bool.not_eq_true'] at h
    exact List.nodup_cons.2 ⟨by simpa using h.1, nodupB_spec h.2⟩
/-- how the operations that are left hang together -/
structure EachB (md : Region.Mode) (ops : Array Oper) (L : Array Bool) (rem tail : List Nat) (deps : Nat → List Nat) : Prop where
  sel : Region.noSelect ops = true
  nd : rem.Nodup
  un : ∀ i ∈ rem, L.getD i true = false
  some_ : ∀ i ∈ rem, i < ops.size
  dnd : ∀ i ∈ rem, (deps i).Nodup
  din : ∀ i ∈ rem, ∀ d ∈ deps i, d ∈ rem ∧ (d ∈ direct md ops i ∨ ∃ m ∈ direct md ops i, m ∈ rem ∧ d ∈ deps m)
  dst : ∀ i ∈ rem, ∀ j ∈ rem, i ≠ j → ∀ d, dstOf ops j = some d → dstOf ops i ≠ some d ∧ (j ∈ deps i ∨ d ∉ looks ops i)
  up : ∀ i ∈ rem, ∀ m ∈ direct md ops i, L.getD m false = true ∨ (m ∈ rem ∧ m < i)
  all : ∀ i, i < ops.size → L.getD i true = false → i ∈ rem ∨ i ∈ tail
  tun : ∀ t ∈ tail, t ∉ rem ∧ L.getD t false = false
  tl : ∀ t ∈ tail, (∃ m ∈ direct md ops t, m ∈ tail) ∨ ∀ r ∈ rem, r ∈ direct md ops t ∨ ∃ m ∈ direct md ops t, m ∈ rem ∧ r ∈ deps m
def eachB (md : Region.Mode) (ops : Array Oper) (L : Array Bool) (rem tail : List Nat) (deps : Nat → List Nat) : Bool :=
  Region.noSelect ops && nodupB rem && rem.all (fun i => !L.getD i true && decide (i < ops.size) && nodupB (deps i) &&
    (deps i).all (fun d => rem.contains d && ((direct md ops i).contains d || (direct md ops i).any (fun m => rem.contains m && (deps m).contains d))) &&
    rem.all (fun j => i == j || (match dstOf ops j with | none => true | some d => dstOf ops i != some d && ((deps i).contains j || !(looks ops i).contains d))) &&
    (direct md ops i).all (fun m => L.getD m false || (rem.contains m && decide (m < i)))) &&
  (List.range ops.size).all (fun i => L.getD i true || rem.contains i || tail.contains i) &&
  tail.all (fun t => !rem.contains t && !L.getD t false && ((direct md ops t).any (fun m => tail.contains m) || rem.all (fun r => (direct md ops t).contains r || (direct md ops t).any (fun m => rem.contains m && (deps m).contains r))))
theorem eachB_spec {L : Array Bool} {rem tail : List Nat} {deps : Nat → List Nat} (h : eachB md ops L rem tail deps = true) : EachB md ops L rem tail deps := by
  simp only [eachB, Bool.and_eq_true, List.all_eq_true, Bool.or_eq_true, Bool.not_eq_true', List.any_eq_true, List.contains_iff_mem, decide_eq_true_eq, beq_iff_eq, List.mem_range] at h
  obtain ⟨⟨⟨⟨h1, h2⟩, h3⟩, h4⟩, h5⟩ := h
  refine ⟨h1, nodupB_spec h2, fun i hi => (h3 i hi).1.1.1.1.1, fun i hi => (h3 i hi).1.1.1.1.2, fun i hi => nodupB_spec (h3 i hi).1.1.1.2, fun i hi d hd => ?_, fun i hi j hj hij d hd => ?_, fun i hi m hm => (h3 i hi).2 m hm, fun i hi hl => ?_, fun t ht => ?_, fun t ht => ?_⟩
  · obtain ⟨a, b⟩ := (h3 i hi).1.1.2 d hd
    refine ⟨a, b.imp id ?_⟩
    rintro ⟨m, hm, hr, hdm⟩
    exact ⟨m, hm, hr, hdm⟩
  · have := ((h3 i hi).1.2 j hj).resolve_left hij
    rw [hd] at this
    simp only [Bool.and_eq_true, bne_iff_ne, Bool.or_eq_true, List.contains_iff_mem, Bool.not_eq_true'] at this
    exact ⟨this.1, this.2.imp id (fun h => by simpa using h)⟩
  · rcases h4 i hi with (h | h) | h
    · rw [hl] at h; cases h
    · exact .inl h
    · exact .inr h
  · exact ⟨by simpa using (h5 t ht).1.1, (h5 t ht).1.2⟩
  · rcases (h5 t ht).2 with ⟨m, hm, hmt⟩ | h
    · exact .inl ⟨m, hm, hmt⟩
    · refine .inr fun r hr => (h r hr).imp id ?_
      rintro ⟨m, hm, hmr, hrm⟩
      exact ⟨m, hm, hmr, hrm⟩
theorem mem_direct {i m : Nat} {o : Oper} (hi : ops[i]? = some o) : m ∈ direct md ops i ↔ ∃ e ∈ o.after, Region.binds md e = true ∧ e.on = m := by
  unfold direct
  rw [hi]
  simp [and_assoc]
theorem ready_iff {L : Array Bool} {i : Nat} : i ∈ Region.ready md ops L ↔ L.getD i true = false ∧ i < ops.size ∧ ∀ m ∈ direct md ops i, L.getD m false = true := by
  rw [mem_ready]
  constructor
  · rintro ⟨h, o, ho, hall⟩
    refine ⟨h, (Array.getElem?_eq_some_iff.1 ho).1, fun m hm => ?_⟩
    obtain ⟨e, he, hb, rfl⟩ := (mem_direct ho).1 hm
    exact hall e he hb
  · rintro ⟨h, hl, hall⟩
    have ho : ops[i]? = some ops[i] := Array.getElem?_eq_getElem hl
    exact ⟨h, _, ho, fun e he hb => hall _ ((mem_direct ho).2 ⟨e, he, hb, rfl⟩)⟩
theorem getD_lt {L : Array Bool} {i : Nat} (h : L.getD i true = false) : i < L.size := by
  rcases Nat.lt_or_ge i L.size with hl | hl
  · exact hl
  · simp [Array.getElem?_eq_none hl] at h
theorem getD_ft {L : Array Bool} {i : Nat} (h : L.getD i true = false) : L.getD i false = false := by
  have hl := getD_lt h
  simp [hl] at h ⊢
  exact h
/-- an operation is done, and its value lies in its slot -/
def Put1 (a : Act) (d : Option Tmp) (R : Value → World → Prop) (e : Exit) (a' : Act) (w' : World) : Prop := e = .normal ∧ ∃ v, a' = a.put d v ∧ R v w'
/-- the operations' contracts, one by one -/
def AllO (P : Program) (ops : Array Oper) (T : List Nat → World → Prop) (K : Nat → World → Value → World → Prop) (F : Nat → List Value → Value → World → Prop) (deps : Nat → List Nat) (a0 : Act) (l : List Nat) : Prop :=
  ∀ i ∈ l, ∀ o, ops[i]? = some o → ∀ vs l w, i ∉ l → T l w → (∀ d ∈ deps i, F d ((deps d).map vs) (vs d) w) → Gives P ops o (lay ops vs (deps i) a0) w (fun v w' => K i w v w' ∧ F i ((deps i).map vs) v w')
theorem AllO.nil {T : List Nat → World → Prop} {K : Nat → World → Value → World → Prop} {F : Nat → List Value → Value → World → Prop} {deps : Nat → List Nat} {a0 : Act} : AllO P ops T K F deps a0 [] := fun _ h => by cases h
theorem AllO.cons {T : List Nat → World → Prop} {K : Nat → World → Value → World → Prop} {F : Nat → List Value → Value → World → Prop} {deps : Nat → List Nat} {a0 : Act} {i : Nat} {o : Oper} {rs : List Nat} (ds : List Nat) (ho : ops[i]? = some o) (hds : deps i = ds)
    (h : ∀ vs l w, i ∉ l → T l w → (∀ d ∈ ds, F d ((deps d).map vs) (vs d) w) → wpList P ops (Put1 (lay ops vs ds a0) o.dst (fun v w' => K i w v w' ∧ F i (ds.map vs) v w')) [o] (lay ops vs ds a0) w)
    (hs : AllO P ops T K F deps a0 rs) : AllO P ops T K F deps a0 (i :: rs) := fun j hj => by
  subst hds
  rcases List.mem_cons.1 hj with rfl | hj
  · intro o' ho' vs l w hl hT hd
    obtain rfl : o = o' := Option.some.inj (ho.symm.trans ho')
    exact h vs l w hl hT hd
  · exact hs j hj
/-- each operation's contract, over what it waits for alone; behind all of them, in whatever order, all hold -/
theorem wpAnyH_each {L : Array Bool} {rem tail : List Nat} {deps : Nat → List Nat} {a0 : Act} {m : Nat} {w0 : World} (T : List Nat → World → Prop) (K : Nat → World → Value → World → Prop) (F : Nat → List Value → Value → World → Prop)
    (hB : EachB md ops L rem tail deps)
    (hTK : ∀ i ∈ rem, ∀ l, i ∉ l → ∀ w v w', T l w → K i w v w' → T (l ++ [i]) w') (hTS : ∀ l w, T l w → S w)
    (hF : ∀ i ∈ rem, ∀ j ∈ rem, i ≠ j → j ∉ deps i → ∀ ds v u l w w', j ∉ l → T l w → K j w u w' → F i ds v w → F i ds v w')
    (P2 : Nat → Nat → Value → Value → Prop) (hP : ∀ i ∈ rem, ∀ j ∈ rem, i ≠ j → ∀ ds v u l w w', T l w → K j w u w' → F i ds v w → P2 i j v u ∧ P2 j i u v)
    (hO : AllO P ops T K F deps a0 rem)
    (hE : ∀ vs l w, (∀ i ∈ rem, i ∈ l) → T l w → (∀ i ∈ rem, F i ((deps i).map vs) (vs i) w) → (∀ i ∈ rem, ∀ j ∈ rem, i ≠ j → P2 i j (vs i) (vs j)) → ∀ aE LE, aE = lay ops vs rem a0 → LE = mark rem L → wpAnyH P md ops Q S m LE aE w)
    (hT0 : T [] w0) : wpAnyH P md ops Q S (m + rem.length) L a0 w0 := by
  have key : ∀ (n : Nat) (l : List Nat) (vs : Nat → Value) (w : World), l.Nodup → (∀ i ∈ l, i ∈ rem) → rem.length = l.length + n → (∀ i ∈ l, ∀ d ∈ deps i, d ∈ l) → T l w → (∀ i ∈ l, F i ((deps i).map vs) (vs i) w) → (∀ i ∈ l, ∀ j ∈ l, i ≠ j → P2 i j (vs i) (vs j)) →
      wpAnyH P md ops Q S (m + n) (mark l L) (lay ops vs l a0) w := by
    intro n
    induction n with
    | zero =>
      intro l vs w hnd hsub hlen _ hT hFs hPs
      have hp : l.Perm rem := by
        exact perm_full hnd hB.nd hsub (by omega)
      rw [mark_perm hp, lay_perm hp (fun i hi j hj hij d hd hd' => (hB.dst i (hsub i hi) j (hsub j hj) hij d hd').1 hd) a0]
      exact hE vs l w (fun i hi => hp.mem_iff.2 hi) hT (fun i hi => hFs i (hp.mem_iff.2 hi)) (fun i hi j hj => hPs i (hp.mem_iff.2 hi) j (hp.mem_iff.2 hj)) _ _ rfl rfl
    | succ n ih =>
      intro l vs w hnd hsub hlen hcl hT hFs hPs
      have hun : ∀ i, (mark l L).getD i true = false → L.getD i true = false ∧ i ∉ l := by
        intro i hi
        have hl : i < L.size := by have := getD_lt hi; rwa [mark_size] at this
        refine ⟨?_, fun hm => ?_⟩
        · cases h : L.getD i true
          · rfl
          · rw [mark_true l L i true h] at hi; cases hi
        · rw [mark_in l L i true hm hl] at hi; cases hi
      have hli : ∀ i, i ∈ rem → (mark l L).getD i false = true → i ∈ l := by
        intro i hi h
        by_cases hm : i ∈ l
        · exact hm
        · rw [mark_old l L i false hm, getD_ft (hB.un i hi)] at h; cases h
      have hfull : ¬ ∀ r ∈ rem, r ∈ l := by
        intro h
        have := len_le hB.nd h
        omega
      have hdl : ∀ i ∈ rem, (∀ m ∈ direct md ops i, (mark l L).getD m false = true) → ∀ d ∈ deps i, d ∈ l := by
        intro i hi hall d hd
        obtain ⟨hdr, h | ⟨m, hm, hmr, hdm⟩⟩ := hB.din i hi d hd
        · exact hli d hdr (hall d h)
        · exact hcl m (hli m hmr (hall m hm)) d hdm
      refine ⟨fun h0 => ?_, fun i hi => ?_⟩
      · exfalso
        have hall : ∀ (k : Nat), ∀ i ∈ rem, i ≤ k → i ∈ l := by
          intro k
          induction k using Nat.strongRecOn with
          | _ k ihk =>
            intro i hi hik
            by_cases hm : i ∈ l
            · exact hm
            · exfalso
              have : i ∈ Region.ready md ops (mark l L) := by
                rw [ready_iff]
                refine ⟨by rw [mark_old l L i true hm]; exact hB.un i hi, hB.some_ i hi, fun m hmd => ?_⟩
                rcases hB.up i hi m hmd with h | ⟨hmr, hlt⟩
                · exact mark_true l L m false h
                · exact mark_in l L m false (ihk m (by omega) m hmr (Nat.le_refl _)) (getD_lt (hB.un m hmr))
              rw [h0] at this
              cases this
        exact hfull (fun r hr => hall r r hr (Nat.le_refl _))
      · rw [ready_iff] at hi
        obtain ⟨hi1, hi2, hi3⟩ := hi
        obtain ⟨hL, hil⟩ := hun i hi1
        rcases hB.all i hi2 hL with hir | hit
        · have hds := hdl i hir hi3
          obtain ⟨o, ho⟩ : ∃ o, ops[i]? = some o := ⟨_, Array.getElem?_eq_getElem hi2⟩
          have hdo : dstOf ops i = o.dst := by unfold dstOf; rw [ho]; rfl
          have hG := hO i hir o ho vs l w hil hT (fun d hd => hFs d (hds d hd))
          have hsel : ∀ cs b, o.op ≠ .select cs b := fun cs b => Region.noSelect_spec hB.sel i o cs b ho
          have hp : ((deps i) ++ l.filter (fun j => !(deps i).contains j)).Perm l := by
            refine List.Perm.trans (List.Perm.append_right _ ?_) (List.filter_append_perm (fun j => (deps i).contains j) l)
            refine (List.perm_ext_iff_of_nodup (hB.dnd i hir) (hnd.sublist List.filter_sublist)).2 fun x => ?_
            simp only [List.mem_filter, List.contains_iff_mem]
            exact ⟨fun h => ⟨hds x h, h⟩, fun h => h.2⟩
          have hl : lay ops vs l a0 = lay ops vs (l.filter (fun j => !(deps i).contains j)) (lay ops vs (deps i) a0) := by
            rw [← lay_app]
            refine (lay_perm hp (fun x hx y hy hxy d hd hd' => ?_) a0).symm
            have hx' := hsub x (hp.mem_iff.1 hx)
            have hy' := hsub y (hp.mem_iff.1 hy)
            exact (hB.dst x hx' y hy' hxy d hd').1 hd
          have hex := exec_lay (ops := ops) (vs := vs) hsel (l.filter (fun j => !(deps i).contains j)) (lay ops vs (deps i) a0) (fun j hj d hd => by
            simp only [List.mem_filter, Bool.not_eq_true', List.contains_eq_mem, decide_eq_false_iff_not] at hj
            have hji : i ≠ j := fun e => hil (e ▸ hj.1)
            have := ((hB.dst i hir j (hsub j hj.1) hji d hd).2).resolve_left hj.2
            unfold looks at this
            rwa [ho] at this)
          rw [← hl] at hex
          refine hG.wpOp ho hex.1 hex.2 (by rw [lay_size, lay_size]) ?_
          rintro v w' ⟨hK, hFi⟩
          have hT' := hTK i hir l hil w v w' hT hK
          refine ⟨hTS _ _ hT', ?_⟩
          rw [← mark_snoc]
          have hagree : ∀ j, j ≠ i → upd vs i v j = vs j := fun j hj => by unfold upd; rw [if_neg hj]
          have hmap : ∀ j, i ∉ deps j → (deps j).map (upd vs i v) = (deps j).map vs := fun j hj => List.map_congr_left fun x hx => hagree x (fun e => hj (e ▸ hx))
          have hla : (lay ops vs l a0).put o.dst v = lay ops (upd vs i v) (l ++ [i]) a0 := by
            rw [lay_snoc, hdo]
            rw [lay_congr (vs := upd vs i v) (vs' := vs) l a0 (fun j hj => hagree j (fun e => hil (e ▸ hj)))]
            simp [upd]
          rw [hla]
          refine ih (l ++ [i]) (upd vs i v) w' ?_ ?_ ?_ ?_ hT' ?_ ?_
          · exact List.nodup_append.2 ⟨hnd, List.nodup_cons.2 ⟨by simp, List.nodup_nil⟩, fun x hx y hy e => hil (by simp at hy; rw [← hy, ← e]; exact hx)⟩
          · intro j hj
            rcases List.mem_append.1 hj with h | h
            · exact hsub j h
            · simp at h; rw [h]; exact hir
          · simp; omega
          · intro j hj d hd
            rcases List.mem_append.1 hj with h | h
            · exact List.mem_append_left _ (hcl j h d hd)
            · simp at h; subst h; exact List.mem_append_left _ (hds d hd)
          · intro j hj
            rcases List.mem_append.1 hj with h | h
            · rw [hmap j (fun e => hil (hcl j h i e)), hagree j (fun e => hil (e ▸ h))]
              exact hF j (hsub j h) i hir (fun e => hil (e ▸ h)) (fun e => hil (hcl j h i e)) _ _ v l w w' hil hT hK (hFs j h)
            · simp at h; subst h
              rw [hmap j (fun e => hil (hds j e))]
              simpa [upd] using hFi
          · intro j hj j' hj' hne
            have hnew : ∀ q ∈ l, P2 q i (vs q) v ∧ P2 i q v (vs q) := fun q hq => hP q (hsub q hq) i hir (fun e => hil (e ▸ hq)) _ _ v l w w' hT hK (hFs q hq)
            have hvi : upd vs i v i = v := by simp [upd]
            rcases List.mem_append.1 hj with h | h
            · rw [hagree j (fun e => hil (e ▸ h))]
              rcases List.mem_append.1 hj' with h' | h'
              · rw [hagree j' (fun e => hil (e ▸ h'))]
                exact hPs j h j' h' hne
              · simp only [List.mem_singleton] at h'; subst h'
                rw [hvi]
                exact (hnew j h).1
            · simp only [List.mem_singleton] at h; subst h
              rcases List.mem_append.1 hj' with h' | h'
              · rw [hvi, hagree j' (fun e => hil (e ▸ h'))]
                exact (hnew j' h').2
              · simp only [List.mem_singleton] at h'
                exact absurd h'.symm hne
        · exfalso
          rcases hB.tl i hit with ⟨m, hm, hmt⟩ | h
          · have h1 := hi3 m hm
            obtain ⟨hmr, hmL⟩ := hB.tun m hmt
            rw [mark_old l L m false (fun e => hmr (hsub m e)), hmL] at h1
            cases h1
          · refine hfull fun r hr => ?_
            rcases h r hr with hd | ⟨m, hm, hmr, hrm⟩
            · exact hli r hr (hi3 r hd)
            · exact hcl m (hli m hmr (hi3 m hm)) r hrm
  have := key rem.length [] (fun _ => undef) w0 List.nodup_nil (fun i h => by cases h) (by simp) (fun i h => by cases h) hT0 (fun i h => by cases h) (fun i h => by cases h)
  exact this
end
end Go.Proofs.YtdljpokhcfhhfaaGreatDoor

