/- A region that draws its order, operation by operation, as Ea has it, but a value's fact may speak of what has come up: so a row is the call's own till another append has taken it. No program is imported. -/
import Derived.Test.YtfiiichiflglaaaEa
namespace Go.Proofs.Ytfiiichiflglaaa
open Go.RowKit
section
variable {P : Program} {ops : Array Oper} {md : Region.Mode} {Q : Exit → Act → World → Prop} {S : World → Prop}
/-- the operations' contracts, one by one -/
def AllL (P : Program) (ops : Array Oper) (T : List Nat → World → Prop) (K : Nat → World → Value → World → Prop) (F : Nat → List Nat → List Value → Value → World → Prop) (deps : Nat → List Nat) (a0 : Act) (l : List Nat) : Prop :=
  ∀ i ∈ l, ∀ o, ops[i]? = some o → ∀ vs l w, i ∉ l → (∀ x ∈ l, ∀ d ∈ deps x, d ∈ l) → T l w → (∀ d ∈ deps i, F d l ((deps d).map vs) (vs d) w) → Gives P ops o (lay ops vs (deps i) a0) w (fun v w' => K i w v w' ∧ F i (l ++ [i]) ((deps i).map vs) v w')
theorem AllL.nil {T : List Nat → World → Prop} {K : Nat → World → Value → World → Prop} {F : Nat → List Nat → List Value → Value → World → Prop} {deps : Nat → List Nat} {a0 : Act} : AllL P ops T K F deps a0 [] := fun _ h => by cases h
theorem AllL.cons {T : List Nat → World → Prop} {K : Nat → World → Value → World → Prop} {F : Nat → List Nat → List Value → Value → World → Prop} {deps : Nat → List Nat} {a0 : Act} {i : Nat} {o : Oper} {rs : List Nat} (ds : List Nat) (ho : ops[i]? = some o) (hds : deps i = ds)
    (h : ∀ vs l w, i ∉ l → (∀ x ∈ l, ∀ d ∈ deps x, d ∈ l) → T l w → (∀ d ∈ ds, F d l ((deps d).map vs) (vs d) w) → wpList P ops (Put1 (lay ops vs ds a0) o.dst (fun v w' => K i w v w' ∧ F i (l ++ [i]) (ds.map vs) v w')) [o] (lay ops vs ds a0) w)
    (hs : AllL P ops T K F deps a0 rs) : AllL P ops T K F deps a0 (i :: rs) := fun j hj => by
  subst hds
  rcases List.mem_cons.1 hj with rfl | hj
  · intro o' ho' vs l w hl hc hT hd
    obtain rfl : o = o' := Option.some.inj (ho.symm.trans ho')
    exact h vs l w hl hc hT hd
  · exact hs j hj
/-- each operation's contract, over what it waits for alone; behind all of them, in whatever order, all hold -/
theorem wpAnyH_eachL {L : Array Bool} {rem tail : List Nat} {deps : Nat → List Nat} {a0 : Act} {m : Nat} {w0 : World} (T : List Nat → World → Prop) (K : Nat → World → Value → World → Prop) (F : Nat → List Nat → List Value → Value → World → Prop)
    (hB : EachB md ops L rem tail deps)
    (hTK : ∀ i ∈ rem, ∀ l, i ∉ l → ∀ w v w', T l w → K i w v w' → T (l ++ [i]) w') (hTS : ∀ l w, T l w → S w)
    (hF : ∀ i ∈ rem, ∀ j ∈ rem, i ≠ j → j ∉ deps i → ∀ ds v u l w w', i ∈ l → j ∉ l → (∀ d ∈ deps j, d ∈ l) → (∀ x ∈ l, ∀ d ∈ deps x, d ∈ l) → T l w → K j w u w' → F i l ds v w → F i (l ++ [j]) ds v w')
    (P2 : Nat → Nat → Value → Value → Prop) (hP : ∀ i ∈ rem, ∀ j ∈ rem, i ≠ j → ∀ ds v u l w w', T l w → K j w u w' → F i l ds v w → P2 i j v u ∧ P2 j i u v)
    (hO : AllL P ops T K F deps a0 rem)
    (hE : ∀ vs l w, (∀ i ∈ rem, i ∈ l) → T l w → (∀ i ∈ rem, F i l ((deps i).map vs) (vs i) w) → (∀ i ∈ rem, ∀ j ∈ rem, i ≠ j → P2 i j (vs i) (vs j)) → ∀ aE LE, aE = lay ops vs rem a0 → LE = mark rem L → wpAnyH P md ops Q S m LE aE w)
    (hT0 : T [] w0) : wpAnyH P md ops Q S (m + rem.length) L a0 w0 := by
  have key : ∀ (n : Nat) (l : List Nat) (vs : Nat → Value) (w : World), l.Nodup → (∀ i ∈ l, i ∈ rem) → rem.length = l.length + n → (∀ i ∈ l, ∀ d ∈ deps i, d ∈ l) → T l w → (∀ i ∈ l, F i l ((deps i).map vs) (vs i) w) → (∀ i ∈ l, ∀ j ∈ l, i ≠ j → P2 i j (vs i) (vs j)) →
      wpAnyH P md ops Q S (m + n) (mark l L) (lay ops vs l a0) w := by
    intro n
    induction n with
    | zero =>
      intro l vs w hnd hsub hlen _ hT hFs hPs
      have hp : l.Perm rem := by
        exact perm_full hnd hB.nd hsub (by omega)
      rw [mark_perm hp, lay_perm hp (fun i hi j hj hij d hd hd' => (hB.dst i (hsub i hi) j (hsub j hj) hij d hd').1 hd) a0]
      exact hE vs l w (fun i hi => hp.mem_iff.2 hi) hT (fun i hi => hFs i (hp.mem_iff.2 hi)) (fun i hi j hj => hPs i (hp.mem_iff.2 hi) j (hp.mem_iff.2 hj)) _ _ rfl rfl
    | succ n ih =>
      intro l vs w hnd hsub hlen hcl hT hFs hPs
      have hun : ∀ i, (mark l L).getD i true = false → L.getD i true = false ∧ i ∉ l := by
        intro i hi
        have hl : i < L.size := by have := getD_lt hi; rwa [mark_size] at this
        refine ⟨?_, fun hm => ?_⟩
        · cases h : L.getD i true
          · rfl
          · rw [mark_true l L i true h] at hi; cases hi
        · rw [mark_in l L i true hm hl] at hi; cases hi
      have hli : ∀ i, i ∈ rem → (mark l L).getD i false = true → i ∈ l := by
        intro i hi h
        by_cases hm : i ∈ l
        · exact hm
        · rw [mark_old l L i false hm, getD_ft (hB.un i hi)] at h; cases h
      have hfull : ¬ ∀ r ∈ rem, r ∈ l := by
        intro h
        have := len_le hB.nd h
        omega
      have hdl : ∀ i ∈ rem, (∀ m ∈ direct md ops i, (mark l L).getD m false = true) → ∀ d ∈ deps i, d ∈ l := by
        intro i hi hall d hd
        obtain ⟨hdr, h | ⟨m, hm, hmr, hdm⟩⟩ := hB.din i hi d hd
        · exact hli d hdr (hall d h)
        · exact hcl m (hli m hmr (hall m hm)) d hdm
      refine ⟨fun h0 => ?_, fun i hi => ?_⟩
      · exfalso
        have hall : ∀ (k : Nat), ∀ i ∈ rem, i ≤ k → i ∈ l := by
          intro k
          induction k using Nat.strongRecOn with
          | _ k ihk =>
            intro i hi hik
            by_cases hm : i ∈ l
            · exact hm
            · exfalso
              have : i ∈ Region.ready md ops (mark l L) := by
                rw [ready_iff]
                refine ⟨by rw [mark_old l L i true hm]; exact hB.un i hi, hB.some_ i hi, fun m hmd => ?_⟩
                rcases hB.up i hi m hmd with h | ⟨hmr, hlt⟩
                · exact mark_true l L m false h
                · exact mark_in l L m false (ihk m (by omega) m hmr (Nat.le_refl _)) (getD_lt (hB.un m hmr))
              rw [h0] at this
              cases this
        exact hfull (fun r hr => hall r r hr (Nat.le_refl _))
      · rw [ready_iff] at hi
        obtain ⟨hi1, hi2, hi3⟩ := hi
        obtain ⟨hL, hil⟩ := hun i hi1
        rcases hB.all i hi2 hL with hir | hit
        · have hds := hdl i hir hi3
          obtain ⟨o, ho⟩ : ∃ o, ops[i]? = some o := ⟨_, Array.getElem?_eq_getElem hi2⟩
          have hdo : dstOf ops i = o.dst := by unfold dstOf; rw [ho]; rfl
          have hG := hO i hir o ho vs l w hil hcl hT (fun d hd => hFs d (hds d hd))
          have hsel : ∀ cs b, o.op ≠ .select cs b := fun cs b => Region.noSelect_spec hB.sel i o cs b ho
          have hp : ((deps i) ++ l.filter (fun j => !(deps i).contains j)).Perm l := by
            refine List.Perm.trans (List.Perm.append_right _ ?_) (List.filter_append_perm (fun j => (deps i).contains j) l)
            refine (List.perm_ext_iff_of_nodup (hB.dnd i hir) (hnd.sublist List.filter_sublist)).2 fun x => ?_
            simp only [List.mem_filter, List.contains_iff_mem]
            exact ⟨fun h => ⟨hds x h, h⟩, fun h => h.2⟩
          have hl : lay ops vs l a0 = lay ops vs (l.filter (fun j => !(deps i).contains j)) (lay ops vs (deps i) a0) := by
            rw [← lay_app]
            refine (lay_perm hp (fun x hx y hy hxy d hd hd' => ?_) a0).symm
            have hx' := hsub x (hp.mem_iff.1 hx)
            have hy' := hsub y (hp.mem_iff.1 hy)
            exact (hB.dst x hx' y hy' hxy d hd').1 hd
          have hex := exec_lay (ops := ops) (vs := vs) hsel (l.filter (fun j => !(deps i).contains j)) (lay ops vs (deps i) a0) (fun j hj d hd => by
            simp only [List.mem_filter, Bool.not_eq_true', List.contains_eq_mem, decide_eq_false_iff_not] at hj
            have hji : i ≠ j := fun e => hil (e ▸ hj.1)
            have := ((hB.dst i hir j (hsub j hj.1) hji d hd).2).resolve_left hj.2
            unfold looks at this
            rwa [ho] at this)
          rw [← hl] at hex
          refine hG.wpOp ho hex.1 hex.2 (by rw [lay_size, lay_size]) ?_
          rintro v w' ⟨hK, hFi⟩
          have hT' := hTK i hir l hil w v w' hT hK
          refine ⟨hTS _ _ hT', ?_⟩
          rw [← mark_snoc]
          have hagree : ∀ j, j ≠ i → upd vs i v j = vs j := fun j hj => by unfold upd; rw [if_neg hj]
          have hmap : ∀ j, i ∉ deps j → (deps j).map (upd vs i v) = (deps j).map vs := fun j hj => List.map_congr_left fun x hx => hagree x (fun e => hj (e ▸ hx))
          have hla : (lay ops vs l a0).put o.dst v = lay ops (upd vs i v) (l ++ [i]) a0 := by
            rw [lay_snoc, hdo]
            rw [lay_congr (vs := upd vs i v) (vs' := vs) l a0 (fun j hj => hagree j (fun e => hil (e ▸ hj)))]
            simp [upd]
          rw [hla]
          refine ih (l ++ [i]) (upd vs i v) w' ?_ ?_ ?_ ?_ hT' ?_ ?_
          · exact List.nodup_append.2 ⟨hnd, List.nodup_cons.2 ⟨by simp, List.nodup_nil⟩, fun x hx y hy e => hil (by simp at hy; rw [← hy, ← e]; exact hx)⟩
          · intro j hj
            rcases List.mem_append.1 hj with h | h
            · exact hsub j h
            · simp at h; rw [h]; exact hir
          · simp; omega
          · intro j hj d hd
            rcases List.mem_append.1 hj with h | h
            · exact List.mem_append_left _ (hcl j h d hd)
            · simp at h; subst h; exact List.mem_append_left _ (hds d hd)
          · intro j hj
            rcases List.mem_append.1 hj with h | h
            · rw [hmap j (fun e => hil (hcl j h i e)), hagree j (fun e => hil (e ▸ h))]
              exact hF j (hsub j h) i hir (fun e => hil (e ▸ h)) (fun e => hil (hcl j h i e)) _ _ v l w w' h hil hds hcl hT hK (hFs j h)
            · simp at h; subst h
              rw [hmap j (fun e => hil (hds j e))]
              simpa [upd] using hFi
          · intro j hj j' hj' hne
            have hnew : ∀ q ∈ l, P2 q i (vs q) v ∧ P2 i q v (vs q) := fun q hq => hP q (hsub q hq) i hir (fun e => hil (e ▸ hq)) _ _ v l w w' hT hK (hFs q hq)
            have hvi : upd vs i v i = v := by simp [upd]
            rcases List.mem_append.1 hj with h | h
            · rw [hagree j (fun e => hil (e ▸ h))]
              rcases List.mem_append.1 hj' with h' | h'
              · rw [hagree j' (fun e => hil (e ▸ h'))]
                exact hPs j h j' h' hne
              · simp only [List.mem_singleton] at h'; subst h'
                rw [hvi]
                exact (hnew j h).1
            · simp only [List.mem_singleton] at h; subst h
              rcases List.mem_append.1 hj' with h' | h'
              · rw [hvi, hagree j' (fun e => hil (e ▸ h'))]
                exact (hnew j' h').2
              · simp only [List.mem_singleton] at h'
                exact absurd h'.symm hne
        · exfalso
          rcases hB.tl i hit with ⟨m, hm, hmt⟩ | h
          · have h1 := hi3 m hm
            obtain ⟨hmr, hmL⟩ := hB.tun m hmt
            rw [mark_old l L m false (fun e => hmr (hsub m e)), hmL] at h1
            cases h1
          · refine hfull fun r hr => ?_
            rcases h r hr with hd | ⟨m, hm, hmr, hrm⟩
            · exact hli r hr (hi3 r hd)
            · exact hcl m (hli m hmr (hi3 m hm)) r hrm
  have := key rem.length [] (fun _ => undef) w0 List.nodup_nil (fun i h => by cases h) (by simp) (fun i h => by cases h) hT0 (fun i h => by cases h) (fun i h => by cases h)
  exact this
end
end Go.Proofs.Ytfiiichiflglaaa

