/- rib.Look: a router's way to an address; over the seat's program. -/
import Derived.Test.YtahnnaagpeinkaaGreatDoorRb4
namespace Go.Proofs.YtahnnaagpeinkaaGreatDoor
open Go.RowKit Lx Sm
theorem ret_look (tm : Array Value) (N : Nat) (W : World) (v0 v1 v2 u : Value) (h2 : tm.getD 6 undef = .pointer (some ⟨N, 0, none⟩)) (h3 : tm.getD 7 undef = u) (c0 : W.cell? ⟨N, 0, none⟩ = some v0) (c1 : W.cell? ⟨N, 1, none⟩ = some v1) (c2 : W.cell? ⟨N, 2, none⟩ = some v2) :
    (results Tryz.f14 tm).run Tryz.prog W = .ok (.tuple #[.agg #[v0, v1, v2], u]) W := by
  have h2' : tm[6]?.getD undef = .pointer (some ⟨N, 0, none⟩) := by simpa using h2
  have h3' : tm[7]?.getD undef = u := by simpa using h3
  simp [results, Tryz.results14, go_sem, h2', h3', c0, c1, c2]

/-- a network in which ways may be looked for -/
structure RibOK (x : Cfg) : Prop where
  l : ∀ y ∈ x.ls, 0 ≤ y.2.2 ∧ y.2.2 ≤ 32
  p : ∀ y ∈ x.ps, 0 ≤ y.2.1 ∧ y.2.1 < x.ls.length
  o : ∀ y ∈ x.os, 0 ≤ y.2.2.1 ∧ y.2.2.1 ≤ 32
  c : ∀ y ∈ x.os, 0 ≤ y.2.2.2.2 ∧ y.2.2.2.2 ≤ 65535
theorem longP_mem (P : Int → Int × Int) (a : Int) : ∀ (L f : List Int) (m : Int) (q : Int), q ∈ (longP P a L f m).1 → q ∈ L ∨ q ∈ f
  | [], f, m, q, h => .inr h
  | i :: L, f, m, q, h => by
    unfold longP at h
    split at h
    · rcases longP_mem P a L _ _ q h with h | h
      · exact .inl (List.mem_cons_of_mem _ h)
      · exact .inr h
    · split at h
      · rcases longP_mem P a L _ _ q h with h | h
        · exact .inl (List.mem_cons_of_mem _ h)
        · simp only [List.mem_singleton] at h; subst h; exact .inl (List.mem_cons_self ..)
      · rcases longP_mem P a L _ _ q h with h | h
        · exact .inl (List.mem_cons_of_mem _ h)
        · rw [List.mem_append] at h
          rcases h with h | h
          · exact .inr h
          · simp only [List.mem_singleton] at h; subst h; exact .inl (List.mem_cons_self ..)
theorem longP_len (P : Int → Int × Int) (a : Int) (L : List Int) : (longP P a L [] 0).1.length ≤ L.length := by
  have := foldP_len P a L ([], 0)
  rw [longP_fold]
  simpa using this
theorem preP_alike {x x' : Cfg} (h : Alike x x') : preP x' = preP x := by
  funext i; unfold preP linkP; rw [h.l, h.p]
theorem preO_alike {x x' : Cfg} (h : Alike x x') : preO x' = preO x := by
  funext i; unfold preO; rw [h.o]
theorem portsOf_mem {x : Cfg} {r q : Int} (h : q ∈ portsOf x r) : ∃ j : Nat, j < x.ps.length ∧ q = j := by
  unfold portsOf rowIn at h
  split at h
  · have h2 : q ∈ picks (fun p => p.1 == ((r.toNat : Nat) : Int)) x.ps x.ps.length := h
    obtain ⟨j, h1, h2, _⟩ := picks_mem h2
    exact ⟨j, h1, h2⟩
  · cases h
theorem portsOf_len (x : Cfg) (r : Int) : (portsOf x r).length ≤ x.ps.length := by
  unfold portsOf rowIn
  split
  · exact picks_len (fun p => p.1 == ((r.toNat : Nat) : Int)) x.ps x.ps.length
  · simp
theorem routesOf_mem {x : Cfg} {r q : Int} (h : q ∈ routesOf x r) : ∃ j : Nat, j < x.os.length ∧ q = j := by
  obtain ⟨j, h1, h2, _⟩ := picks_mem h
  exact ⟨j, h1, h2⟩
theorem cheapR_in (os : List (Int × Int × Int × Int × Int)) : ∀ (L : List Int) (b : Int × Int × Int × Int × Int), b ∈ os → (∀ q ∈ L, ∃ j : Nat, j < os.length ∧ q = j) → cheapR os b L ∈ os
  | [], b, h, _ => h
  | i :: L, b, h, hL => by
    unfold cheapR
    refine cheapR_in os L _ ?_ (fun q hq => hL q (List.mem_cons_of_mem _ hq))
    split
    · obtain ⟨j, hj, rfl⟩ := hL i (List.mem_cons_self ..)
      unfold routeAt
      rw [Int.toNat_natCast, List.getElem?_eq_getElem hj]
      exact List.getElem_mem hj
    · exact h
theorem cheap_in {os : List (Int × Int × Int × Int × Int)} {L : List Int} (h : 0 < L.length) (hL : ∀ q ∈ L, ∃ j : Nat, j < os.length ∧ q = j) : cheap os L ∈ os := by
  cases L with
  | nil => simp at h
  | cons i L =>
    refine cheapR_in os L _ ?_ (fun q hq => hL q (List.mem_cons_of_mem _ hq))
    obtain ⟨j, hj, rfl⟩ := hL i (List.mem_cons_self ..)
    unfold routeAt
    rw [Int.toNat_natCast, List.getElem?_eq_getElem hj]
    exact List.getElem_mem hj
theorem look_near {x : Cfg} {r a v c : Int} {k : Nat} {p : Int} {l : List Int} {nb : Int} (h : nearP x r a = (p :: l, nb)) (hb : (farP x r a).2 ≤ nb) : lookP x r (k + 1) a v c = some (p, v, c) := by
  unfold lookP; rw [h]; simp [hb]
theorem look_far {x : Cfg} {r a v c : Int} {k : Nat} (h : (nearP x r a).1 = [] ∨ (nearP x r a).2 < (farP x r a).2) (hf : (farP x r a).1 ≠ []) : lookP x r (k + 1) a v c = lookP x r k (cheap x.os (farP x r a).1).2.2.2.1 (cheap x.os (farP x r a).1).2.2.2.1 (min (c + (cheap x.os (farP x r a).1).2.2.2.2) 65535) := by
  conv => lhs; unfold lookP
  generalize nearP x r a = N at *
  generalize farP x r a = F at *
  obtain ⟨NL, nb⟩ := N
  obtain ⟨FL, fb⟩ := F
  dsimp only at h hf ⊢
  cases NL with
  | nil => cases FL with
    | nil => exact absurd rfl hf
    | cons => rfl
  | cons p l =>
    have h2 : ¬ fb ≤ nb := by
      rcases h with h | h
      · cases h
      · omega
    cases FL with
    | nil => exact absurd rfl hf
    | cons => simp [h2]
theorem look_none {x : Cfg} {r a v c : Int} {k : Nat} (h : (nearP x r a).1 = [] ∨ (nearP x r a).2 < (farP x r a).2) (hf : (farP x r a).1 = []) : lookP x r (k + 1) a v c = none := by
  unfold lookP
  generalize nearP x r a = N at *
  generalize farP x r a = F at *
  obtain ⟨NL, nb⟩ := N
  obtain ⟨FL, fb⟩ := F
  dsimp only at h hf ⊢
  subst hf
  cases NL with
  | nil => rfl
  | cons p l =>
    have h2 : ¬ fb ≤ nb := by
      rcases h with h | h
      · cases h
      · omega
    simp [h2]
theorem store3z {W : World} {N b : Nat} {t : TypeId} {u0 u1 u2 : Value} (h : Blk W N t #[u0, u1, u2]) (hN : b ≤ N) (w : World) (hB : Below b w W) (v0 v1 v2 : Value) : ∃ W', W' = ((W.setCell ⟨N, 0, none⟩ v0).setCell ⟨N, 1, none⟩ v1).setCell ⟨N, 2, none⟩ v2 ∧ W'.cell? ⟨N, 0, none⟩ = some v0 ∧ W'.cell? ⟨N, 1, none⟩ = some v1 ∧ W'.cell? ⟨N, 2, none⟩ = some v2 ∧ Below b w W' := by
  have hk : Blk (((W.setCell ⟨N, 0, none⟩ v0).setCell ⟨N, 1, none⟩ v1).setCell ⟨N, 2, none⟩ v2) N t #[v0, v1, v2] := ((h.set_ 0 v0).set_ 1 v1).set_ 2 v2
  exact ⟨_, rfl, hk.cell 0, hk.cell 1, hk.cell 2, ((hB.setCell (by simpa using hN) _).setCell (by simpa using hN) _).setCell (by simpa using hN) _⟩
section
variable {b : Nat} {T : TP} {x : Cfg} {gs : List Int}
set_option maxHeartbeats 16000000 in
set_option maxRecDepth 100000 in
theorem look_any (r a0 : Int) (w : World) (h : TW w b T x gs) (hrn : ∀ y ∈ x.rs, (str y.1).size ≤ 281474976710656) (hln : ∀ y ∈ x.ls, (str y.1).size ≤ 281474976710656) (hok : RibOK x) :
    Calls Tryz.prog 14 #[.pointer (some ⟨T.N, 0, none⟩), .int .i64 r, .int .u32 a0] w fun e w' => e = .returned (.tuple #[.agg #[.int .i64 (lookA x r a0).1.1, .int .u32 (lookA x r a0).1.2.1, .int .i64 (lookA x r a0).1.2.2], .bool (lookA x r a0).2]) ∧ Below w.heap.size w w' := by
  have HPm : Hid (∀ q ∈ portsOf x r, ∃ j : Nat, j < x.ps.length ∧ q = j) := Lib.hid fun q hq => portsOf_mem hq
  have HQm : Hid (∀ q ∈ routesOf x r, ∃ j : Nat, j < x.os.length ∧ q = j) := Lib.hid fun q hq => routesOf_mem hq
  have HPl : Hid ((portsOf x r).length ≤ 1000000) := Lib.hid (by have := portsOf_len x r; have := h.net.oks.2.2.1.2; have := h.net.len.2.2.1; omega)
  have HQl : Hid ((routesOf x r).length ≤ 1000000) := Lib.hid (by have := picks_len (fun y => y.1 == r) x.os x.os.length; have := h.net.oks.2.2.2.1.2; have := h.net.len.2.2.2.1; unfold routesOf; omega)
  have HNr : Hid (∀ a, nearP x r a = longP (preP x) a (portsOf x r) [] 0) := Lib.hid fun _ => rfl
  have HFr : Hid (∀ a, farP x r a = longP (preO x) a (routesOf x r) [] 0) := Lib.hid fun _ => rfl
  have HOK := Lib.hid hok
  have HB0 := Lib.hid ((Below.refl w.heap.size w).alloc (Nat.le_refl _) (.cells #[.int .i64 0, .int .u32 0, .int .i64 0] 45))
  have HS := Lib.hid (Blk.new w 45 #[.int .i64 0, .int .u32 0, .int .i64 0])
  have HOW := Lib.hid fun W (hW : Below w.heap.size w W) => ownOf_any r W (h.next hW) hrn hln
  generalize portsOf x r = P at *
  generalize routesOf x r = Q at *
  clear h hrn hln hok
  go_enter Tryz.func14, Tryz.ntmps14
  go_upto_region 1 with fail
  generalize w.alloc (.cells #[.int .i64 0, .int .u32 0, .int .i64 0] 45) = W0 at *
  go_upto_region 2 with (go_at_call 27; refine (HOW.out _ HB0.out).mono ?_; rintro e w1 ⟨M, x', A, B, c, d, rfl, hm, hal, hja, hjb, hb⟩; have HM := Lib.hid hm; have HAL := Lib.hid hal; have HJA := Lib.hid hja; have HJB := Lib.hid hjb; have HB1 := Lib.hid (below_next HB0.out hb); have HS1 := Lib.hid (HS.out.next hb); clear hm hal hja hjb hb)
  have HBN := Lib.hid ((Below.refl w1.heap.size w1).alloc (Nat.le_refl _) (.cells #[.slice M.r.A M.r.n M.r.c, .slice M.l.A M.l.n M.l.c, .slice M.p.A M.p.n M.p.c, .slice M.o.A M.o.n M.o.c, .slice M.g.A M.g.n M.g.c, .slice M.s.A M.s.n M.s.c, .slice M.m.A M.m.n M.m.c, .slice A P.length c, .slice B Q.length d] 87))
  have HN8 := Lib.hid (Blk.new w1 87 #[.slice M.r.A M.r.n M.r.c, .slice M.l.A M.l.n M.l.c, .slice M.p.A M.p.n M.p.c, .slice M.o.A M.o.n M.o.c, .slice M.g.A M.g.n M.g.c, .slice M.s.A M.s.n M.s.c, .slice M.m.A M.m.n M.m.c, .slice A P.length c, .slice B Q.length d])
  have HLT : Hid (w.heap.size < w1.heap.size) := Lib.hid HS1.out.lt
  have HS2 := Lib.hid (HS1.out.next HBN.out)
  have HM2 := Lib.hid (HM.out.next HBN.out)
  have HJA2 := Lib.hid (HJA.out.next HBN.out)
  have HJB2 := Lib.hid (HJB.out.next HBN.out)
  have HB2 := Lib.hid (HB1.out.trans (HBN.out.mono HB1.out.size))
  have HZ2 : Hid ((w1.alloc (.cells #[.slice M.r.A M.r.n M.r.c, .slice M.l.A M.l.n M.l.c, .slice M.p.A M.p.n M.p.c, .slice M.o.A M.o.n M.o.c, .slice M.g.A M.g.n M.g.c, .slice M.s.A M.s.n M.s.c, .slice M.m.A M.m.n M.m.c, .slice A P.length c, .slice B Q.length d] 87)).heap.size = w1.heap.size + 1) := Lib.hid (by simp)
  clear HM HJA HJB HB1 HS1 HBN HB0 HS HOW
  generalize w1.alloc (.cells #[.slice M.r.A M.r.n M.r.c, .slice M.l.A M.l.n M.l.c, .slice M.p.A M.p.n M.p.c, .slice M.o.A M.o.n M.o.c, .slice M.g.A M.g.n M.g.c, .slice M.s.A M.s.n M.s.c, .slice M.m.A M.m.n M.m.c, .slice A P.length c, .slice B Q.length d] 87) = W2 at *
  go_upto_region 3 with fail
  have HBN := Lib.hid ((Below.refl W2.heap.size W2).alloc (Nat.le_refl _) (.cells #[.int .i64 0, .int .u32 0, .int .i64 0] 45))
  have HN9 := Lib.hid (Blk.new W2 45 #[.int .i64 0, .int .u32 0, .int .i64 0])
  have HZ3 : Hid ((W2.alloc (.cells #[.int .i64 0, .int .u32 0, .int .i64 0] 45)).heap.size = W2.heap.size + 1) := Lib.hid (by simp)
  generalize W2.alloc (.cells #[.int .i64 0, .int .u32 0, .int .i64 0] 45) = W3 at *
  go_wp2
  go_loopw [2, 18] (fun av i wr => ∃ (t : Nat) (a v c' : Int), t ≤ 7 ∧ i = .int .i64 t ∧ av = .int .u32 a ∧ Hid (lookP x r (7 - t) a v c' = lookP x r 7 a0 0 0) ∧ Hid (0 ≤ c' ∧ c' ≤ 65535) ∧ Hid (Blk wr W2.heap.size 45 #[.int .i64 0, .int .u32 v, .int .i64 c']) ∧ Hid (Below W2.heap.size W2 wr)) (fun _ i _ => 7 - (intOf i).toNat)
  case atStart => exact ⟨0, a0, 0, 0, Nat.zero_le _, rfl, rfl, rfl, ⟨by decide, by decide⟩, HN9, HBN⟩
  case round =>
    obtain ⟨t, a, v, cst, ht, rfl, rfl, HF, HCB, HN, HB⟩ := hrel
    rcases Nat.lt_or_ge t 7 with hlt | hge
    · have hi0 : (t : Int) < 7 := by omega
      have HF2 : Hid (lookP x r ((6 - t) + 1) a v cst = lookP x r 7 a0 0 0) := Lib.hid (by rw [← HF.out]; congr 1; omega)
      have HMr := Lib.hid (HM2.out.next HB.out)
      have HNN : Hid (nearP x r a = longP (preP x') a P [] 0) := Lib.hid (by rw [HNr.out, preP_alike HAL.out])
      have HFF : Hid (farP x r a = longP (preO x') a Q [] 0) := Lib.hid (by rw [HFr.out, preO_alike HAL.out])
      have HCO := Lib.hid fun W (hW : Below W2.heap.size W2 W) => conn_any M A B P.length c Q.length d x' P a W (HM2.out.next hW) (HJA2.out.next hW) HPl.out (by rw [HAL.out.p]; exact HPm.out) (by rw [HAL.out.p, HAL.out.l]; exact HOK.out.p) (by rw [HAL.out.l]; exact HOK.out.l)
      have HRO := Lib.hid fun W (hW : Below W2.heap.size W2 W) => rout_any M A B P.length c Q.length d x' Q a W (HM2.out.next hW) (HJB2.out.next hW) HQl.out (by rw [HAL.out.o]; exact HQm.out) (by rw [HAL.out.o]; exact HOK.out.o)
      have HCH := Lib.hid fun W (hW : Below W2.heap.size W2 W) C cc hj h0 hk hkc => cheapest_any M A B C P.length c Q.length d (longP (preO x') a Q [] 0).1.length cc x' (longP (preO x') a Q [] 0).1 W (HM2.out.next hW) hj h0 hk hkc (by
        rw [HAL.out.o]
        intro q hq
        rcases longP_mem _ _ _ _ _ _ hq with h | h
        · exact HQm.out q h
        · cases h)
      have HCI : Hid (0 < (longP (preO x') a Q [] 0).1.length → cheap x'.os (longP (preO x') a Q [] 0).1 ∈ x.os) := Lib.hid fun h0 => by
       rw [HAL.out.o]
       exact cheap_in h0 (by
        intro q hq
        rcases longP_mem _ _ _ _ _ _ hq with h | h
        · exact HQm.out q h
        · cases h)
      have HNl : Hid ((longP (preP x') a P [] 0).1.length ≤ 1000000) := Lib.hid (Nat.le_trans (longP_len _ _ _) HPl.out)
      have HFl : Hid ((longP (preO x') a Q [] 0).1.length ≤ 1000000) := Lib.hid (Nat.le_trans (longP_len _ _ _) HQl.out)
      have HOSe : Hid (x'.os = x.os) := Lib.hid HAL.out.o
      generalize longP (preP x') a P [] 0 = NP at *
      generalize longP (preO x') a Q [] 0 = FP at *
      obtain ⟨NL, nb⟩ := NP
      obtain ⟨FL, fb⟩ := FP
      dsimp only at HCO HRO HCH HCI HNl HFl
      obtain ⟨nl, hnl⟩ : ∃ nl, NL.length = nl := ⟨_, rfl⟩
      obtain ⟨fl, hfl0⟩ : ∃ fl, FL.length = fl := ⟨_, rfl⟩
      obtain ⟨RR, hRR⟩ : ∃ RR, cheap x'.os FL = RR := ⟨_, rfl⟩
      rw [hnl] at HCO HNl
      rw [hfl0] at HRO HCH HCI HFl
      rw [hRR] at HCH HCI
      obtain ⟨p0, hp0⟩ : ∃ p0, NL.getD 0 0 = p0 := ⟨_, rfl⟩
      have HP0 := Lib.hid hp0
      clear hp0
      have HNn := Lib.hid hnl
      have HFn := Lib.hid hfl0
      have HRR := Lib.hid hRR
      clear hnl hfl0 hRR
      obtain ⟨cr, ca, cb, cv, ccst⟩ := RR
      dsimp only [VRoute] at HCH
      have k0 : ∀ W, Below W2.heap.size W2 W → W.cell? ⟨w1.heap.size, 0, none⟩ = some (.slice M.r.A M.r.n M.r.c) := fun W hW => (HN8.out.next hW).cell 0
      have k1 : ∀ W, Below W2.heap.size W2 W → W.cell? ⟨w1.heap.size, 1, none⟩ = some (.slice M.l.A M.l.n M.l.c) := fun W hW => (HN8.out.next hW).cell 1
      have k2 : ∀ W, Below W2.heap.size W2 W → W.cell? ⟨w1.heap.size, 2, none⟩ = some (.slice M.p.A M.p.n M.p.c) := fun W hW => (HN8.out.next hW).cell 2
      have k3 : ∀ W, Below W2.heap.size W2 W → W.cell? ⟨w1.heap.size, 3, none⟩ = some (.slice M.o.A M.o.n M.o.c) := fun W hW => (HN8.out.next hW).cell 3
      have k4 : ∀ W, Below W2.heap.size W2 W → W.cell? ⟨w1.heap.size, 4, none⟩ = some (.slice M.g.A M.g.n M.g.c) := fun W hW => (HN8.out.next hW).cell 4
      have k5 : ∀ W, Below W2.heap.size W2 W → W.cell? ⟨w1.heap.size, 5, none⟩ = some (.slice M.s.A M.s.n M.s.c) := fun W hW => (HN8.out.next hW).cell 5
      have k6 : ∀ W, Below W2.heap.size W2 W → W.cell? ⟨w1.heap.size, 6, none⟩ = some (.slice M.m.A M.m.n M.m.c) := fun W hW => (HN8.out.next hW).cell 6
      have k7 : ∀ W, Below W2.heap.size W2 W → W.cell? ⟨w1.heap.size, 7, none⟩ = some (.slice A P.length c) := fun W hW => (HN8.out.next hW).cell 7
      have k8 : ∀ W, Below W2.heap.size W2 W → W.cell? ⟨w1.heap.size, 8, none⟩ = some (.slice B Q.length d) := fun W hW => (HN8.out.next hW).cell 8
      have hB := HB.out
      by_cases hn1 : 0 < nl
      · have hn2 : (0 : Int) < (nl : Int) := by omega
        by_cases hfb : fb ≤ nb
        · go_upto_region 8 with (first
            | (go_at_call 28; refine (HCO.out _ hB).mono ?_; rintro e w4 ⟨A1, c1, rfl, hc1, hj1, hb1⟩; have HJ1 := Lib.hid hj1; have hB1 : Below W2.heap.size W2 w4 := hB.trans (hb1.mono hB.size); have HN1 := Lib.hid (HN.out.next hb1); clear hc1 hj1 hb1)
            | (go_at_call 31; refine (HRO.out _ hB1).mono ?_; rintro e w5 ⟨A2, c2, rfl, hc2, hj2, hb2⟩; have HC2 := Lib.hid hc2; have HJ2 := Lib.hid hj2; have hB2 : Below W2.heap.size W2 w5 := hB1.trans (hb2.mono hB1.size); have HN2 := Lib.hid (HN1.out.next hb2); obtain ⟨bn, on, rfl, _, ln⟩ := (HJ1.out.next hb2).at_ hn1; rw [Nat.add_zero, HP0.out] at ln; clear hc2 hj2 hb2))
          have s0 : w5.cell? ⟨W2.heap.size, 0, none⟩ = some (.int .i64 0) := HN2.out.cell 0
          have z0 : w5.frozen? ⟨W2.heap.size, 0, none⟩ = false := HN2.out.frozen 0
          have HBe := Lib.hid (HB2.out.trans (hB2.mono HB2.out.size))
          clear k0 k1 k2 k3 k4 k5 k6 k7 k8
          go_upto_region 9 with fail
          have HN3 := Lib.hid (Blk.set_to HN2.out 0 (.int .i64 p0) (cs' := #[.int .i64 p0, .int .u32 v, .int .i64 cst]) rfl)
          have HS6 := Lib.hid ((HS2.out.next hB2).far (p := ⟨W2.heap.size, 0, none⟩) (by have := HLT.out; have := HZ2.out; simp; omega) (.int .i64 p0))
          have HB9 := Lib.hid (HBe.out.setCell (p := ⟨W2.heap.size, 0, none⟩) (by have := HLT.out; have := HZ2.out; simp; omega) (.int .i64 p0))
          clear s0 z0 ln hB hB1 hB2 HBe
          generalize w5.setCell ⟨W2.heap.size, 0, none⟩ (.int .i64 p0) = W6 at *
          have s0 : W6.cell? ⟨W2.heap.size, 0, none⟩ = some (.int .i64 p0) := HN3.out.cell 0
          have s1 : W6.cell? ⟨W2.heap.size, 1, none⟩ = some (.int .u32 v) := HN3.out.cell 1
          have s2 : W6.cell? ⟨W2.heap.size, 2, none⟩ = some (.int .i64 cst) := HN3.out.cell 2
          have q0 : W6.cell? ⟨w.heap.size, 0, none⟩ = some (.int .i64 0) := HS6.out.cell 0
          have q1 : W6.cell? ⟨w.heap.size, 1, none⟩ = some (.int .u32 0) := HS6.out.cell 1
          have q2 : W6.cell? ⟨w.heap.size, 2, none⟩ = some (.int .i64 0) := HS6.out.cell 2
          have y0 : W6.frozen? ⟨w.heap.size, 0, none⟩ = false := HS6.out.frozen 0
          have y1 : W6.frozen? ⟨w.heap.size, 1, none⟩ = false := HS6.out.frozen 1
          have y2 : W6.frozen? ⟨w.heap.size, 2, none⟩ = false := HS6.out.frozen 2
          go_wp2
          obtain ⟨W9, hW9, r0, r1, r2, hB9⟩ := store3z HS6.out (Nat.le_refl _) w HB9.out (.int .i64 p0) (.int .u32 v) (.int .i64 cst)
          rw [← hW9]
          clear hW9 q0 q1 q2 y0 y1 y2
          refine bodyPost_ret (ret_look _ w.heap.size _ _ _ _ _ rfl rfl r0 r1 r2) rfl ?_
          refine ⟨?_, hB9⟩
          have hl : lookP x r 7 a0 0 0 = some (p0, v, cst) := by
            rw [← HF2.out, ← HP0.out]
            obtain ⟨p, l, rfl⟩ : ∃ p l, NL = p :: l := by
              cases NL with
              | nil => have := HNn.out; simp at this; omega
              | cons p l => exact ⟨p, l, rfl⟩
            exact look_near HNN.out (by rw [HFF.out]; exact hfb)
          unfold lookA
          rw [hl]
          rfl
        · have hfb2 : nb < fb := by omega
          by_cases hfl : 0 < fl
          · have hf2 : ((fl : Int) == 0) = false := by simp; omega
            have hf3 : ¬ ((fl : Int) = 0) := by omega
            have HRB := Lib.hid (HOK.out.c _ (HCI.out hfl))
            have HFN : Hid (lookP x r ((6 - t) + 1) a v cst = lookP x r (6 - t) cv cv (min (cst + ccst) 65535)) := Lib.hid (by
              rw [look_far (by rw [HNN.out, HFF.out]; exact .inr hfb2) (by rw [HFF.out]; intro e; have h := HFn.out; rw [show FL = [] from e] at h; simp at h; omega), HFF.out, ← HOSe.out, HRR.out])
            go_upto_region 13 with (first
              | (go_at_call 28; refine (HCO.out _ hB).mono ?_; rintro e w4 ⟨A1, c1, rfl, hc1, hj1, hb1⟩; have HJ1 := Lib.hid hj1; have hB1 : Below W2.heap.size W2 w4 := hB.trans (hb1.mono hB.size); have HN1 := Lib.hid (HN.out.next hb1); clear hc1 hj1 hb1)
              | (go_at_call 31; refine (HRO.out _ hB1).mono ?_; rintro e w5 ⟨A2, c2, rfl, hc2, hj2, hb2⟩; have HC2 := Lib.hid hc2; have HJ2 := Lib.hid hj2; have hB2 : Below W2.heap.size W2 w5 := hB1.trans (hb2.mono hB1.size); have HN2 := Lib.hid (HN1.out.next hb2); clear hc2 hj2 hb2)
              | (go_at_call 32; refine (HCH.out _ hB2 A2 c2 HJ2.out hfl HFl.out HC2.out).mono ?_; rintro e w6 ⟨rfl, hb3⟩; have hB3 : Below W2.heap.size W2 w6 := hB2.trans (hb3.mono hB2.size); have HN3 := Lib.hid (HN2.out.next hb3); clear hb3))
            have HBa := Lib.hid ((Below.refl w6.heap.size w6).alloc (Nat.le_refl _) (.cells #[.int .i64 cr, .int .u32 ca, .int .i64 cb, .int .u32 cv, .int .i64 ccst] 64))
            have HRt := Lib.hid (Blk.new w6 64 #[.int .i64 cr, .int .u32 ca, .int .i64 cb, .int .u32 cv, .int .i64 ccst])
            have HNa := Lib.hid (HN3.out.next HBa.out)
            have HBb := Lib.hid (hB3.trans (HBa.out.mono hB3.size))
            have hne : w6.heap.size ≠ W2.heap.size := by have := HN3.out.lt; omega
            clear HBa hB hB1 hB2 hB3 k0 k1 k2 k3 k4 k5 k6 k7 k8
            generalize w6.alloc (.cells #[.int .i64 cr, .int .u32 ca, .int .i64 cb, .int .u32 cv, .int .i64 ccst] 64) = Wa at *
            have g3 : Wa.cell? ⟨w6.heap.size, 3, none⟩ = some (.int .u32 cv) := HRt.out.cell 3
            have q1 : Wa.cell? ⟨W2.heap.size, 1, none⟩ = some (.int .u32 v) := HNa.out.cell 1
            have y1 : Wa.frozen? ⟨W2.heap.size, 1, none⟩ = false := HNa.out.frozen 1
            go_upto_region 14 with fail
            have HNb := Lib.hid (Blk.set_to HNa.out 1 (.int .u32 cv) (cs' := #[.int .i64 0, .int .u32 cv, .int .i64 cst]) rfl)
            have HRb := Lib.hid (HRt.out.far (p := ⟨W2.heap.size, 1, none⟩) hne (.int .u32 cv))
            have HBc := Lib.hid (HBb.out.setCell (p := ⟨W2.heap.size, 1, none⟩) (Nat.le_refl _) (.int .u32 cv))
            clear g3 q1 y1 HNa HRt HBb
            generalize Wa.setCell ⟨W2.heap.size, 1, none⟩ (.int .u32 cv) = Wb at *
            have g4 : Wb.cell? ⟨w6.heap.size, 4, none⟩ = some (.int .i64 ccst) := HRb.out.cell 4
            have q2 : Wb.cell? ⟨W2.heap.size, 2, none⟩ = some (.int .i64 cst) := HNb.out.cell 2
            have y2 : Wb.frozen? ⟨W2.heap.size, 2, none⟩ = false := HNb.out.frozen 2
            have hwr : wrap64 (cst + ccst) = cst + ccst := by have h1 := HCB.out; have h2 := HRB.out; unfold wrap64; omega
            go_upto_region 15 with fail
            have HNc := Lib.hid (Blk.set_to HNb.out 2 (.int .i64 (min (cst + ccst) 65535)) (cs' := #[.int .i64 0, .int .u32 cv, .int .i64 (min (cst + ccst) 65535)]) rfl)
            have HRc := Lib.hid (HRb.out.far (p := ⟨W2.heap.size, 2, none⟩) hne (.int .i64 (min (cst + ccst) 65535)))
            have HBd := Lib.hid (HBc.out.setCell (p := ⟨W2.heap.size, 2, none⟩) (Nat.le_refl _) (.int .i64 (min (cst + ccst) 65535)))
            clear g4 q2 y2 HNb HRb HBc
            generalize Wb.setCell ⟨W2.heap.size, 2, none⟩ (.int .i64 (min (cst + ccst) 65535)) = Wc at *
            have HMB : Hid (0 ≤ min (cst + ccst) 65535 ∧ min (cst + ccst) 65535 ≤ 65535) := Lib.hid (by have h1 := HCB.out; have h2 := HRB.out; omega)
            have g3 : Wc.cell? ⟨w6.heap.size, 3, none⟩ = some (.int .u32 cv) := HRc.out.cell 3
            have HF3 : Hid (lookP x r (7 - (t + 1)) cv cv (min (cst + ccst) 65535) = lookP x r 7 a0 0 0) := Lib.hid (by rw [show 7 - (t + 1) = 6 - t by omega]; exact HFN.out.symm.trans HF2.out)
            go_wp2
            clear g3
            generalize min (cst + ccst) 65535 = mc at *
            go_roundw
            case rel => exact ⟨t + 1, cv, cv, mc, by omega, by go_num, rfl, HF3, HMB, HNc, HBd⟩
            case measure => simp [intOf]; omega
          · obtain rfl : fl = 0 := by omega
            have HFN : Hid (lookP x r ((6 - t) + 1) a v cst = none) := Lib.hid (look_none (by rw [HNN.out, HFF.out]; exact .inr hfb2) (by rw [HFF.out]; exact List.eq_nil_of_length_eq_zero HFn.out))
            go_upto_region 11 with (first
              | (go_at_call 28; refine (HCO.out _ hB).mono ?_; rintro e w4 ⟨A1, c1, rfl, hc1, hj1, hb1⟩; have HJ1 := Lib.hid hj1; have hB1 : Below W2.heap.size W2 w4 := hB.trans (hb1.mono hB.size); have HN1 := Lib.hid (HN.out.next hb1); clear hc1 hj1 hb1)
              | (go_at_call 31; refine (HRO.out _ hB1).mono ?_; rintro e w5 ⟨A2, c2, rfl, hc2, hj2, hb2⟩; have HC2 := Lib.hid hc2; have HJ2 := Lib.hid hj2; have hB2 : Below W2.heap.size W2 w5 := hB1.trans (hb2.mono hB1.size); have HN2 := Lib.hid (HN1.out.next hb2); clear hc2 hj2 hb2))
            have HBe := Lib.hid (HB2.out.trans (hB2.mono HB2.out.size))
            have HS6 := Lib.hid (HS2.out.next hB2)
            have q0 : w5.cell? ⟨w.heap.size, 0, none⟩ = some (.int .i64 0) := HS6.out.cell 0
            have q1 : w5.cell? ⟨w.heap.size, 1, none⟩ = some (.int .u32 0) := HS6.out.cell 1
            have q2 : w5.cell? ⟨w.heap.size, 2, none⟩ = some (.int .i64 0) := HS6.out.cell 2
            have y0 : w5.frozen? ⟨w.heap.size, 0, none⟩ = false := HS6.out.frozen 0
            have y1 : w5.frozen? ⟨w.heap.size, 1, none⟩ = false := HS6.out.frozen 1
            have y2 : w5.frozen? ⟨w.heap.size, 2, none⟩ = false := HS6.out.frozen 2
            clear k0 k1 k2 k3 k4 k5 k6 k7 k8
            go_wp2
            obtain ⟨W9, hW9, r0, r1, r2, hB9⟩ := store3z HS6.out (Nat.le_refl _) w HBe.out (.int .i64 0) (.int .u32 0) (.int .i64 0)
            rw [← hW9]
            clear hW9 q0 q1 q2 y0 y1 y2
            refine bodyPost_ret (ret_look _ w.heap.size _ _ _ _ _ rfl rfl r0 r1 r2) rfl ?_
            refine ⟨?_, hB9⟩
            have hl : lookP x r 7 a0 0 0 = none := HF2.out.symm.trans HFN.out
            unfold lookA
            rw [hl]
            rfl
      · obtain rfl : nl = 0 := by omega
        by_cases hfl : 0 < fl
        · have hf2 : ((fl : Int) == 0) = false := by simp; omega
          have hf3 : ¬ ((fl : Int) = 0) := by omega
          have HRB := Lib.hid (HOK.out.c _ (HCI.out hfl))
          have HFN : Hid (lookP x r ((6 - t) + 1) a v cst = lookP x r (6 - t) cv cv (min (cst + ccst) 65535)) := Lib.hid (by
            rw [look_far (by rw [HNN.out, HFF.out]; exact .inl (List.eq_nil_of_length_eq_zero HNn.out)) (by rw [HFF.out]; intro e; have h := HFn.out; rw [show FL = [] from e] at h; simp at h; omega), HFF.out, ← HOSe.out, HRR.out])
          go_upto_region 13 with (first
            | (go_at_call 28; refine (HCO.out _ hB).mono ?_; rintro e w4 ⟨A1, c1, rfl, hc1, hj1, hb1⟩; have HJ1 := Lib.hid hj1; have hB1 : Below W2.heap.size W2 w4 := hB.trans (hb1.mono hB.size); have HN1 := Lib.hid (HN.out.next hb1); clear hc1 hj1 hb1)
            | (go_at_call 31; refine (HRO.out _ hB1).mono ?_; rintro e w5 ⟨A2, c2, rfl, hc2, hj2, hb2⟩; have HC2 := Lib.hid hc2; have HJ2 := Lib.hid hj2; have hB2 : Below W2.heap.size W2 w5 := hB1.trans (hb2.mono hB1.size); have HN2 := Lib.hid (HN1.out.next hb2); clear hc2 hj2 hb2)
            | (go_at_call 32; refine (HCH.out _ hB2 A2 c2 HJ2.out hfl HFl.out HC2.out).mono ?_; rintro e w6 ⟨rfl, hb3⟩; have hB3 : Below W2.heap.size W2 w6 := hB2.trans (hb3.mono hB2.size); have HN3 := Lib.hid (HN2.out.next hb3); clear hb3))
          have HBa := Lib.hid ((Below.refl w6.heap.size w6).alloc (Nat.le_refl _) (.cells #[.int .i64 cr, .int .u32 ca, .int .i64 cb, .int .u32 cv, .int .i64 ccst] 64))
          have HRt := Lib.hid (Blk.new w6 64 #[.int .i64 cr, .int .u32 ca, .int .i64 cb, .int .u32 cv, .int .i64 ccst])
          have HNa := Lib.hid (HN3.out.next HBa.out)
          have HBb := Lib.hid (hB3.trans (HBa.out.mono hB3.size))
          have hne : w6.heap.size ≠ W2.heap.size := by have := HN3.out.lt; omega
          clear HBa hB hB1 hB2 hB3 k0 k1 k2 k3 k4 k5 k6 k7 k8
          generalize w6.alloc (.cells #[.int .i64 cr, .int .u32 ca, .int .i64 cb, .int .u32 cv, .int .i64 ccst] 64) = Wa at *
          have g3 : Wa.cell? ⟨w6.heap.size, 3, none⟩ = some (.int .u32 cv) := HRt.out.cell 3
          have q1 : Wa.cell? ⟨W2.heap.size, 1, none⟩ = some (.int .u32 v) := HNa.out.cell 1
          have y1 : Wa.frozen? ⟨W2.heap.size, 1, none⟩ = false := HNa.out.frozen 1
          go_upto_region 14 with fail
          have HNb := Lib.hid (Blk.set_to HNa.out 1 (.int .u32 cv) (cs' := #[.int .i64 0, .int .u32 cv, .int .i64 cst]) rfl)
          have HRb := Lib.hid (HRt.out.far (p := ⟨W2.heap.size, 1, none⟩) hne (.int .u32 cv))
          have HBc := Lib.hid (HBb.out.setCell (p := ⟨W2.heap.size, 1, none⟩) (Nat.le_refl _) (.int .u32 cv))
          clear g3 q1 y1 HNa HRt HBb
          generalize Wa.setCell ⟨W2.heap.size, 1, none⟩ (.int .u32 cv) = Wb at *
          have g4 : Wb.cell? ⟨w6.heap.size, 4, none⟩ = some (.int .i64 ccst) := HRb.out.cell 4
          have q2 : Wb.cell? ⟨W2.heap.size, 2, none⟩ = some (.int .i64 cst) := HNb.out.cell 2
          have y2 : Wb.frozen? ⟨W2.heap.size, 2, none⟩ = false := HNb.out.frozen 2
          have hwr : wrap64 (cst + ccst) = cst + ccst := by have h1 := HCB.out; have h2 := HRB.out; unfold wrap64; omega
          go_upto_region 15 with fail
          have HNc := Lib.hid (Blk.set_to HNb.out 2 (.int .i64 (min (cst + ccst) 65535)) (cs' := #[.int .i64 0, .int .u32 cv, .int .i64 (min (cst + ccst) 65535)]) rfl)
          have HRc := Lib.hid (HRb.out.far (p := ⟨W2.heap.size, 2, none⟩) hne (.int .i64 (min (cst + ccst) 65535)))
          have HBd := Lib.hid (HBc.out.setCell (p := ⟨W2.heap.size, 2, none⟩) (Nat.le_refl _) (.int .i64 (min (cst + ccst) 65535)))
          clear g4 q2 y2 HNb HRb HBc
          generalize Wb.setCell ⟨W2.heap.size, 2, none⟩ (.int .i64 (min (cst + ccst) 65535)) = Wc at *
          have HMB : Hid (0 ≤ min (cst + ccst) 65535 ∧ min (cst + ccst) 65535 ≤ 65535) := Lib.hid (by have h1 := HCB.out; have h2 := HRB.out; omega)
          have g3 : Wc.cell? ⟨w6.heap.size, 3, none⟩ = some (.int .u32 cv) := HRc.out.cell 3
          have HF3 : Hid (lookP x r (7 - (t + 1)) cv cv (min (cst + ccst) 65535) = lookP x r 7 a0 0 0) := Lib.hid (by rw [show 7 - (t + 1) = 6 - t by omega]; exact HFN.out.symm.trans HF2.out)
          go_wp2
          clear g3
          generalize min (cst + ccst) 65535 = mc at *
          go_roundw
          case rel => exact ⟨t + 1, cv, cv, mc, by omega, by go_num, rfl, HF3, HMB, HNc, HBd⟩
          case measure => simp [intOf]; omega
        · obtain rfl : fl = 0 := by omega
          have HFN : Hid (lookP x r ((6 - t) + 1) a v cst = none) := Lib.hid (look_none (by rw [HNN.out, HFF.out]; exact .inl (List.eq_nil_of_length_eq_zero HNn.out)) (by rw [HFF.out]; exact List.eq_nil_of_length_eq_zero HFn.out))
          go_upto_region 11 with (first
            | (go_at_call 28; refine (HCO.out _ hB).mono ?_; rintro e w4 ⟨A1, c1, rfl, hc1, hj1, hb1⟩; have HJ1 := Lib.hid hj1; have hB1 : Below W2.heap.size W2 w4 := hB.trans (hb1.mono hB.size); have HN1 := Lib.hid (HN.out.next hb1); clear hc1 hj1 hb1)
            | (go_at_call 31; refine (HRO.out _ hB1).mono ?_; rintro e w5 ⟨A2, c2, rfl, hc2, hj2, hb2⟩; have HC2 := Lib.hid hc2; have HJ2 := Lib.hid hj2; have hB2 : Below W2.heap.size W2 w5 := hB1.trans (hb2.mono hB1.size); have HN2 := Lib.hid (HN1.out.next hb2); clear hc2 hj2 hb2))
          have HBe := Lib.hid (HB2.out.trans (hB2.mono HB2.out.size))
          have HS6 := Lib.hid (HS2.out.next hB2)
          have q0 : w5.cell? ⟨w.heap.size, 0, none⟩ = some (.int .i64 0) := HS6.out.cell 0
          have q1 : w5.cell? ⟨w.heap.size, 1, none⟩ = some (.int .u32 0) := HS6.out.cell 1
          have q2 : w5.cell? ⟨w.heap.size, 2, none⟩ = some (.int .i64 0) := HS6.out.cell 2
          have y0 : w5.frozen? ⟨w.heap.size, 0, none⟩ = false := HS6.out.frozen 0
          have y1 : w5.frozen? ⟨w.heap.size, 1, none⟩ = false := HS6.out.frozen 1
          have y2 : w5.frozen? ⟨w.heap.size, 2, none⟩ = false := HS6.out.frozen 2
          clear k0 k1 k2 k3 k4 k5 k6 k7 k8
          go_wp2
          obtain ⟨W9, hW9, r0, r1, r2, hB9⟩ := store3z HS6.out (Nat.le_refl _) w HBe.out (.int .i64 0) (.int .u32 0) (.int .i64 0)
          rw [← hW9]
          clear hW9 q0 q1 q2 y0 y1 y2
          refine bodyPost_ret (ret_look _ w.heap.size _ _ _ _ _ rfl rfl r0 r1 r2) rfl ?_
          refine ⟨?_, hB9⟩
          have hl : lookP x r 7 a0 0 0 = none := HF2.out.symm.trans HFN.out
          unfold lookA
          rw [hl]
          rfl
    · obtain rfl : t = 7 := by omega
      have hi0 : ¬ (((7 : Nat) : Int) < 7) := by omega
      have HBe := Lib.hid (HB2.out.trans (HB.out.mono HB2.out.size))
      have HS6 := Lib.hid (HS2.out.next HB.out)
      have q0 : wr.cell? ⟨w.heap.size, 0, none⟩ = some (.int .i64 0) := HS6.out.cell 0
      have q1 : wr.cell? ⟨w.heap.size, 1, none⟩ = some (.int .u32 0) := HS6.out.cell 1
      have q2 : wr.cell? ⟨w.heap.size, 2, none⟩ = some (.int .i64 0) := HS6.out.cell 2
      have y0 : wr.frozen? ⟨w.heap.size, 0, none⟩ = false := HS6.out.frozen 0
      have y1 : wr.frozen? ⟨w.heap.size, 1, none⟩ = false := HS6.out.frozen 1
      have y2 : wr.frozen? ⟨w.heap.size, 2, none⟩ = false := HS6.out.frozen 2
      go_wp2
      obtain ⟨W9, hW9, r0, r1, r2, hB9⟩ := store3z HS6.out (Nat.le_refl _) w HBe.out (.int .i64 0) (.int .u32 0) (.int .i64 0)
      rw [← hW9]
      clear hW9 q0 q1 q2 y0 y1 y2
      refine bodyPost_ret (ret_look _ w.heap.size _ _ _ _ _ rfl rfl r0 r1 r2) rfl ?_
      refine ⟨?_, hB9⟩
      have hl : lookP x r 7 a0 0 0 = none := HF.out.symm
      unfold lookA
      rw [hl]
      rfl
end
end Go.Proofs.YtahnnaagpeinkaaGreatDoor

