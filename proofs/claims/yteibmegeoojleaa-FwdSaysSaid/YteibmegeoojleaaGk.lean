/- The document's Do; over the seat's program. -/
import Derived.Test.YteibmegeoojleaaGj
namespace Go.Proofs.Yteibmegeoojleaa
open Go.ChangeShapes Go.WideShapes Go.ChangeAt Go.RowKit Sm Go.Maps
theorem store2k {W : World} {N b : Nat} {t : TypeId} (hs : Slot W N t 2) (hN : b ≤ N) (w : World) (hB : Below b w W) (v0 v1 : Value) : ∃ W', W' = ((W.setCell ⟨N, 0, none⟩ v0).setCell ⟨N, 1, none⟩ v1) ∧ Blk W' N t #[v0, v1] ∧ Below b w W' ∧ (∀ g, g ≠ N → W'.heap[g]? = W.heap[g]?) := by
  obtain ⟨cs, hz, hb⟩ := hs
  refine ⟨_, rfl, ?_, ((hB.setCell (by simpa using hN) v0).setCell (by simpa using hN) v1), fun g hn => by
    have f : ∀ (W : World) (i : Nat) (v : Value), (W.setCell ⟨N, i, none⟩ v).heap[g]? = W.heap[g]? := fun W i v => Below.heap_setCell _ _ _ _ (by simpa using hn)
    rw [f, f]⟩
  have h := ((hb.set_ 0 v0).set_ 1 v1)
  have e : ((cs.setIfInBounds 0 v0).setIfInBounds 1 v1) = #[v0, v1] := by
    apply Array.ext_getElem?
    intro i
    rcases i with _ | _ | i <;> simp [hz]
  rw [e] at h
  exact h
theorem ret_ddo (tm : Array Value) (N : Nat) (W : World) (v0 v1 u z : Value) (h1 : tm.getD 10 undef = u) (h2 : tm.getD 11 undef = .pointer (some ⟨N, 0, none⟩)) (h3 : tm.getD 12 undef = z) (c0 : W.cell? ⟨N, 0, none⟩ = some v0) (c1 : W.cell? ⟨N, 1, none⟩ = some v1) :
    (results Try.f9 tm).run Try.prog W = .ok (.tuple #[u, .agg #[v0, v1], z]) W := by
  have h1' : tm[10]?.getD undef = u := by simpa using h1
  have h2' : tm[11]?.getD undef = .pointer (some ⟨N, 0, none⟩) := by simpa using h2
  have h3' : tm[12]?.getD undef = z := by simpa using h3
  simp [results, Try.results9, go_sem, h1', h2', h3', c0, c1]
/-- what a region that stores into a variable of its own leaves as it was -/
structure SB (b N : Nat) (t : TypeId) (W W' : World) : Prop where
  b : Below b W W'
  slot : Slot W' N t 2
section
variable {b N : Nat} {t : TypeId} {W W' : World}
theorem SB.drew (h : SB b N t W W') : SB b N t W W'.drew := ⟨h.b.drew, h.slot.next (Below.refl _ _).drew⟩
theorem SB.set2 (h : SB b N t W W') (hN : b ≤ N) (v0 v1 : Value) : SB b N t W ((W'.setCell ⟨N, 0, none⟩ v0).setCell ⟨N, 1, none⟩ v1) := by
  obtain ⟨W9, e, h1, h2, _⟩ := store2k h.slot hN W h.b v0 v1
  rw [← e]
  exact ⟨h2, h1.slot⟩
end
def DDoOK (B : Nat) (w : World) (e : Ending) (w' : World) (D : PDeed) : Prop := (∃ A' c', e = .returned (.tuple #[.int .i64 D.d, .agg #[.int .u32 D.k.1, .int .u32 D.k.2], .slice A' D.xs.length c']) ∧ w'.ownsRow 0 3 1 (.slice A' D.xs.length c') D.xs.length (I64 D.xs)) ∧ Below B w w'
set_option maxRecDepth 100000 in
set_option maxHeartbeats 4000000 in
theorem ddo_any (A : Option Addr) (n c : Nat) (ms : List PMr) (B2 : Option Addr) (n2 c2 : Nat) (L : List Lo) (r k1 k2 pp : Int) (w : World) (h : RI CRw 6 w A n ms) (hj : ∀ m ∈ ms, JR w m.A m.p.xs.length m.p.xs) (hn : n ≤ 1000) (hx : ∀ m ∈ ms, m.p.xs.length ≤ 1000)
    (hl : RI CLo 3 w B2 n2 L) (hln : n2 ≤ 1000) :
    Calls Try.prog 9 #[.slice A n c, .slice B2 n2 c2, .int .i64 r, .agg #[.int .u32 k1, .int .u32 k2], .int .i64 pp] w fun e w' => DDoOK w.heap.size w e w' (doR (ms.map PMr.p) L r (k1, k2) pp) := by
  have HB0 := Lib.hid (((Below.refl w.heap.size w).alloc (Nat.le_refl _) (.cells #[.int .u32 k1, .int .u32 k2] 27)).alloc (by simp) (.cells #[.int .u32 0, .int .u32 0] 27))
  have HK : Hid (Blk ((w.alloc (.cells #[.int .u32 k1, .int .u32 k2] 27)).alloc (.cells #[.int .u32 0, .int .u32 0] 27)) w.heap.size 27 #[.int .u32 k1, .int .u32 k2]) := Lib.hid ((Blk.new _ _ _).alloc _)
  have HS : Hid (Blk ((w.alloc (.cells #[.int .u32 k1, .int .u32 k2] 27)).alloc (.cells #[.int .u32 0, .int .u32 0] 27)) (w.heap.size + 1) 27 #[.int .u32 0, .int .u32 0]) := Lib.hid (by simpa using Blk.new (w.alloc (.cells #[.int .u32 k1, .int .u32 k2] 27)) 27 #[.int .u32 0, .int .u32 0])
  have HNB : Hid (w.heap.size ≤ w.heap.size + 1) := Lib.hid (by omega)
  have HU := Lib.hid (fun W (hW : Below w.heap.size w W) => dused_any A n c ms r k1 k2 W (h.next hW) hn)
  have HIL := Lib.hid (fun W (hW : Below w.heap.size w W) x => dlost_any B2 n2 c2 L x k1 k2 W (hl.next hW) hln)
  have HUR := Lib.hid (usedI_R (ms.map PMr.p) r (k1, k2))
  have HRI := Lib.hid h
  have HJM := Lib.hid hj
  have HXM := Lib.hid hx
  have HDR : Hid (doR (ms.map PMr.p) L r (k1, k2) pp = match rowR (ms.map PMr.p) r (k1, k2) with
    | none => ⟨0, (0, 0), []⟩
    | some p => if p.i = pp then ⟨2, p.k, outL p.xs L (k1, k2) pp⟩ else ⟨1, p.k, []⟩) := Lib.hid rfl
  clear h hj hx hl hln
  generalize rowR (ms.map PMr.p) r (k1, k2) = R at *
  generalize usedI (ms.map PMr.p) r (k1, k2) = U at *
  go_enter Try.func9, Try.ntmps9
  go_upto_region 1 with fail
  generalize (w.alloc (.cells #[.int .u32 k1, .int .u32 k2] 27)).alloc (.cells #[.int .u32 0, .int .u32 0] 27) = W0 at *
  have z0 : W0.cell? ⟨w.heap.size, 0, none⟩ = some (.int .u32 k1) := HK.out.cell 0
  have z1 : W0.cell? ⟨w.heap.size, 1, none⟩ = some (.int .u32 k2) := HK.out.cell 1
  go_upto_region 2 with (go_at_call 13; refine (HU.out W0 HB0.out).mono ?_; rintro e w1 ⟨rfl, hb⟩; have HB1 := Lib.hid (below_next HB0.out hb); have HQ1 := Lib.hid hb; clear hb)
  clear z0 z1 HU
  have HK1 := Lib.hid (HK.out.next HQ1.out)
  have HS1 := Lib.hid (HS.out.next HQ1.out)
  rcases HUR.out with ⟨hu, hr⟩ | ⟨i, p, hu, hip, hr⟩
  · subst hr
    subst hu
    have m0 : w1.cell? ⟨w.heap.size + 1, 0, none⟩ = some (.int .u32 0) := HS1.out.cell 0
    have m1 : w1.cell? ⟨w.heap.size + 1, 1, none⟩ = some (.int .u32 0) := HS1.out.cell 1
    have f0 := HS1.out.frozen 0
    have f1 := HS1.out.frozen 1
    obtain ⟨W9, hW9, hk9, hb9, _⟩ := store2k HS1.out.slot HNB.out w HB1.out (.int .u32 0) (.int .u32 0)
    have HW9 := Lib.hid hW9
    have HK9 := Lib.hid (And.intro hk9 hb9)
    clear hW9 hk9 hb9
    go_wp2
    rw [← HW9.out]
    refine bodyPost_ret (ret_ddo _ (w.heap.size + 1) _ _ _ _ _ rfl rfl rfl (HK9.out.1.cell 0) (HK9.out.1.cell 1)) rfl ?_
    rw [HDR.out]
    exact ⟨⟨none, 0, rfl, World.ownsRow_nil _ _ _ _⟩, by first | exact HK9.out.2 | exact HK9.out.2.drew⟩
  · subst hr
    subst hu
    obtain ⟨m, hm, hmp⟩ : ∃ m, ms[i]? = some m ∧ m.p = p := by
      rw [List.getElem?_map] at hip
      cases hmi : ms[i]? with
      | none => rw [hmi] at hip; cases hip
      | some m => rw [hmi] at hip; cases hip; exact ⟨m, rfl, rfl⟩
    have hil : i < n := by have := (List.getElem?_eq_some_iff.1 hm).1; have := HRI.out.len; omega
    obtain ⟨b5, o5, m', rfl, hbl, hm', hcl⟩ := HRI.out.at_ hil
    obtain rfl : m = m' := by rw [hm] at hm'; cases hm'; rfl
    have HJX := Lib.hid (HJM.out m (List.mem_of_getElem? hm))
    have HLX := Lib.hid (HXM.out m (List.mem_of_getElem? hm))
    subst hmp
    obtain ⟨⟨pr, ri, ru, ⟨ks, kg⟩, px⟩, xA, xc⟩ := m
    dsimp only at HJX HLX HDR
    have CC : Hid (∀ W, Below w.heap.size w W → W.cell? ⟨b5, o5 + i * 6 + 1, none⟩ = some (.int .i64 ri) ∧ W.cell? ⟨b5, o5 + i * 6 + 3, none⟩ = some (.int .u32 ks) ∧ W.cell? ⟨b5, o5 + i * 6 + 4, none⟩ = some (.int .u32 kg) ∧ W.cell? ⟨b5, o5 + i * 6 + 5, none⟩ = some (.slice xA px.length xc)) := Lib.hid (fun W hW =>
      ⟨(hW.cell (p := ⟨b5, o5 + i * 6 + 1, none⟩) hbl).trans (hcl 1 _ rfl), (hW.cell (p := ⟨b5, o5 + i * 6 + 3, none⟩) hbl).trans (hcl 3 _ rfl), (hW.cell (p := ⟨b5, o5 + i * 6 + 4, none⟩) hbl).trans (hcl 4 _ rfl), (hW.cell (p := ⟨b5, o5 + i * 6 + 5, none⟩) hbl).trans (hcl 5 _ rfl)⟩)
    clear hip hm hm' hcl hbl HUR
    have hi0 : (i : Int) < (n : Int) := by omega
    have hi1 : ¬ (i : Int) < 0 := by omega
    have hi2 : decide ((i : Int) < 0) = false := by simp
    by_cases hq : ri = pp
    · have HD : Hid (doR (ms.map PMr.p) L r (k1, k2) pp = ⟨2, (ks, kg), outL px L (k1, k2) pp⟩) := Lib.hid (by rw [HDR.out]; exact if_pos hq)
      have e0 : (ri != pp) = false := by simp [hq]
      have t1 := (CC.out w1 HB1.out).1
      clear hq HDR
      go_upto_region 7 with fail
      clear t1 e0
      go_wp2_with fail
      go_loopw [14, 15] (fun sv iv wr => ∃ (j : Nat), j ≤ px.length ∧ iv = .int .i64 j ∧ Hid (wr.ownsRow w1.heap.size 3 1 sv (outL (px.take j) L (k1, k2) pp).length (I64 (outL (px.take j) L (k1, k2) pp))) ∧ Hid (Below w1.heap.size w1 wr)) (fun _ iv _ => px.length - (intOf iv).toNat)
      case atStart => exact ⟨0, Nat.zero_le _, rfl, Lib.hid (World.ownsRow_nil _ _ _ _), Lib.hid (Below.refl _ _)⟩
      case round =>
        obtain ⟨j, hjl, rfl, HO, HB⟩ := hrel
        have HBX := Lib.hid (HB1.out.trans (HB.out.mono HB1.out.size))
        have t5 := (CC.out wr HBX.out).2.2.2
        rcases Nat.lt_or_ge j px.length with hlt | hge
        · have hj0 : (j : Int) < (px.length : Int) := by omega
          have hpx : px.length ≤ 1000 := HLX.out
          obtain ⟨bo, oo, hpA, hblo, hco⟩ := (HJX.out.next HBX.out).at_ hlt
          have hxk : px[j]? = some (px.getD j 0) := by rw [List.getD_eq_getElem?_getD, List.getElem?_eq_getElem hlt]; rfl
          generalize px.getD j 0 = xj at *
          have HXK := Lib.hid hxk
          have HTK : Hid (outL (px.take (j + 1)) L (k1, k2) pp = outL (px.take j) L (k1, k2) pp ++ (if !(decide ((xj, (k1, k2)) ∈ L) || xj == pp) then [xj] else [])) := Lib.hid (by
            unfold outL
            rw [List.take_add_one, hxk, List.filter_append]
            congr 1
            simp [List.filter_cons])
          have HOL : Hid ((outL (px.take j) L (k1, k2) pp).length ≤ 1000) := Lib.hid (by
            unfold outL
            have h1 := List.length_filter_le (fun x => !(decide ((x, (k1, k2)) ∈ L) || x == pp)) (px.take j)
            have h2 : (px.take j).length ≤ px.length := by rw [List.length_take]; omega
            have := HLX.out
            omega)
          subst hpA
          have HI1 := Lib.hid (fun W (hW : Below wr.heap.size wr W) => HIL.out W (below_next HBX.out hW) xj)
          clear hxk
          generalize outL (px.take j) L (k1, k2) pp = Y at *
          go_upto_region 11 with fail
          clear t5 hco
          have z0 : wr.cell? ⟨w.heap.size, 0, none⟩ = some (.int .u32 k1) := (HK1.out.next HB.out).cell 0
          have z1 : wr.cell? ⟨w.heap.size, 1, none⟩ = some (.int .u32 k2) := (HK1.out.next HB.out).cell 1
          cases e1 : (xj == pp) with
          | true =>
            have e2 : (xj != pp) = false := by simp [bne, e1]
            rw [e1, Bool.or_true] at HTK
            have HT2 : Hid (outL (px.take (j + 1)) L (k1, k2) pp = Y) := Lib.hid (by rw [HTK.out]; simp)
            go_wp2
            go_roundw
            case rel => exact ⟨j + 1, by omega, by go_num, by rw [HT2.out]; exact HO, HB⟩
            case measure => simp [intOf]; omega
          | false =>
            have e2 : (xj != pp) = true := by simp [bne, e1]
            rw [e1, Bool.or_false] at HTK
            cases e3 : decide ((xj, (k1, k2)) ∈ L) with
            | true =>
              rw [e3] at HI1 HTK
              have HT2 : Hid (outL (px.take (j + 1)) L (k1, k2) pp = Y) := Lib.hid (by rw [HTK.out]; simp)
              clear e3
              go_wp2_with (go_at_call 20; refine (HI1.out wr (Below.refl _ _)).mono ?_; rintro e w6 ⟨rfl, hb⟩; have HB6 := Lib.hid hb; clear hb)
              go_roundw
              case rel => exact ⟨j + 1, by omega, by go_num, by rw [HT2.out]; exact Lib.hid (own_at HO.out (fun g hg => HB6.out.block g (HO.out.lt g hg).2)), Lib.hid (HB.out.trans (HB6.out.mono HB.out.size))⟩
              case measure => simp [intOf]; omega
            | false =>
              rw [e3] at HI1 HTK
              have HT2 : Hid (outL (px.take (j + 1)) L (k1, k2) pp = Y ++ [xj]) := Lib.hid (by rw [HTK.out]; simp)
              clear e3
              go_upto_region 12 with (go_at_call 20; refine (HI1.out wr (Below.refl _ _)).mono ?_; rintro e w6 ⟨rfl, hb⟩; have HB6 := Lib.hid hb; clear hb)
              clear z0 z1 e1 e2
              have HO6 := Lib.hid (own_at HO.out (fun g hg => HB6.out.block g (HO.out.lt g hg).2))
              have HO7 := Lib.hid (HO6.out.alloc (.cells #[.int .i64 xj] 3))
              have HB7 := Lib.hid ((HB.out.trans (HB6.out.mono HB.out.size)).alloc (Nat.le_trans HB.out.size HB6.out.size) (.cells #[.int .i64 xj] 3))
              have HJ7 := Lib.hid (jr_blk (xs := [xj]) (Blk.new w6 3 #[.int .i64 xj]))
              have hyl := HOL.out
              go_wp2_with (at_builtin; refine wpList_itemsF elemI rfl _ _ rfl w1.heap.size _ Y.length Y rfl (by rw [I64_flat]; exact HO7.out) _ 1 1 [xj] rfl HJ7.out.ir (by omega) (by omega) HB7.out.size ?_; intro v9 w9 hown9 hb9 hg9 ho9; rw [I64_flat, ← HT2.out, show Y.length + 1 = (outL (px.take (j + 1)) L (k1, k2) pp).length by rw [HT2.out, List.length_append]; rfl] at hown9; have HO9 := Lib.hid hown9; have HB9 := Lib.hid (HB7.out.trans hb9); clear hown9 hb9 hg9 ho9)
              go_roundw
              case rel => exact ⟨j + 1, by omega, by go_num, HO9, HB9⟩
              case measure => simp [intOf]; omega
        · obtain rfl : j = px.length := by omega
          have hd : decide ((px.length : Int) < (px.length : Int)) = false := by simp
          rw [List.take_length] at HO
          obtain ⟨X, hX⟩ : ∃ X, outL px L (k1, k2) pp = X := ⟨_, rfl⟩
          rw [hX] at HO HD
          clear hX
          go_upto_region 13 with fail
          have HSW := Lib.hid (HS1.out.next HB.out)
          have hS0 : SB w.heap.size (w.heap.size + 1) 27 w wr := ⟨HBX.out, HSW.out.slot⟩
          have k3 : ∀ W, SB w.heap.size (w.heap.size + 1) 27 w W → W.cell? ⟨b5, o5 + i * 6 + 3, none⟩ = some (.int .u32 ks) := fun W hW => (CC.out W hW.b).2.1
          have k4 : ∀ W, SB w.heap.size (w.heap.size + 1) 27 w W → W.cell? ⟨b5, o5 + i * 6 + 4, none⟩ = some (.int .u32 kg) := fun W hW => (CC.out W hW.b).2.2.1
          have d0 : ∀ W, SB w.heap.size (w.heap.size + 1) 27 w W → W.cell? ⟨w.heap.size + 1, 0, none⟩ = some (rd W ⟨w.heap.size + 1, 0, none⟩) := fun W hW => hW.slot.cell (by decide)
          have d1 : ∀ W, SB w.heap.size (w.heap.size + 1) 27 w W → W.cell? ⟨w.heap.size + 1, 1, none⟩ = some (rd W ⟨w.heap.size + 1, 1, none⟩) := fun W hW => hW.slot.cell (by decide)
          have f0 : ∀ W, SB w.heap.size (w.heap.size + 1) 27 w W → W.frozen? ⟨w.heap.size + 1, 0, none⟩ = false := fun W hW => hW.slot.frozen 0
          have f1 : ∀ W, SB w.heap.size (w.heap.size + 1) 27 w W → W.frozen? ⟨w.heap.size + 1, 1, none⟩ = false := fun W hW => hW.slot.frozen 1
          have hNB := HNB.out
          clear t5
          go_region_held3 (fun w' => SB w.heap.size (w.heap.size + 1) 27 w w')
            (first | with_reducible assumption | exact hS0.drew | with_reducible exact SB.set2 (by with_reducible assumption) hNB _ _ | with_reducible exact (SB.set2 hS0 hNB _ _).drew | with_reducible exact (SB.set2 (by with_reducible assumption) hNB _ _).drew)
            (fail)
          clear k3 k4 d0 d1 f0 f1
          obtain ⟨W9, hW9, hk9, hb9, hh9⟩ := store2k HSW.out.slot HNB.out w HBX.out (.int .u32 ks) (.int .u32 kg)
          have HW9 := Lib.hid hW9
          have HK9 := Lib.hid (And.intro hk9 hb9)
          obtain ⟨A9, c9, hA9, _⟩ := own_jr HO.out
          subst hA9
          have HJ9 : Hid (W9.ownsRow 0 3 1 (.slice A9 X.length c9) X.length (I64 X)) := Lib.hid (own0 (own_at HO.out (fun g hg => hh9 g (fun hb => by
            have h1 := (HO.out.lt g hg).1
            have h2 := HS1.out.lt
            omega))))
          clear hW9 hk9 hb9 hh9 hS0
          go_wp2
          rw [← HW9.out]
          refine bodyPost_ret (ret_ddo _ (w.heap.size + 1) _ _ _ _ _ rfl rfl rfl (HK9.out.1.cell 0) (HK9.out.1.cell 1)) rfl ?_
          rw [HD.out]
          exact ⟨⟨A9, c9, rfl, HJ9.out⟩, HK9.out.2.drew⟩
    · have HD : Hid (doR (ms.map PMr.p) L r (k1, k2) pp = ⟨1, (ks, kg), []⟩) := Lib.hid (by rw [HDR.out]; exact if_neg hq)
      have e0 : (ri != pp) = true := by simp [hq]
      have t1 := (CC.out w1 HB1.out).1
      clear hq HDR
      go_upto_region 5 with fail
      clear t1 e0
      have hS0 : SB w.heap.size (w.heap.size + 1) 27 w w1 := ⟨HB1.out, HS1.out.slot⟩
      have k3 : ∀ W, SB w.heap.size (w.heap.size + 1) 27 w W → W.cell? ⟨b5, o5 + i * 6 + 3, none⟩ = some (.int .u32 ks) := fun W hW => (CC.out W hW.b).2.1
      have k4 : ∀ W, SB w.heap.size (w.heap.size + 1) 27 w W → W.cell? ⟨b5, o5 + i * 6 + 4, none⟩ = some (.int .u32 kg) := fun W hW => (CC.out W hW.b).2.2.1
      have d0 : ∀ W, SB w.heap.size (w.heap.size + 1) 27 w W → W.cell? ⟨w.heap.size + 1, 0, none⟩ = some (rd W ⟨w.heap.size + 1, 0, none⟩) := fun W hW => hW.slot.cell (by decide)
      have d1 : ∀ W, SB w.heap.size (w.heap.size + 1) 27 w W → W.cell? ⟨w.heap.size + 1, 1, none⟩ = some (rd W ⟨w.heap.size + 1, 1, none⟩) := fun W hW => hW.slot.cell (by decide)
      have f0 : ∀ W, SB w.heap.size (w.heap.size + 1) 27 w W → W.frozen? ⟨w.heap.size + 1, 0, none⟩ = false := fun W hW => hW.slot.frozen 0
      have f1 : ∀ W, SB w.heap.size (w.heap.size + 1) 27 w W → W.frozen? ⟨w.heap.size + 1, 1, none⟩ = false := fun W hW => hW.slot.frozen 1
      have hNB := HNB.out
      go_region_held3 (fun w' => SB w.heap.size (w.heap.size + 1) 27 w w')
        (first | with_reducible assumption | exact hS0.drew | with_reducible exact SB.set2 (by with_reducible assumption) hNB _ _ | with_reducible exact (SB.set2 hS0 hNB _ _).drew | with_reducible exact (SB.set2 (by with_reducible assumption) hNB _ _).drew)
        (fail)
      clear k3 k4 d0 d1 f0 f1
      obtain ⟨W9, hW9, hk9, hb9, hh9⟩ := store2k HS1.out.slot HNB.out w HB1.out (.int .u32 ks) (.int .u32 kg)
      have HW9 := Lib.hid hW9
      have HK9 := Lib.hid (And.intro hk9 hb9)
      clear hW9 hk9 hb9 hh9 hS0
      go_wp2
      rw [← HW9.out]
      refine bodyPost_ret (ret_ddo _ (w.heap.size + 1) _ _ _ _ _ rfl rfl rfl (HK9.out.1.cell 0) (HK9.out.1.cell 1)) rfl ?_
      rw [HD.out]
      exact ⟨⟨none, 0, rfl, World.ownsRow_nil _ _ _ _⟩, by first | exact HK9.out.2 | exact HK9.out.2.drew⟩
end Go.Proofs.Yteibmegeoojleaa

