/- P14.1: a link lets a source just if one of its members admits it; in whatever order they come; one more lets no less; walked. -/
import Derived.Test.YtfiiichiflglaaaFiltRises
namespace Go.Proofs.Ytfiiichiflglaaa
open Go.ChangeShapes Go.WideShapes Go.ChangeAt Go.RowKit Sm Go.Maps
theorem turn_mem (ms : List Mb) (k : Nat) (m : Mb) : m ∈ ms.drop k ++ ms.take k ↔ m ∈ ms := by
  rw [List.mem_append]
  constructor
  · rintro (h | h)
    · exact List.mem_of_mem_drop h
    · exact List.mem_of_mem_take h
  · intro h
    rw [← List.take_append_drop k ms] at h
    rcases List.mem_append.1 h with h | h
    · exact .inr h
    · exact .inl h
theorem same_any {ms ks : List Mb} (h : ∀ m, m ∈ ms ↔ m ∈ ks) : anyM ms = anyM ks := by
  unfold anyM
  rw [decide_eq_decide, but_pos, but_pos]
  constructor
  · rintro ⟨m, hm, ho⟩; exact ⟨m, (h m).1 hm, ho⟩
  · rintro ⟨m, hm, ho⟩; exact ⟨m, (h m).2 hm, ho⟩
theorem same_of {ms ks : List Mb} (h : ∀ m, m ∈ ms ↔ m ∈ ks) : ofL ms = ofL ks := by
  refine of_ext (same_any h) fun a => ?_
  rw [Bool.eq_iff_iff]
  unfold admP
  rw [List.any_eq_true, List.any_eq_true]
  constructor
  · rintro ⟨m, hm, ho⟩; exact ⟨m, (h m).1 hm, ho⟩
  · rintro ⟨m, hm, ho⟩; exact ⟨m, (h m).2 hm, ho⟩
theorem adm_take {ms : List Mb} {k : Nat} {m : Mb} {a : Int} (h : ms[k]? = some m) : admP (ms.take (k + 1)) a = (admP (ms.take k) a || (m.xs.contains a == m.o)) := by
  unfold admP
  rw [List.take_add_one, h, List.any_append]
  simp
theorem adm_more (ms : List Mb) (m : Mb) (a : Int) : admP (ms ++ [m]) a = (admP ms a || (m.xs.contains a == m.o)) := by
  unfold admP
  rw [List.any_append]
  simp
theorem of_small6 {ks : List Mb} (h : ks.length ≤ 13) (hx : ∀ m ∈ ks, m.xs.length ≤ 10) : (ofL ks).length ≤ 1000 := by
  refine Nat.le_trans (ofL_len ks) ?_
  have : ∀ ks : List Mb, (∀ m ∈ ks, m.xs.length ≤ 10) → (flat ks).length ≤ ks.length * 10 := by
    intro ks
    induction ks with
    | nil => intro _; simp [flat]
    | cons m ks ih =>
      intro hk
      have h1 := ih (fun x hx => hk x (List.mem_cons_of_mem _ hx))
      have h2 := hk m (List.mem_cons_self ..)
      unfold flat at *
      simp only [List.flatMap_cons, List.length_append, List.length_cons]
      omega
  have := this ks hx
  omega
theorem ri_dr {W : World} {A B : Option Addr} {n K : Nat} {ms : List Mb} (h : RI CMember 4 W A n ms) (hK : K ≤ n) (hB : K < n → B = A.map (·.add (K * 4))) : RI CMember 4 W B (n - K) (ms.drop K) := by
  refine ⟨by rw [List.length_drop, h.len], fun hp => ?_⟩
  obtain ⟨b, o, rfl, hl, hc⟩ := h.2 (by omega)
  refine ⟨b, o + K * 4, by rw [hB (by omega)]; rw [Option.map_some, add_plain], hl, fun i y hy j v hv => ?_⟩
  rw [List.getElem?_drop] at hy
  have := hc (K + i) y hy j v hv
  rw [show o + K * 4 + i * 4 + j = o + (K + i) * 4 + j by omega]
  exact this
set_option maxRecDepth 100000 in
set_option maxHeartbeats 4000000 in
theorem law_lets (A : Option Addr) (n c : Nat) (ms : List Mb) (m : Mb) (a x : Int) (w : World) (h : MR w A n ms) (hn : n ≤ 9223372036854775807) (hc : n ≤ c) (hm : AR w m.A m.n m.xs) (hmn : m.n ≤ 9223372036854775807) :
    Calls Try.prog 4 #[.slice A n c, .agg #[.int .i64 m.l, .int .u32 m.g, .bool m.o, .slice m.A m.n m.c], .int .u32 a, .int .i64 x] w fun e w' => e = .returned (.bool true) ∧ Below w.heap.size w w' := by
  obtain ⟨l, g, o, mA, mn, mc, ys⟩ := m
  simp only at hm hmn ⊢
  have hb0 := (Below.refl w.heap.size w).alloc (Nat.le_refl _) (.cells #[.int .i64 l, .int .u32 g, .bool o, .slice mA mn mc] 38)
  have hk0 := Blk.new w 38 #[.int .i64 l, .int .u32 g, .bool o, .slice mA mn mc]
  have hm0 := hm.next hb0
  have hM0 := h.next hb0
  clear hm h
  go_enter Try.func4, Try.ntmps4
  go_upto_region 1 with fail
  generalize w.alloc (.cells #[.int .i64 l, .int .u32 g, .bool o, .slice mA mn mc] 38) = w0 at *
  have hz0 := hb0.size
  generalize hN : w.heap.size = N at *
  go_upto_region 4 with (go_at_call 8; (with_reducible refine (first14_any w0).mono ?_); rintro e w1 ⟨rfl, hb1⟩)
  have HM := Lib.hid (hM0.next hb1)
  have HA := Lib.hid (hm0.next hb1)
  have HK := Lib.hid (hk0.next hb1)
  have HB := Lib.hid (hb0.trans (hb1.mono hz0))
  have HZ : Hid (N ≤ w1.heap.size) := Lib.hid (Nat.le_trans hz0 hb1.size)
  clear hb1 hM0 hm0 hk0 hb0 hz0
  have z0 : w1.cell? ⟨N, 0, none⟩ = some (.int .i64 l) := HK.out.cell 0
  have z1 : w1.cell? ⟨N, 1, none⟩ = some (.int .u32 g) := HK.out.cell 1
  have z2 : w1.cell? ⟨N, 2, none⟩ = some (.bool o) := HK.out.cell 2
  have z3 : w1.cell? ⟨N, 3, none⟩ = some (.slice mA mn mc) := HK.out.cell 3
  have HLT := Lib.hid (light_any A n c ms w1 HM.out hn)
  cases hl : ltP ms with
  | false =>
    rw [hl] at HLT
    go_wp2_with (go_at_call 9; (with_reducible refine HLT.out.mono ?_); rintro e w2 ⟨rfl, rfl⟩)
    go_ret
    exact ⟨rfl, by rw [hN]; exact HB.out⟩
  | true =>
    rw [hl] at HLT
    obtain ⟨hn12, hms⟩ := all_small HM.out hl
    have hbl := (Below.refl w1.heap.size w1).alloc (Nat.le_refl _) (.cells #[.int .i64 l, .int .u32 g, .bool o, .slice mA mn mc] 38)
    have HL2 := Lib.hid (light_any (some ⟨w1.heap.size, 0, none⟩) 1 1 [⟨l, g, o, mA, mn, mc, ys⟩] (w1.alloc (.cells #[.int .i64 l, .int .u32 g, .bool o, .slice mA mn mc] 38)) (mr_lit1 (m := ⟨l, g, o, mA, mn, mc, ys⟩) (Blk.new w1 _ _) (HA.out.next hbl)) (by omega))
    cases hl2 : ltP [⟨l, g, o, mA, mn, mc, ys⟩] with
    | false =>
      rw [hl2] at HL2
      go_wp2_with (go_at_call 9; (first | ((with_reducible refine HLT.out.mono ?_); rintro e w2 ⟨rfl, rfl⟩) | ((with_reducible refine HL2.out.mono ?_); rintro e w2 ⟨rfl, rfl⟩)))
      go_ret
      exact ⟨rfl, by rw [hN]; exact HB.out.trans (hbl.mono HZ.out)⟩
    | true =>
      rw [hl2] at HL2
      have hmn10 : mn ≤ 10 := by
        unfold ltP at hl2
        simp at hl2
        exact hl2
      go_upto_region 6 with (go_at_call 9; (first | ((with_reducible refine HLT.out.mono ?_); rintro e w2 ⟨rfl, rfl⟩) | ((with_reducible refine HL2.out.mono ?_); rintro e w2 ⟨rfl, rfl⟩)))
      clear HLT HL2 hl hl2 z0 z1 z2 z3 hn hmn
      replace HM := Lib.hid (HM.out.next hbl)
      replace HA := Lib.hid (HA.out.next hbl)
      replace HK := Lib.hid (HK.out.next hbl)
      replace HB := Lib.hid (HB.out.trans (hbl.mono HZ.out))
      replace HZ : Hid (N ≤ (w1.alloc (.cells #[.int .i64 l, .int .u32 g, .bool o, .slice mA mn mc] 38)).heap.size) := Lib.hid (Nat.le_trans HZ.out hbl.size)
      clear hbl
      generalize w1.alloc (.cells #[.int .i64 l, .int .u32 g, .bool o, .slice mA mn mc] 38) = w2 at *
      have HO := Lib.hid (of_any' A n c ms w2 HM.out (by omega) (fun m hm => by have := hms m hm; omega))
      have HS : Hid ((ofL ms).length ≤ 1000) := Lib.hid (of_small (by rw [HM.out.r.len]; exact hn12) (fun m hm => by rw [(HM.out.a m hm).len]; exact hms m hm))
      have HMS := Lib.hid hms
      clear hms
      obtain ⟨b, hb⟩ : ∃ b, anyM ms = b := ⟨_, rfl⟩
      obtain ⟨xs, hxs⟩ : ∃ xs, ofL ms = xs := ⟨_, rfl⟩
      have HBX := Lib.hid (And.intro hb hxs)
      rw [hb, hxs] at HO
      rw [hxs] at HS
      clear hb hxs
      go_upto_region 7 with (go_at_call 10; (with_reducible refine HO.out.mono ?_); rintro e w6 ⟨A8, c8, rfl, har8, hb6⟩)
      have hba := (Below.refl w6.heap.size w6).alloc (Nat.le_refl _) (.cells #[.bool b, .slice A8 xs.length c8] 25)
      have hB7 := Lib.hid ((HB.out.trans (hb6.mono HZ.out)).alloc (Nat.le_trans HZ.out hb6.size) (.cells #[.bool b, .slice A8 xs.length c8] 25))
      have K8 := Lib.hid (Blk.new w6 25 #[.bool b, .slice A8 xs.length c8])
      have R8 := Lib.hid (har8.next hba)
      replace HM := Lib.hid ((HM.out.next hb6).next hba)
      replace HA := Lib.hid ((HA.out.next hb6).next hba)
      replace HK := Lib.hid ((HK.out.next hb6).next hba)
      have HZ7 : Hid (N ≤ w6.heap.size + 1) := Lib.hid (Nat.le_trans HZ.out (Nat.le_trans hb6.size (Nat.le_succ _)))
      rw [← sz_alloc w6 (.cells #[.bool b, .slice A8 xs.length c8] 25)] at HZ7
      clear HB hb6 HO har8 HZ hba
      generalize w6.alloc (.cells #[.bool b, .slice A8 xs.length c8] 25) = w7 at *
      generalize w6.heap.size = N8 at *
      clear w6
      have hxl := HS.out
      have HAM : Hid (∀ W, Below w7.heap.size w7 W → MR W A n ms) := Lib.hid fun W hW => HM.out.next hW
      go_wp2
      go_loopw [11, 12] (fun v iv wr => ∃ (k : Nat) (V : Bool), k ≤ n ∧ iv = .int .i64 (k : Int) ∧ v = .bool V ∧ Hid (admP (ms.take k) a = V) ∧ Hid (Below w7.heap.size w7 wr)) (fun _ iv _ => n - (intOf iv).toNat)
      case atStart => exact ⟨0, false, Nat.zero_le _, rfl, rfl, Lib.hid (by unfold admP; simp), Lib.hid (Below.refl _ _)⟩
      case round =>
        obtain ⟨k, V, hk, rfl, rfl, HV, HP⟩ := hrel
        rcases Nat.lt_or_ge k n with hlt | hge
        · have hi0 : (k : Int) < (n : Int) := by omega
          have HMr := HAM.out wr HP.out
          obtain ⟨b9, o9, ⟨l9, g9, v9, A9, n9, c9, xs9⟩, rfl, hb9, hx9, ha9, k0, k1, k2, k3⟩ := HMr.cell hlt
          have hn9 : n9 ≤ 10 := HMS.out _ (List.mem_of_getElem? hx9)
          have HTk := Lib.hid (adm_take (a := a) hx9)
          have HAD := Lib.hid (admits_any l9 g9 v9 A9 n9 c9 xs9 a wr ha9 (by omega))
          simp only at HTk
          rw [HV.out] at HTk
          obtain ⟨V9, hV9⟩ : ∃ V9, (xs9.contains a == v9) = V9 := ⟨_, rfl⟩
          rw [hV9] at HTk HAD
          clear hV9
          clear hx9 ha9 HMr hb9
          cases V with
          | true =>
            go_wp2
            go_roundw
            case rel => exact ⟨k + 1, true, by omega, by go_num, rfl, Lib.hid (by rw [HTk.out, Bool.true_or]), HP⟩
            case measure => simp [intOf]; omega
          | false =>
            go_wp2_with (go_at_call 15; (with_reducible refine HAD.out.mono ?_); rintro e w9 ⟨rfl, hb9⟩)
            have HP9 := Lib.hid (HP.out.trans (hb9.mono HP.out.size))
            go_wp2
            go_roundw
            case rel => exact ⟨k + 1, _, by omega, by go_num, rfl, Lib.hid (by rw [HTk.out, Bool.false_or]), HP9⟩
            case measure => simp [intOf]; omega
        · have q1 : ¬ (k : Int) < (n : Int) := by omega
          obtain rfl : k = n := by omega
          have hV : admP ms a = V := by rw [← HV.out]; rw [show ms.take k = ms by rw [← HM.out.r.len, List.take_length]]
          have HVV := Lib.hid hV
          clear hV HV
          obtain ⟨K, hK, hKn⟩ := mod_nat x k
          have HN := Lib.hid (number_any x ((k : Int) + 1) wr (by omega) (by omega))
          rw [hK] at HN
          clear hK
          go_upto_region 13 with (go_at_call 21; (with_reducible refine HN.out.mono ?_); rintro e w8 ⟨rfl, rfl⟩)
          clear HN q1 hge hk
          have HMr := Lib.hid fun W (hW : Below wr.heap.size wr W) => HAM.out W (HP.out.trans (hW.mono HP.out.size))
          have hm1 : k ≤ 1048576 := by omega
          have hmK : K ≤ 1048576 := by omega
          have i1 : (K : Int) ≤ (c : Int) := by omega
          have i2 : (0 : Int) ≤ (K : Int) := by omega
          have i3 : K ≤ c := by omega
          have i4 : K ≤ k := hKn
          have i5 : (K : Int) ≤ (k : Int) := by omega
          have i6 : (k : Int) ≤ (c : Int) := by omega
          obtain ⟨L5, hL5⟩ : ∃ L5, [] ++ ms.drop K ++ ms.take K = L5 := ⟨_, rfl⟩
          have HL5 := Lib.hid hL5
          have HLn : Hid (L5.length = 0 + (k - K) + K) := Lib.hid (by rw [← hL5]; have := HM.out.r.len; simp; omega)
          have HL5m : Hid (∀ m, m ∈ L5 ↔ m ∈ ms) := Lib.hid (by rw [← hL5]; exact turn_mem ms K)
          clear hL5
          go_region_held3 (fun w' => Below wr.heap.size wr w')
            (first | assumption | exact (Below.refl _ _).drew | exact ((Below.refl _ _).alloc (Nat.le_refl _) _).drew)
            (first
            | (refine step_mbs (by rfl) _ _ (by rfl) wr.heap.size _ 0 [] (by rfl) (by exact World.ownsRow_lit wr #[] 0 (Nat.le_refl _) (by decide) rfl) _ _ _ (ms.drop K) (by rfl) (ri_dr (HMr.out _ (by assumption)).r hKn (fun h => by first | rfl | (rw [if_neg (by omega)]))) (by decide) (by omega) (by simp) ?_
               intro v4 w4 hown4 hb4x hg4; have hb4 := Below.trans (by assumption) hb4x; clear hg4)
            | (refine step_mbs (by rfl) _ _ (by rfl) wr.heap.size v4 _ ([] ++ ms.drop K) (by rfl) hown4 _ _ _ (ms.take K) (by rfl) ((HMr.out _ (by assumption)).r.take hKn) (by omega) hmK hb4.size ?_
               intro v5 w5 hown5 hb5x hg5; clear hg5; have hb5 := Below.trans (by assumption) hb5x; rw [HL5.out, ← HLn.out] at hown5; obtain ⟨A5, c5, rfl, hc5, hr5⟩ := RI.of_own (enc := CMember) (k := 4) (xs := L5) (fun _ => rfl) hown5))
          have HR5 := Lib.hid hr5
          have HB5 := Lib.hid hb5
          clear hr5 hown5 hb5 hb5x hb4 hb4x hown4
          generalize (if c = K then A else Option.map (fun x => Addr.add x (K * 4)) A) = B53 at *
          have HRr := Lib.hid fun W (hW : Below w5.heap.size w5 W) => HMr.out W (HB5.out.trans (hW.mono HB5.out.size))
          have HP5 := Lib.hid (HP.out.trans (HB5.out.mono HP.out.size))
          obtain ⟨L6, hL6⟩ : ∃ L6, ms ++ [(⟨l, g, o, mA, mn, mc, ys⟩ : Mb)] = L6 := ⟨_, rfl⟩
          have HL6 := Lib.hid hL6
          have HLn6 : Hid (L6.length = k + 1) := Lib.hid (by rw [← hL6]; have := HM.out.r.len; simp; omega)
          have hmem6 : ∀ y ∈ L6, y ∈ ms ∨ y = ⟨l, g, o, mA, mn, mc, ys⟩ := by
            intro y hy
            rw [← hL6] at hy
            rcases List.mem_append.1 hy with hy | hy
            · exact .inl hy
            · exact .inr (by simpa using hy)
          have HS6 : Hid ((ofL L6).length ≤ 1000) := Lib.hid (of_small6 (ks := L6) (by have := HLn6.out; omega) (fun y hy => by
            rcases hmem6 y hy with h | rfl
            · rw [((HAM.out w7 (Below.refl _ _)).a y h).len]; exact HMS.out y h
            · have := HA.out.len; simp only; omega))
          have HOf6 : Hid (∀ (W : World) (A' : Option Addr) (c' : Nat), Below w5.heap.size w5 W → RI CMember 4 W A' L6.length L6 → Calls Try.prog 10 #[.slice A' L6.length c'] W fun e w' => ∃ (A' : Option Addr) (c' : Nat), e = .returned (.agg #[.bool (anyM L6), .slice A' (ofL L6).length c']) ∧ AR w' A' (ofL L6).length (ofL L6) ∧ Below W.heap.size W w') := Lib.hid fun W A' c' hW hr =>
            of_any' A' L6.length c' L6 W ⟨hr, fun y hy => by
              rcases hmem6 y hy with h | rfl
              · exact (HRr.out W hW).a y h
              · exact (HA.out.next (HP5.out.trans (hW.mono HP5.out.size)))⟩ (by have := HLn6.out; omega) (fun y hy => by
              rcases hmem6 y hy with h | rfl
              · have := HMS.out y h; omega
              · simp only; omega)
          obtain ⟨Vm, hVm⟩ : ∃ Vm, (ys.contains a == o) = Vm := ⟨_, rfl⟩
          have HVm := Lib.hid hVm
          have HV6 : Hid (((ofL L6).contains a != anyM L6) = (V || Vm)) := Lib.hid (by rw [lets_of, ← hL6, adm_more, HVV.out]; exact congrArg _ hVm)
          have HV8 : Hid ((xs.contains a != b) = V) := Lib.hid (by have h := lets_of ms a; rw [HBX.out.1, HBX.out.2] at h; rw [h]; exact HVV.out)
          clear hL6 hmem6 hVm
          obtain ⟨b6, hb6⟩ : ∃ b6, anyM L6 = b6 := ⟨_, rfl⟩
          rw [hb6] at HOf6 HV6
          clear hb6
          obtain ⟨x6, hx6⟩ : ∃ x6, ofL L6 = x6 := ⟨_, rfl⟩
          rw [hx6] at HOf6 HV6 HS6
          clear hx6
          go_upto_region 14 with fail
          clear HMr
          have kN : ∀ W, Below w5.heap.size w5 W → W.cell? ⟨N, 0, none⟩ = some (.int .i64 l) ∧ W.cell? ⟨N, 1, none⟩ = some (.int .u32 g) ∧ W.cell? ⟨N, 2, none⟩ = some (.bool o) ∧ W.cell? ⟨N, 3, none⟩ = some (.slice mA mn mc) := fun W hW => by
            have h := (HK.out.next HP5.out).next hW
            exact ⟨h.cell 0, h.cell 1, h.cell 2, h.cell 3⟩
          have HKN := Lib.hid kN
          clear kN
          refine wp_region_held_drew (S := fun _ => True) (by kernel_rfl) trivial (fun _ => ?_)
          refine wpAnyH_eachL (md := .any) (m := 1) (rem := [0, 1, 2, 3, 4, 5, 6, 7]) (tail := [8]) (deps := fun i => match i with | 2 => [0, 1] | 4 => [3] | 5 => [2, 4] | 6 => [5] | _ => []) (fun _ W => Below w5.heap.size w5 W) (fun ix W _ W' => KP w5 25 5 ix W W')
            (fun ix lz ds v W => match ix with | 0 => ∃ g, v = .slice (some ⟨g, 0, none⟩) 0 0 ∧ (2 ∉ lz → W.ownsRow w5.heap.size 38 4 v 0 []) | 1 => v = .slice A k c | 2 => 5 ∉ lz → W.ownsRow w5.heap.size 38 4 v k (ms.flatMap CMember) | 3 => v = .agg #[.int .i64 l, .int .u32 g, .bool o, .slice mA mn mc] | 4 => ∃ gz, v = .slice (some ⟨gz, 0, none⟩) 1 1 ∧ (5 ∉ lz → RI CMember 4 W (some ⟨gz, 0, none⟩) 1 [(⟨l, g, o, mA, mn, mc, ys⟩ : Mb)]) | 5 => ∃ A5 c5, v = .slice A5 L6.length c5 ∧ RI CMember 4 W A5 L6.length L6 | 6 => ∃ A' c', v = .agg #[.bool b6, .slice A' x6.length c'] ∧ AR W A' x6.length x6 | 7 => ∃ gz, v = .pointer (some ⟨gz, 0, none⟩) ∧ Blk W gz 25 #[.bool false, .slice none 0 0] ∧ w5.heap.size ≤ gz | _ => True) (eachB_spec (by kernel_rfl)) (fun i hi lz hl w v w' hT hK => hK.b) (fun _ _ _ => trivial) ?_ (fun _ _ _ _ => True) (fun _ _ _ _ _ _ _ _ _ _ _ _ _ _ => ⟨trivial, trivial⟩) ?_ ?_ (Below.refl _ _).drew
          · intro i hi j hj hij hjd ds v u lz W W' hil hjl hdj hcl _ hk h
            simp only [List.mem_cons, List.not_mem_nil, or_false] at hi
            rcases hi with rfl | rfl | rfl | rfl | rfl | rfl | rfl | rfl
            · obtain ⟨g, e, ho⟩ := h
              refine ⟨g, e, fun h2 => ?_⟩
              rw [List.mem_append, not_or] at h2
              refine ownk_next (ho h2.1) (hk.s fun e6 => ?_)
              subst e6
              exact h2.1 (hdj 2 (by simp))
            · exact h
            · intro h6
              rw [List.mem_append, not_or] at h6
              exact ownk_next (h h6.1) (hk.s fun e6 => h6.2 (by rw [e6]; simp))
            · exact h
            · obtain ⟨g, e, hr⟩ := h
              refine ⟨g, e, fun h6 => ?_⟩
              rw [List.mem_append, not_or] at h6
              exact (hr h6.1).next (hk.s fun e6 => h6.2 (by rw [e6]; simp))
            · obtain ⟨A5, c5, e, hr⟩ := h
              exact ⟨A5, c5, e, hr.next (hk.s (Ne.symm hij))⟩
            · obtain ⟨A5, c5, e, hr⟩ := h
              exact ⟨A5, c5, e, hr.next (hk.s fun e6 => hjd (by rw [e6]; simp))⟩
            · obtain ⟨g, e, hb, hg⟩ := h
              exact ⟨g, e, hk.f g _ hb, hg⟩
          · refine AllL.cons [] rfl rfl (fun vs lq W hl hc hT hd => ?_) ?_
            · dsimp only [lay, List.foldl, List.map, dstOf]
              go_wp2
              exact ⟨rfl, _, rfl, KP.of hT ((Below.refl _ _).alloc (Nat.le_refl _) _), ⟨_, rfl⟩, fun _ => World.ownsRow_lit W #[] 0 hT.size (by decide) rfl⟩
            refine AllL.cons [] rfl rfl (fun vs lq W hl hc hT hd => ?_) ?_
            · dsimp only [lay, List.foldl, List.map, dstOf]
              go_wp2
              exact ⟨rfl, _, rfl, KP.same hT, rfl⟩
            refine AllL.cons [0, 1] rfl rfl (fun vs lq W hl hc hT hd => ?_) ?_
            · obtain ⟨g0, e0, ho⟩ := hd 0 (by simp)
              have e1 : vs 1 = .slice A k c := hd 1 (by simp)
              have ho0 := ho hl
              rw [e0] at ho0
              dsimp only [lay, List.foldl, List.map, dstOf]
              rw [e0, e1]
              refine wpList_mbs0 rfl _ _ (by rfl) w5.heap.size g0 (by rfl) ho0 A k c ms (by rfl) (HRr.out _ hT).r (by omega) hT.size ?_
              intro v4 w4 hown4 hb4
              refine wpList_nil ?_
              exact ⟨rfl, _, rfl, KP.of hT hb4, fun _ => hown4⟩
            refine AllL.cons [] rfl rfl (fun vs lq W hl hc hT hd => ?_) ?_
            · obtain ⟨k0, k1, k2, k3⟩ := HKN.out W hT
              dsimp only [lay, List.foldl, List.map, dstOf]
              go_wp2
              exact ⟨rfl, _, rfl, KP.same hT, rfl⟩
            refine AllL.cons [3] rfl rfl (fun vs lq W hl hc hT hd => ?_) ?_
            · have e3 : vs 3 = .agg #[.int .i64 l, .int .u32 g, .bool o, .slice mA mn mc] := hd 3 (by simp)
              dsimp only [lay, List.foldl, List.map, dstOf]
              rw [e3]
              go_wp2
              have hbz := (Below.refl W.heap.size W).alloc (Nat.le_refl _) (.cells #[.int .i64 l, .int .u32 g, .bool o, .slice mA mn mc] 38)
              first | exact ⟨rfl, _, rfl, KP.of hT hbz, _, rfl, fun _ => (mr_lit1 (m := ⟨l, g, o, mA, mn, mc, ys⟩) (Blk.new W _ _) (HA.out.next (HP5.out.trans ((hT.alloc hT.size _).mono HP5.out.size)))).r⟩ | exact ⟨rfl, _, rfl, KP.of hT hbz, ⟨_, rfl⟩, fun _ => (mr_lit1 (m := ⟨l, g, o, mA, mn, mc, ys⟩) (Blk.new W _ _) (HA.out.next (HP5.out.trans ((hT.alloc hT.size _).mono HP5.out.size)))).r⟩
            refine AllL.cons [2, 4] rfl rfl (fun vs lq W hl hc hT hd => ?_) ?_
            · have ho2 := hd 2 (by simp) hl
              obtain ⟨g4, e4, hr4⟩ := hd 4 (by simp)
              dsimp only [lay, List.foldl, List.map, dstOf]
              rw [e4]
              generalize vs 2 = v4 at *
              refine wpList_mbs rfl _ _ (by rfl) w5.heap.size v4 k ms (by rfl) ho2 (some ⟨g4, 0, none⟩) 1 1 [(⟨l, g, o, mA, mn, mc, ys⟩ : Mb)] (by rfl) (hr4 hl) hm1 (by decide) hT.size ?_
              intro v5 wz hown5 hb5 hg5
              refine wpList_nil ?_
              rw [HL6.out, ← HLn6.out] at hown5
              obtain ⟨A5, c5, rfl, hc5, hr5⟩ := RI.of_own (enc := CMember) (k := 4) (xs := L6) (fun _ => rfl) hown5
              exact ⟨rfl, _, rfl, ⟨hT.trans hb5, fun h => absurd rfl h, fun g cs h => grown_blk ho2 hg5 h (by decide)⟩, A5, c5, rfl, hr5⟩
            refine AllL.cons [5] rfl rfl (fun vs lq W hl hc hT hd => ?_) ?_
            · obtain ⟨A5, c5, e6, hr5⟩ := hd 5 (by simp)
              dsimp only [lay, List.foldl, List.map, dstOf]
              rw [e6]
              go_wp2_with (go_at_call 10; (with_reducible refine (HOf6.out W A5 c5 hT hr5).mono ?_); rintro e w6 ⟨A6, c6, rfl, har6, hb6⟩)
              first | exact ⟨rfl, _, rfl, KP.of hT hb6, A6, c6, rfl, har6⟩ | exact ⟨rfl, _, rfl, KP.of hT hb6, A6, ⟨c6, rfl⟩, har6⟩
            refine AllL.cons [] rfl rfl (fun vs lq W hl hc hT hd => ?_) AllL.nil
            · dsimp only [lay, List.foldl, List.map, dstOf]
              go_wp2
              exact ⟨rfl, _, rfl, KP.of hT ((Below.refl _ _).alloc (Nat.le_refl _) _), _, rfl, Blk.new _ _ _, hT.size⟩
          · intro vs lq W hall hT hF _ aE LE ha hL
            obtain ⟨g0, e0, -⟩ := hF 0 (by simp)
            have e1 : vs 1 = .slice A k c := hF 1 (by simp)
            have e3 : vs 3 = .agg #[.int .i64 l, .int .u32 g, .bool o, .slice mA mn mc] := hF 3 (by simp)
            obtain ⟨g4, e4, -⟩ := hF 4 (by simp)
            obtain ⟨A6, c6, e5, -⟩ := hF 5 (by simp)
            obtain ⟨A9, c9, e6, har9⟩ := hF 6 (by simp)
            obtain ⟨g9, e7, hb9, hg9⟩ := hF 7 (by simp)
            have hL' : LE = #[true, true, true, true, true, true, true, true, false] := hL.trans (by kernel_rfl)
            dsimp only [lay, List.foldl, dstOf] at ha
            rw [e0, e1, e3, e4, e5, e6, e7] at ha
            clear e0 e1 e3 e4 e5 e6 e7 hL hF hall
            generalize vs 2 = v4 at *
            subst ha hL'
            have c90 : W.cell? ⟨g9, 0, none⟩ = some (.bool false) := hb9.cell 0
            have c91 : W.cell? ⟨g9, 1, none⟩ = some (.slice none 0 0) := hb9.cell 1
            have f90 : W.frozen? ⟨g9, 0, none⟩ = false := hb9.frozen _
            have f91 : W.frozen? ⟨g9, 1, none⟩ = false := hb9.frozen _
            refine wpAnyH_ready (rs := [8]) (by kernel_rfl) (by simp) ?_
            refine AllReadyH.cons rfl (fun Kq hK => ?_) AllReadyH.nil
            go_simp
            refine hK.out _ _ trivial (fun _ => ?_)
            clear hK
            refine wpAnyH_done (by kernel_rfl) ?_ _
            obtain ⟨W9, eW, hT9, hk9, hr9⟩ := flt_store (b := b6) (c := c9) hT hb9 hg9 har9
            rw [eW]
            clear eW c90 c91 f90 f91 hb9 har9 hT Kq
            have HT9 := Lib.hid hT9
            have HK9 := Lib.hid hk9
            have HR9 := Lib.hid hr9
            clear hT9 hk9 hr9
            have HPE := Lib.hid (HP5.out.trans (HT9.out.mono HP5.out.size))
            have HBE := Lib.hid (hB7.out.trans (HPE.out.mono HZ7.out))
            have HZE : Hid (N ≤ W9.heap.size) := Lib.hid (Nat.le_trans HZ7.out HPE.out.size)
            have HC8 : Hid (∀ W, Below W9.heap.size W9 W → W.cell? ⟨N8, 0, none⟩ = some (.bool b) ∧ W.cell? ⟨N8, 1, none⟩ = some (.slice A8 xs.length c8)) := Lib.hid fun W hW => by
              have h := (K8.out.next HPE.out).next hW
              exact ⟨h.cell 0, h.cell 1⟩
            have HC9 : Hid (∀ W, Below W9.heap.size W9 W → W.cell? ⟨g9, 0, none⟩ = some (.bool b6) ∧ W.cell? ⟨g9, 1, none⟩ = some (.slice A9 x6.length c9)) := Lib.hid fun W hW => by
              have h := HK9.out.next hW
              exact ⟨h.cell 0, h.cell 1⟩
            have HCN := Lib.hid fun W (hW : Below W9.heap.size W9 W) => HKN.out W (HT9.out.trans (hW.mono HT9.out.size))
            have HCL : Hid (∀ W, Below W9.heap.size W9 W → Calls Try.prog 13 #[.agg #[.bool b, .slice A8 xs.length c8], .int .u32 a] W fun e w' => e = .returned (.bool V) ∧ Below W.heap.size W w') := Lib.hid fun W hW => by
              have h := lets_any b A8 xs.length c8 xs a W ((R8.out.next HPE.out).next hW) (by omega)
              rw [HV8.out] at h
              exact h
            have HCM : Hid (∀ W, Below W9.heap.size W9 W → Calls Try.prog 13 #[.agg #[.bool b6, .slice A9 x6.length c9], .int .u32 a] W fun e w' => e = .returned (.bool (V || Vm)) ∧ Below W.heap.size W w') := Lib.hid fun W hW => by
              have h := lets_any b6 A9 x6.length c9 x6 a W (HR9.out.next hW) (by have := HS6.out; omega)
              rw [HV6.out] at h
              exact h
            have HCA : Hid (∀ W, Below W9.heap.size W9 W → Calls Try.prog 15 #[.agg #[.int .i64 l, .int .u32 g, .bool o, .slice mA mn mc], .int .u32 a] W fun e w' => e = .returned (.bool Vm) ∧ Below W.heap.size W w') := Lib.hid fun W hW => by
              have h := admits_any l g o mA mn mc ys a W ((HA.out.next HPE.out).next hW) (by omega)
              rw [HVm.out] at h
              exact h
            have HCO : Hid (∀ W, Below W9.heap.size W9 W → Calls Try.prog 10 #[.slice A5 L5.length c5] W fun e w' => ∃ (A' : Option Addr) (c' : Nat), e = .returned (.agg #[.bool b, .slice A' xs.length c']) ∧ AR w' A' xs.length xs ∧ Below W.heap.size W w') := Lib.hid fun W hW => by
              have hW5 := HT9.out.trans (hW.mono HT9.out.size)
              have h := of_any' A5 L5.length c5 L5 W ⟨HR5.out.next hW5, fun y hy => (HRr.out W hW5).a y ((HL5m.out y).1 hy)⟩ (by have := HLn.out; omega) (fun y hy => by have := HMS.out y ((HL5m.out y).1 hy); omega)
              rw [same_any HL5m.out, same_of HL5m.out, HBX.out.1, HBX.out.2] at h
              exact h
            have HCS : Hid (∀ (W : World) (A' : Option Addr) (c' : Nat), Below W9.heap.size W9 W → AR W A' xs.length xs → Calls Try.prog 20 #[.agg #[.bool b, .slice A8 xs.length c8], .agg #[.bool b, .slice A' xs.length c']] W fun e w' => e = .returned (.bool true) ∧ Below W.heap.size W w') := Lib.hid fun W A' c' hW hr => by
              have h := fsame_any b b A8 A' xs.length c8 xs.length c' xs xs W ((R8.out.next HPE.out).next hW) hr (by omega) (by omega)
              rw [show (b == b && decide (xs = xs)) = true by simp] at h
              exact h
            clear HV8 HV6 HVV HVm HOf6 HRr HR5 HR9 HK9 HKN HA HK HAM HM HMS HBX HL6 HL5 HL5m HLn HLn6 HS6 R8 K8 HP HP5 HB5 hB7 HPE HS
            go_upto_region 15 with fail
            cases V with
            | true =>
              cases Vm with
              | true =>
                refine wp_region_held_drew (S := fun _ => True) (by kernel_rfl) trivial (fun _ => ?_)
                refine wpAnyH_each (md := .any) (m := 1) (rem := [0, 1, 2, 3, 4, 5, 6, 7, 8, 9, 10, 11, 12, 13, 14, 15, 16, 17, 18, 19, 20, 21, 22]) (tail := [23]) (deps := fun i => match i with | 2 => [0, 1] | 4 => [2, 3] | 5 => [4] | 6 => [5] | 7 => [5] | 8 => [7, 5] | 9 => [6, 8, 5] | 10 => [5, 9] | 11 => [10] | 12 => [11] | 13 => [11] | 14 => [12, 13, 11] | 15 => [11] | 16 => [15, 11] | 17 => [16] | 18 => [16] | 19 => [17, 18, 16] | 20 => [16, 19, 11] | 21 => [14, 20, 11] | 22 => [11, 21] | _ => []) (fun _ W => Below W9.heap.size W9 W) (fun _ W _ W' => Below W.heap.size W W')
                  (fun ix ds v W => match ix with | 0 => v = .agg #[.bool b, .slice A8 xs.length c8] | 1 => v = .int .u32 a | 2 => v = .bool true | 3 => v = .bool true | 4 => v = .bool true | 5 => v = .bool true | 6 => v = .agg #[.bool b, .slice A8 xs.length c8] | 7 => v = .slice A5 L5.length c5 | 9 => v = .bool true | 10 => v = .bool true | 11 => v = .bool true | 12 => v = .agg #[.bool b6, .slice A9 x6.length c9] | 13 => v = .int .u32 a | 14 => v = .bool true | 15 => v = .bool true | 16 => v = .bool true | 17 => v = undef | 18 => v = undef | 19 => v = undef | 20 => v = .bool true | 21 => v = .bool true | 22 => v = .bool true | 8 => ∃ A' c', v = .agg #[.bool b, .slice A' xs.length c'] ∧ AR W A' xs.length xs | _ => True) (eachB_spec (by kernel_rfl)) (fun _ _ _ _ w _ w' hT hK => hT.trans (hK.mono hT.size)) (fun _ _ _ => trivial) ?_ (fun _ _ _ _ => True) (fun _ _ _ _ _ _ _ _ _ _ _ _ _ _ => ⟨trivial, trivial⟩) ?_ ?_ (Below.refl _ _).drew
                · intro i hi j hj hij hjd ds v u lz W W' _ _ hk h
                  simp only [List.mem_cons, List.not_mem_nil, or_false] at hi
                  rcases hi with rfl | rfl | rfl | rfl | rfl | rfl | rfl | rfl | rfl | rfl | rfl | rfl | rfl | rfl | rfl | rfl | rfl | rfl | rfl | rfl | rfl | rfl | rfl
                  · exact h
                  · exact h
                  · exact h
                  · exact h
                  · exact h
                  · exact h
                  · exact h
                  · exact h
                  · obtain ⟨A', c', e, hr⟩ := h
                    exact ⟨A', c', e, hr.next hk⟩
                  · exact h
                  · exact h
                  · exact h
                  · exact h
                  · exact h
                  · exact h
                  · exact h
                  · exact h
                  · exact h
                  · exact h
                  · exact h
                  · exact h
                  · exact h
                  · exact h
                · refine AllO.cons [] rfl rfl (fun vs lq W hl hT hd => ?_) ?_
                  · obtain ⟨k0, k1⟩ := HC8.out W hT
                    dsimp only [lay, List.foldl, List.map, dstOf]
                    go_wp2
                    exact ⟨rfl, _, rfl, Below.refl _ _, rfl⟩
                  refine AllO.cons [] rfl rfl (fun vs lq W hl hT hd => ?_) ?_
                  · dsimp only [lay, List.foldl, List.map, dstOf]
                    go_wp2
                    exact ⟨rfl, _, rfl, Below.refl _ _, rfl⟩
                  refine AllO.cons [0, 1] rfl rfl (fun vs lq W hl hT hd => ?_) ?_
                  · have e0 : vs 0 = .agg #[.bool b, .slice A8 xs.length c8] := hd 0 (by simp)
                    have e1 : vs 1 = .int .u32 a := hd 1 (by simp)
                    dsimp only [lay, List.foldl, List.map, dstOf]
                    rw [e0, e1]
                    go_wp2_with (go_at_call 13; (with_reducible refine (HCL.out W hT).mono ?_); rintro e w6 ⟨rfl, hb6⟩)
                    exact ⟨rfl, _, rfl, hb6, rfl⟩
                  refine AllO.cons [] rfl rfl (fun vs lq W hl hT hd => ?_) ?_
                  · dsimp only [lay, List.foldl, List.map, dstOf]
                    go_wp2
                    exact ⟨rfl, _, rfl, Below.refl _ _, rfl⟩
                  refine AllO.cons [2, 3] rfl rfl (fun vs lq W hl hT hd => ?_) ?_
                  · have e2 : vs 2 = .bool true := hd 2 (by simp)
                    have e3 : vs 3 = .bool true := hd 3 (by simp)
                    dsimp only [lay, List.foldl, List.map, dstOf]
                    rw [e2, e3]
                    go_wp2
                    exact ⟨rfl, _, rfl, Below.refl _ _, rfl⟩
                  refine AllO.cons [4] rfl rfl (fun vs lq W hl hT hd => ?_) ?_
                  · have e4 : vs 4 = .bool true := hd 4 (by simp)
                    dsimp only [lay, List.foldl, List.map, dstOf]
                    rw [e4]
                    go_wp2
                    exact ⟨rfl, _, rfl, Below.refl _ _, rfl⟩
                  refine AllO.cons [5] rfl rfl (fun vs lq W hl hT hd => ?_) ?_
                  · have e5 : vs 5 = .bool true := hd 5 (by simp)
                    obtain ⟨k0, k1⟩ := HC8.out W hT
                    dsimp only [lay, List.foldl, List.map, dstOf]
                    rw [e5]
                    go_wp2
                    exact ⟨rfl, _, rfl, Below.refl _ _, rfl⟩
                  refine AllO.cons [5] rfl rfl (fun vs lq W hl hT hd => ?_) ?_
                  · have e5 : vs 5 = .bool true := hd 5 (by simp)
                    dsimp only [lay, List.foldl, List.map, dstOf]
                    rw [e5]
                    go_wp2
                    exact ⟨rfl, _, rfl, Below.refl _ _, rfl⟩
                  refine AllO.cons [7, 5] rfl rfl (fun vs lq W hl hT hd => ?_) ?_
                  · have e7 : vs 7 = .slice A5 L5.length c5 := hd 7 (by simp)
                    have e5 : vs 5 = .bool true := hd 5 (by simp)
                    dsimp only [lay, List.foldl, List.map, dstOf]
                    rw [e7, e5]
                    go_wp2_with (go_at_call 10; (with_reducible refine (HCO.out W hT).mono ?_); rintro e w6 ⟨A7, c7, rfl, har7, hb6⟩)
                    first | exact ⟨rfl, _, rfl, hb6, A7, c7, rfl, har7⟩ | exact ⟨rfl, _, rfl, hb6, A7, ⟨c7, rfl⟩, har7⟩
                  refine AllO.cons [6, 8, 5] rfl rfl (fun vs lq W hl hT hd => ?_) ?_
                  · have e6 : vs 6 = .agg #[.bool b, .slice A8 xs.length c8] := hd 6 (by simp)
                    obtain ⟨A7, c7, e8, har7⟩ := hd 8 (by simp)
                    have e5 : vs 5 = .bool true := hd 5 (by simp)
                    dsimp only [lay, List.foldl, List.map, dstOf]
                    rw [e6, e8, e5]
                    go_wp2_with (go_at_call 20; (with_reducible refine (HCS.out W A7 c7 hT har7).mono ?_); rintro e w6 ⟨rfl, hb6⟩)
                    exact ⟨rfl, _, rfl, hb6, rfl⟩
                  refine AllO.cons [5, 9] rfl rfl (fun vs lq W hl hT hd => ?_) ?_
                  · have e5 : vs 5 = .bool true := hd 5 (by simp)
                    have e9 : vs 9 = .bool true := hd 9 (by simp)
                    dsimp only [lay, List.foldl, List.map, dstOf]
                    rw [e5, e9]
                    go_wp2
                    exact ⟨rfl, _, rfl, Below.refl _ _, rfl⟩
                  refine AllO.cons [10] rfl rfl (fun vs lq W hl hT hd => ?_) ?_
                  · have e10 : vs 10 = .bool true := hd 10 (by simp)
                    dsimp only [lay, List.foldl, List.map, dstOf]
                    rw [e10]
                    go_wp2
                    exact ⟨rfl, _, rfl, Below.refl _ _, rfl⟩
                  refine AllO.cons [11] rfl rfl (fun vs lq W hl hT hd => ?_) ?_
                  · have e11 : vs 11 = .bool true := hd 11 (by simp)
                    obtain ⟨k0, k1⟩ := HC9.out W hT
                    dsimp only [lay, List.foldl, List.map, dstOf]
                    rw [e11]
                    go_wp2
                    exact ⟨rfl, _, rfl, Below.refl _ _, rfl⟩
                  refine AllO.cons [11] rfl rfl (fun vs lq W hl hT hd => ?_) ?_
                  · have e11 : vs 11 = .bool true := hd 11 (by simp)
                    dsimp only [lay, List.foldl, List.map, dstOf]
                    rw [e11]
                    go_wp2
                    exact ⟨rfl, _, rfl, Below.refl _ _, rfl⟩
                  refine AllO.cons [12, 13, 11] rfl rfl (fun vs lq W hl hT hd => ?_) ?_
                  · have e12 : vs 12 = .agg #[.bool b6, .slice A9 x6.length c9] := hd 12 (by simp)
                    have e13 : vs 13 = .int .u32 a := hd 13 (by simp)
                    have e11 : vs 11 = .bool true := hd 11 (by simp)
                    dsimp only [lay, List.foldl, List.map, dstOf]
                    rw [e12, e13, e11]
                    go_wp2_with (go_at_call 13; (with_reducible refine (HCM.out W hT).mono ?_); rintro e w6 ⟨rfl, hb6⟩)
                    exact ⟨rfl, _, rfl, hb6, rfl⟩
                  refine AllO.cons [11] rfl rfl (fun vs lq W hl hT hd => ?_) ?_
                  · have e11 : vs 11 = .bool true := hd 11 (by simp)
                    dsimp only [lay, List.foldl, List.map, dstOf]
                    rw [e11]
                    go_wp2
                    exact ⟨rfl, _, rfl, Below.refl _ _, rfl⟩
                  refine AllO.cons [15, 11] rfl rfl (fun vs lq W hl hT hd => ?_) ?_
                  · have e15 : vs 15 = .bool true := hd 15 (by simp)
                    have e11 : vs 11 = .bool true := hd 11 (by simp)
                    dsimp only [lay, List.foldl, List.map, dstOf]
                    rw [e15, e11]
                    go_wp2
                    exact ⟨rfl, _, rfl, Below.refl _ _, rfl⟩
                  refine AllO.cons [16] rfl rfl (fun vs lq W hl hT hd => ?_) ?_
                  · have e16 : vs 16 = .bool true := hd 16 (by simp)
                    dsimp only [lay, List.foldl, List.map, dstOf]
                    rw [e16]
                    go_wp2
                    exact ⟨rfl, _, rfl, Below.refl _ _, rfl⟩
                  refine AllO.cons [16] rfl rfl (fun vs lq W hl hT hd => ?_) ?_
                  · have e16 : vs 16 = .bool true := hd 16 (by simp)
                    dsimp only [lay, List.foldl, List.map, dstOf]
                    rw [e16]
                    go_wp2
                    exact ⟨rfl, _, rfl, Below.refl _ _, rfl⟩
                  refine AllO.cons [17, 18, 16] rfl rfl (fun vs lq W hl hT hd => ?_) ?_
                  · have e17 : vs 17 = undef := hd 17 (by simp)
                    have e18 : vs 18 = undef := hd 18 (by simp)
                    have e16 : vs 16 = .bool true := hd 16 (by simp)
                    dsimp only [lay, List.foldl, List.map, dstOf]
                    rw [e17, e18, e16]
                    go_wp2
                    exact ⟨rfl, _, rfl, Below.refl _ _, rfl⟩
                  refine AllO.cons [16, 19, 11] rfl rfl (fun vs lq W hl hT hd => ?_) ?_
                  · have e16 : vs 16 = .bool true := hd 16 (by simp)
                    have e19 : vs 19 = undef := hd 19 (by simp)
                    have e11 : vs 11 = .bool true := hd 11 (by simp)
                    dsimp only [lay, List.foldl, List.map, dstOf]
                    rw [e16, e19, e11]
                    go_wp2
                    exact ⟨rfl, _, rfl, Below.refl _ _, rfl⟩
                  refine AllO.cons [14, 20, 11] rfl rfl (fun vs lq W hl hT hd => ?_) ?_
                  · have e14 : vs 14 = .bool true := hd 14 (by simp)
                    have e20 : vs 20 = .bool true := hd 20 (by simp)
                    have e11 : vs 11 = .bool true := hd 11 (by simp)
                    dsimp only [lay, List.foldl, List.map, dstOf]
                    rw [e14, e20, e11]
                    go_wp2
                    exact ⟨rfl, _, rfl, Below.refl _ _, rfl⟩
                  refine AllO.cons [11, 21] rfl rfl (fun vs lq W hl hT hd => ?_) AllO.nil
                  · have e11 : vs 11 = .bool true := hd 11 (by simp)
                    have e21 : vs 21 = .bool true := hd 21 (by simp)
                    dsimp only [lay, List.foldl, List.map, dstOf]
                    rw [e11, e21]
                    go_wp2
                    exact ⟨rfl, _, rfl, Below.refl _ _, rfl⟩
                · intro vs lq W hall hT hF _ aE LE ha hL
                  have e0 : vs 0 = .agg #[.bool b, .slice A8 xs.length c8] := hF 0 (by simp)
                  have e1 : vs 1 = .int .u32 a := hF 1 (by simp)
                  have e2 : vs 2 = .bool true := hF 2 (by simp)
                  have e3 : vs 3 = .bool true := hF 3 (by simp)
                  have e4 : vs 4 = .bool true := hF 4 (by simp)
                  have e5 : vs 5 = .bool true := hF 5 (by simp)
                  have e6 : vs 6 = .agg #[.bool b, .slice A8 xs.length c8] := hF 6 (by simp)
                  have e7 : vs 7 = .slice A5 L5.length c5 := hF 7 (by simp)
                  obtain ⟨A7, c7, e8, -⟩ := hF 8 (by simp)
                  have e9 : vs 9 = .bool true := hF 9 (by simp)
                  have e10 : vs 10 = .bool true := hF 10 (by simp)
                  have e11 : vs 11 = .bool true := hF 11 (by simp)
                  have e12 : vs 12 = .agg #[.bool b6, .slice A9 x6.length c9] := hF 12 (by simp)
                  have e13 : vs 13 = .int .u32 a := hF 13 (by simp)
                  have e14 : vs 14 = .bool true := hF 14 (by simp)
                  have e15 : vs 15 = .bool true := hF 15 (by simp)
                  have e16 : vs 16 = .bool true := hF 16 (by simp)
                  have e17 : vs 17 = undef := hF 17 (by simp)
                  have e18 : vs 18 = undef := hF 18 (by simp)
                  have e19 : vs 19 = undef := hF 19 (by simp)
                  have e20 : vs 20 = .bool true := hF 20 (by simp)
                  have e21 : vs 21 = .bool true := hF 21 (by simp)
                  have e22 : vs 22 = .bool true := hF 22 (by simp)
                  have hL' : LE = #[true, true, true, true, true, true, true, true, true, true, true, true, true, true, true, true, true, true, true, true, true, true, true, false] := hL.trans (by kernel_rfl)
                  dsimp only [lay, List.foldl, dstOf] at ha
                  rw [e0, e1, e2, e3, e4, e5, e6, e7, e8, e9, e10, e11, e12, e13, e14, e15, e16, e17, e18, e19, e20, e21, e22] at ha
                  clear e0 e1 e2 e3 e4 e5 e6 e7 e8 e9 e10 e11 e12 e13 e14 e15 e16 e17 e18 e19 e20 e21 e22 hL hF hall
                  subst ha hL'
                  refine wpAnyH_ready (rs := [23]) (by kernel_rfl) (by simp) ?_
                  refine AllReadyH.cons rfl (fun Kq hK => ?_) AllReadyH.nil
                  go_simp
                  refine hK.out _ _ trivial (fun _ => ?_)
                  clear hK
                  refine wpAnyH_done (by kernel_rfl) ?_ _
                  go_wp2
                  go_ret
                  exact ⟨rfl, by rw [hN]; exact HBE.out.trans (hT.mono HZE.out)⟩
              | false =>
                refine wp_region_held_drew (S := fun _ => True) (by kernel_rfl) trivial (fun _ => ?_)
                refine wpAnyH_each (md := .any) (m := 1) (rem := [0, 1, 2, 3, 4, 5, 6, 7, 8, 9, 10, 11, 12, 13, 14, 15, 16, 17, 18, 19, 20, 21, 22]) (tail := [23]) (deps := fun i => match i with | 2 => [0, 1] | 4 => [2, 3] | 5 => [4] | 6 => [5] | 7 => [5] | 8 => [7, 5] | 9 => [6, 8, 5] | 10 => [5, 9] | 11 => [10] | 12 => [11] | 13 => [11] | 14 => [12, 13, 11] | 15 => [11] | 16 => [15, 11] | 17 => [16] | 18 => [16] | 19 => [17, 18, 16] | 20 => [16, 19, 11] | 21 => [14, 20, 11] | 22 => [11, 21] | _ => []) (fun _ W => Below W9.heap.size W9 W) (fun _ W _ W' => Below W.heap.size W W')
                  (fun ix ds v W => match ix with | 0 => v = .agg #[.bool b, .slice A8 xs.length c8] | 1 => v = .int .u32 a | 2 => v = .bool true | 3 => v = .bool true | 4 => v = .bool true | 5 => v = .bool true | 6 => v = .agg #[.bool b, .slice A8 xs.length c8] | 7 => v = .slice A5 L5.length c5 | 9 => v = .bool true | 10 => v = .bool true | 11 => v = .bool true | 12 => v = .agg #[.bool b6, .slice A9 x6.length c9] | 13 => v = .int .u32 a | 14 => v = .bool true | 15 => v = .bool true | 16 => v = .bool true | 17 => v = undef | 18 => v = undef | 19 => v = undef | 20 => v = .bool true | 21 => v = .bool true | 22 => v = .bool true | 8 => ∃ A' c', v = .agg #[.bool b, .slice A' xs.length c'] ∧ AR W A' xs.length xs | _ => True) (eachB_spec (by kernel_rfl)) (fun _ _ _ _ w _ w' hT hK => hT.trans (hK.mono hT.size)) (fun _ _ _ => trivial) ?_ (fun _ _ _ _ => True) (fun _ _ _ _ _ _ _ _ _ _ _ _ _ _ => ⟨trivial, trivial⟩) ?_ ?_ (Below.refl _ _).drew
                · intro i hi j hj hij hjd ds v u lz W W' _ _ hk h
                  simp only [List.mem_cons, List.not_mem_nil, or_false] at hi
                  rcases hi with rfl | rfl | rfl | rfl | rfl | rfl | rfl | rfl | rfl | rfl | rfl | rfl | rfl | rfl | rfl | rfl | rfl | rfl | rfl | rfl | rfl | rfl | rfl
                  · exact h
                  · exact h
                  · exact h
                  · exact h
                  · exact h
                  · exact h
                  · exact h
                  · exact h
                  · obtain ⟨A', c', e, hr⟩ := h
                    exact ⟨A', c', e, hr.next hk⟩
                  · exact h
                  · exact h
                  · exact h
                  · exact h
                  · exact h
                  · exact h
                  · exact h
                  · exact h
                  · exact h
                  · exact h
                  · exact h
                  · exact h
                  · exact h
                  · exact h
                · refine AllO.cons [] rfl rfl (fun vs lq W hl hT hd => ?_) ?_
                  · obtain ⟨k0, k1⟩ := HC8.out W hT
                    dsimp only [lay, List.foldl, List.map, dstOf]
                    go_wp2
                    exact ⟨rfl, _, rfl, Below.refl _ _, rfl⟩
                  refine AllO.cons [] rfl rfl (fun vs lq W hl hT hd => ?_) ?_
                  · dsimp only [lay, List.foldl, List.map, dstOf]
                    go_wp2
                    exact ⟨rfl, _, rfl, Below.refl _ _, rfl⟩
                  refine AllO.cons [0, 1] rfl rfl (fun vs lq W hl hT hd => ?_) ?_
                  · have e0 : vs 0 = .agg #[.bool b, .slice A8 xs.length c8] := hd 0 (by simp)
                    have e1 : vs 1 = .int .u32 a := hd 1 (by simp)
                    dsimp only [lay, List.foldl, List.map, dstOf]
                    rw [e0, e1]
                    go_wp2_with (go_at_call 13; (with_reducible refine (HCL.out W hT).mono ?_); rintro e w6 ⟨rfl, hb6⟩)
                    exact ⟨rfl, _, rfl, hb6, rfl⟩
                  refine AllO.cons [] rfl rfl (fun vs lq W hl hT hd => ?_) ?_
                  · dsimp only [lay, List.foldl, List.map, dstOf]
                    go_wp2
                    exact ⟨rfl, _, rfl, Below.refl _ _, rfl⟩
                  refine AllO.cons [2, 3] rfl rfl (fun vs lq W hl hT hd => ?_) ?_
                  · have e2 : vs 2 = .bool true := hd 2 (by simp)
                    have e3 : vs 3 = .bool true := hd 3 (by simp)
                    dsimp only [lay, List.foldl, List.map, dstOf]
                    rw [e2, e3]
                    go_wp2
                    exact ⟨rfl, _, rfl, Below.refl _ _, rfl⟩
                  refine AllO.cons [4] rfl rfl (fun vs lq W hl hT hd => ?_) ?_
                  · have e4 : vs 4 = .bool true := hd 4 (by simp)
                    dsimp only [lay, List.foldl, List.map, dstOf]
                    rw [e4]
                    go_wp2
                    exact ⟨rfl, _, rfl, Below.refl _ _, rfl⟩
                  refine AllO.cons [5] rfl rfl (fun vs lq W hl hT hd => ?_) ?_
                  · have e5 : vs 5 = .bool true := hd 5 (by simp)
                    obtain ⟨k0, k1⟩ := HC8.out W hT
                    dsimp only [lay, List.foldl, List.map, dstOf]
                    rw [e5]
                    go_wp2
                    exact ⟨rfl, _, rfl, Below.refl _ _, rfl⟩
                  refine AllO.cons [5] rfl rfl (fun vs lq W hl hT hd => ?_) ?_
                  · have e5 : vs 5 = .bool true := hd 5 (by simp)
                    dsimp only [lay, List.foldl, List.map, dstOf]
                    rw [e5]
                    go_wp2
                    exact ⟨rfl, _, rfl, Below.refl _ _, rfl⟩
                  refine AllO.cons [7, 5] rfl rfl (fun vs lq W hl hT hd => ?_) ?_
                  · have e7 : vs 7 = .slice A5 L5.length c5 := hd 7 (by simp)
                    have e5 : vs 5 = .bool true := hd 5 (by simp)
                    dsimp only [lay, List.foldl, List.map, dstOf]
                    rw [e7, e5]
                    go_wp2_with (go_at_call 10; (with_reducible refine (HCO.out W hT).mono ?_); rintro e w6 ⟨A7, c7, rfl, har7, hb6⟩)
                    first | exact ⟨rfl, _, rfl, hb6, A7, c7, rfl, har7⟩ | exact ⟨rfl, _, rfl, hb6, A7, ⟨c7, rfl⟩, har7⟩
                  refine AllO.cons [6, 8, 5] rfl rfl (fun vs lq W hl hT hd => ?_) ?_
                  · have e6 : vs 6 = .agg #[.bool b, .slice A8 xs.length c8] := hd 6 (by simp)
                    obtain ⟨A7, c7, e8, har7⟩ := hd 8 (by simp)
                    have e5 : vs 5 = .bool true := hd 5 (by simp)
                    dsimp only [lay, List.foldl, List.map, dstOf]
                    rw [e6, e8, e5]
                    go_wp2_with (go_at_call 20; (with_reducible refine (HCS.out W A7 c7 hT har7).mono ?_); rintro e w6 ⟨rfl, hb6⟩)
                    exact ⟨rfl, _, rfl, hb6, rfl⟩
                  refine AllO.cons [5, 9] rfl rfl (fun vs lq W hl hT hd => ?_) ?_
                  · have e5 : vs 5 = .bool true := hd 5 (by simp)
                    have e9 : vs 9 = .bool true := hd 9 (by simp)
                    dsimp only [lay, List.foldl, List.map, dstOf]
                    rw [e5, e9]
                    go_wp2
                    exact ⟨rfl, _, rfl, Below.refl _ _, rfl⟩
                  refine AllO.cons [10] rfl rfl (fun vs lq W hl hT hd => ?_) ?_
                  · have e10 : vs 10 = .bool true := hd 10 (by simp)
                    dsimp only [lay, List.foldl, List.map, dstOf]
                    rw [e10]
                    go_wp2
                    exact ⟨rfl, _, rfl, Below.refl _ _, rfl⟩
                  refine AllO.cons [11] rfl rfl (fun vs lq W hl hT hd => ?_) ?_
                  · have e11 : vs 11 = .bool true := hd 11 (by simp)
                    obtain ⟨k0, k1⟩ := HC9.out W hT
                    dsimp only [lay, List.foldl, List.map, dstOf]
                    rw [e11]
                    go_wp2
                    exact ⟨rfl, _, rfl, Below.refl _ _, rfl⟩
                  refine AllO.cons [11] rfl rfl (fun vs lq W hl hT hd => ?_) ?_
                  · have e11 : vs 11 = .bool true := hd 11 (by simp)
                    dsimp only [lay, List.foldl, List.map, dstOf]
                    rw [e11]
                    go_wp2
                    exact ⟨rfl, _, rfl, Below.refl _ _, rfl⟩
                  refine AllO.cons [12, 13, 11] rfl rfl (fun vs lq W hl hT hd => ?_) ?_
                  · have e12 : vs 12 = .agg #[.bool b6, .slice A9 x6.length c9] := hd 12 (by simp)
                    have e13 : vs 13 = .int .u32 a := hd 13 (by simp)
                    have e11 : vs 11 = .bool true := hd 11 (by simp)
                    dsimp only [lay, List.foldl, List.map, dstOf]
                    rw [e12, e13, e11]
                    go_wp2_with (go_at_call 13; (with_reducible refine (HCM.out W hT).mono ?_); rintro e w6 ⟨rfl, hb6⟩)
                    exact ⟨rfl, _, rfl, hb6, rfl⟩
                  refine AllO.cons [11] rfl rfl (fun vs lq W hl hT hd => ?_) ?_
                  · have e11 : vs 11 = .bool true := hd 11 (by simp)
                    dsimp only [lay, List.foldl, List.map, dstOf]
                    rw [e11]
                    go_wp2
                    exact ⟨rfl, _, rfl, Below.refl _ _, rfl⟩
                  refine AllO.cons [15, 11] rfl rfl (fun vs lq W hl hT hd => ?_) ?_
                  · have e15 : vs 15 = .bool true := hd 15 (by simp)
                    have e11 : vs 11 = .bool true := hd 11 (by simp)
                    dsimp only [lay, List.foldl, List.map, dstOf]
                    rw [e15, e11]
                    go_wp2
                    exact ⟨rfl, _, rfl, Below.refl _ _, rfl⟩
                  refine AllO.cons [16] rfl rfl (fun vs lq W hl hT hd => ?_) ?_
                  · have e16 : vs 16 = .bool true := hd 16 (by simp)
                    dsimp only [lay, List.foldl, List.map, dstOf]
                    rw [e16]
                    go_wp2
                    exact ⟨rfl, _, rfl, Below.refl _ _, rfl⟩
                  refine AllO.cons [16] rfl rfl (fun vs lq W hl hT hd => ?_) ?_
                  · have e16 : vs 16 = .bool true := hd 16 (by simp)
                    dsimp only [lay, List.foldl, List.map, dstOf]
                    rw [e16]
                    go_wp2
                    exact ⟨rfl, _, rfl, Below.refl _ _, rfl⟩
                  refine AllO.cons [17, 18, 16] rfl rfl (fun vs lq W hl hT hd => ?_) ?_
                  · have e17 : vs 17 = undef := hd 17 (by simp)
                    have e18 : vs 18 = undef := hd 18 (by simp)
                    have e16 : vs 16 = .bool true := hd 16 (by simp)
                    dsimp only [lay, List.foldl, List.map, dstOf]
                    rw [e17, e18, e16]
                    go_wp2
                    exact ⟨rfl, _, rfl, Below.refl _ _, rfl⟩
                  refine AllO.cons [16, 19, 11] rfl rfl (fun vs lq W hl hT hd => ?_) ?_
                  · have e16 : vs 16 = .bool true := hd 16 (by simp)
                    have e19 : vs 19 = undef := hd 19 (by simp)
                    have e11 : vs 11 = .bool true := hd 11 (by simp)
                    dsimp only [lay, List.foldl, List.map, dstOf]
                    rw [e16, e19, e11]
                    go_wp2
                    exact ⟨rfl, _, rfl, Below.refl _ _, rfl⟩
                  refine AllO.cons [14, 20, 11] rfl rfl (fun vs lq W hl hT hd => ?_) ?_
                  · have e14 : vs 14 = .bool true := hd 14 (by simp)
                    have e20 : vs 20 = .bool true := hd 20 (by simp)
                    have e11 : vs 11 = .bool true := hd 11 (by simp)
                    dsimp only [lay, List.foldl, List.map, dstOf]
                    rw [e14, e20, e11]
                    go_wp2
                    exact ⟨rfl, _, rfl, Below.refl _ _, rfl⟩
                  refine AllO.cons [11, 21] rfl rfl (fun vs lq W hl hT hd => ?_) AllO.nil
                  · have e11 : vs 11 = .bool true := hd 11 (by simp)
                    have e21 : vs 21 = .bool true := hd 21 (by simp)
                    dsimp only [lay, List.foldl, List.map, dstOf]
                    rw [e11, e21]
                    go_wp2
                    exact ⟨rfl, _, rfl, Below.refl _ _, rfl⟩
                · intro vs lq W hall hT hF _ aE LE ha hL
                  have e0 : vs 0 = .agg #[.bool b, .slice A8 xs.length c8] := hF 0 (by simp)
                  have e1 : vs 1 = .int .u32 a := hF 1 (by simp)
                  have e2 : vs 2 = .bool true := hF 2 (by simp)
                  have e3 : vs 3 = .bool true := hF 3 (by simp)
                  have e4 : vs 4 = .bool true := hF 4 (by simp)
                  have e5 : vs 5 = .bool true := hF 5 (by simp)
                  have e6 : vs 6 = .agg #[.bool b, .slice A8 xs.length c8] := hF 6 (by simp)
                  have e7 : vs 7 = .slice A5 L5.length c5 := hF 7 (by simp)
                  obtain ⟨A7, c7, e8, -⟩ := hF 8 (by simp)
                  have e9 : vs 9 = .bool true := hF 9 (by simp)
                  have e10 : vs 10 = .bool true := hF 10 (by simp)
                  have e11 : vs 11 = .bool true := hF 11 (by simp)
                  have e12 : vs 12 = .agg #[.bool b6, .slice A9 x6.length c9] := hF 12 (by simp)
                  have e13 : vs 13 = .int .u32 a := hF 13 (by simp)
                  have e14 : vs 14 = .bool true := hF 14 (by simp)
                  have e15 : vs 15 = .bool true := hF 15 (by simp)
                  have e16 : vs 16 = .bool true := hF 16 (by simp)
                  have e17 : vs 17 = undef := hF 17 (by simp)
                  have e18 : vs 18 = undef := hF 18 (by simp)
                  have e19 : vs 19 = undef := hF 19 (by simp)
                  have e20 : vs 20 = .bool true := hF 20 (by simp)
                  have e21 : vs 21 = .bool true := hF 21 (by simp)
                  have e22 : vs 22 = .bool true := hF 22 (by simp)
                  have hL' : LE = #[true, true, true, true, true, true, true, true, true, true, true, true, true, true, true, true, true, true, true, true, true, true, true, false] := hL.trans (by kernel_rfl)
                  dsimp only [lay, List.foldl, dstOf] at ha
                  rw [e0, e1, e2, e3, e4, e5, e6, e7, e8, e9, e10, e11, e12, e13, e14, e15, e16, e17, e18, e19, e20, e21, e22] at ha
                  clear e0 e1 e2 e3 e4 e5 e6 e7 e8 e9 e10 e11 e12 e13 e14 e15 e16 e17 e18 e19 e20 e21 e22 hL hF hall
                  subst ha hL'
                  refine wpAnyH_ready (rs := [23]) (by kernel_rfl) (by simp) ?_
                  refine AllReadyH.cons rfl (fun Kq hK => ?_) AllReadyH.nil
                  go_simp
                  refine hK.out _ _ trivial (fun _ => ?_)
                  clear hK
                  refine wpAnyH_done (by kernel_rfl) ?_ _
                  go_wp2
                  go_ret
                  exact ⟨rfl, by rw [hN]; exact HBE.out.trans (hT.mono HZE.out)⟩
            | false =>
              cases Vm with
              | true =>
                refine wp_region_held_drew (S := fun _ => True) (by kernel_rfl) trivial (fun _ => ?_)
                refine wpAnyH_each (md := .any) (m := 1) (rem := [0, 1, 2, 3, 4, 5, 6, 7, 8, 9, 10, 11, 12, 13, 14, 15, 16, 17, 18, 19, 20, 21, 22]) (tail := [23]) (deps := fun i => match i with | 2 => [0, 1] | 4 => [2, 3] | 5 => [4] | 6 => [5] | 7 => [5] | 8 => [7, 5] | 9 => [6, 8, 5] | 10 => [5, 9] | 11 => [10] | 12 => [11] | 13 => [11] | 14 => [12, 13, 11] | 15 => [11] | 16 => [15, 11] | 17 => [16] | 18 => [16] | 19 => [17, 18, 16] | 20 => [16, 19, 11] | 21 => [14, 20, 11] | 22 => [11, 21] | _ => []) (fun _ W => Below W9.heap.size W9 W) (fun _ W _ W' => Below W.heap.size W W')
                  (fun ix ds v W => match ix with | 0 => v = .agg #[.bool b, .slice A8 xs.length c8] | 1 => v = .int .u32 a | 2 => v = .bool false | 3 => v = .bool false | 4 => v = .bool true | 5 => v = .bool true | 6 => v = .agg #[.bool b, .slice A8 xs.length c8] | 7 => v = .slice A5 L5.length c5 | 9 => v = .bool true | 10 => v = .bool true | 11 => v = .bool true | 12 => v = .agg #[.bool b6, .slice A9 x6.length c9] | 13 => v = .int .u32 a | 14 => v = .bool true | 15 => v = .bool false | 16 => v = .bool false | 17 => v = .agg #[.int .i64 l, .int .u32 g, .bool o, .slice mA mn mc] | 18 => v = .int .u32 a | 19 => v = .bool true | 20 => v = .bool true | 21 => v = .bool true | 22 => v = .bool true | 8 => ∃ A' c', v = .agg #[.bool b, .slice A' xs.length c'] ∧ AR W A' xs.length xs | _ => True) (eachB_spec (by kernel_rfl)) (fun _ _ _ _ w _ w' hT hK => hT.trans (hK.mono hT.size)) (fun _ _ _ => trivial) ?_ (fun _ _ _ _ => True) (fun _ _ _ _ _ _ _ _ _ _ _ _ _ _ => ⟨trivial, trivial⟩) ?_ ?_ (Below.refl _ _).drew
                · intro i hi j hj hij hjd ds v u lz W W' _ _ hk h
                  simp only [List.mem_cons, List.not_mem_nil, or_false] at hi
                  rcases hi with rfl | rfl | rfl | rfl | rfl | rfl | rfl | rfl | rfl | rfl | rfl | rfl | rfl | rfl | rfl | rfl | rfl | rfl | rfl | rfl | rfl | rfl | rfl
                  · exact h
                  · exact h
                  · exact h
                  · exact h
                  · exact h
                  · exact h
                  · exact h
                  · exact h
                  · obtain ⟨A', c', e, hr⟩ := h
                    exact ⟨A', c', e, hr.next hk⟩
                  · exact h
                  · exact h
                  · exact h
                  · exact h
                  · exact h
                  · exact h
                  · exact h
                  · exact h
                  · exact h
                  · exact h
                  · exact h
                  · exact h
                  · exact h
                  · exact h
                · refine AllO.cons [] rfl rfl (fun vs lq W hl hT hd => ?_) ?_
                  · obtain ⟨k0, k1⟩ := HC8.out W hT
                    dsimp only [lay, List.foldl, List.map, dstOf]
                    go_wp2
                    exact ⟨rfl, _, rfl, Below.refl _ _, rfl⟩
                  refine AllO.cons [] rfl rfl (fun vs lq W hl hT hd => ?_) ?_
                  · dsimp only [lay, List.foldl, List.map, dstOf]
                    go_wp2
                    exact ⟨rfl, _, rfl, Below.refl _ _, rfl⟩
                  refine AllO.cons [0, 1] rfl rfl (fun vs lq W hl hT hd => ?_) ?_
                  · have e0 : vs 0 = .agg #[.bool b, .slice A8 xs.length c8] := hd 0 (by simp)
                    have e1 : vs 1 = .int .u32 a := hd 1 (by simp)
                    dsimp only [lay, List.foldl, List.map, dstOf]
                    rw [e0, e1]
                    go_wp2_with (go_at_call 13; (with_reducible refine (HCL.out W hT).mono ?_); rintro e w6 ⟨rfl, hb6⟩)
                    exact ⟨rfl, _, rfl, hb6, rfl⟩
                  refine AllO.cons [] rfl rfl (fun vs lq W hl hT hd => ?_) ?_
                  · dsimp only [lay, List.foldl, List.map, dstOf]
                    go_wp2
                    exact ⟨rfl, _, rfl, Below.refl _ _, rfl⟩
                  refine AllO.cons [2, 3] rfl rfl (fun vs lq W hl hT hd => ?_) ?_
                  · have e2 : vs 2 = .bool false := hd 2 (by simp)
                    have e3 : vs 3 = .bool false := hd 3 (by simp)
                    dsimp only [lay, List.foldl, List.map, dstOf]
                    rw [e2, e3]
                    go_wp2
                    exact ⟨rfl, _, rfl, Below.refl _ _, rfl⟩
                  refine AllO.cons [4] rfl rfl (fun vs lq W hl hT hd => ?_) ?_
                  · have e4 : vs 4 = .bool true := hd 4 (by simp)
                    dsimp only [lay, List.foldl, List.map, dstOf]
                    rw [e4]
                    go_wp2
                    exact ⟨rfl, _, rfl, Below.refl _ _, rfl⟩
                  refine AllO.cons [5] rfl rfl (fun vs lq W hl hT hd => ?_) ?_
                  · have e5 : vs 5 = .bool true := hd 5 (by simp)
                    obtain ⟨k0, k1⟩ := HC8.out W hT
                    dsimp only [lay, List.foldl, List.map, dstOf]
                    rw [e5]
                    go_wp2
                    exact ⟨rfl, _, rfl, Below.refl _ _, rfl⟩
                  refine AllO.cons [5] rfl rfl (fun vs lq W hl hT hd => ?_) ?_
                  · have e5 : vs 5 = .bool true := hd 5 (by simp)
                    dsimp only [lay, List.foldl, List.map, dstOf]
                    rw [e5]
                    go_wp2
                    exact ⟨rfl, _, rfl, Below.refl _ _, rfl⟩
                  refine AllO.cons [7, 5] rfl rfl (fun vs lq W hl hT hd => ?_) ?_
                  · have e7 : vs 7 = .slice A5 L5.length c5 := hd 7 (by simp)
                    have e5 : vs 5 = .bool true := hd 5 (by simp)
                    dsimp only [lay, List.foldl, List.map, dstOf]
                    rw [e7, e5]
                    go_wp2_with (go_at_call 10; (with_reducible refine (HCO.out W hT).mono ?_); rintro e w6 ⟨A7, c7, rfl, har7, hb6⟩)
                    first | exact ⟨rfl, _, rfl, hb6, A7, c7, rfl, har7⟩ | exact ⟨rfl, _, rfl, hb6, A7, ⟨c7, rfl⟩, har7⟩
                  refine AllO.cons [6, 8, 5] rfl rfl (fun vs lq W hl hT hd => ?_) ?_
                  · have e6 : vs 6 = .agg #[.bool b, .slice A8 xs.length c8] := hd 6 (by simp)
                    obtain ⟨A7, c7, e8, har7⟩ := hd 8 (by simp)
                    have e5 : vs 5 = .bool true := hd 5 (by simp)
                    dsimp only [lay, List.foldl, List.map, dstOf]
                    rw [e6, e8, e5]
                    go_wp2_with (go_at_call 20; (with_reducible refine (HCS.out W A7 c7 hT har7).mono ?_); rintro e w6 ⟨rfl, hb6⟩)
                    exact ⟨rfl, _, rfl, hb6, rfl⟩
                  refine AllO.cons [5, 9] rfl rfl (fun vs lq W hl hT hd => ?_) ?_
                  · have e5 : vs 5 = .bool true := hd 5 (by simp)
                    have e9 : vs 9 = .bool true := hd 9 (by simp)
                    dsimp only [lay, List.foldl, List.map, dstOf]
                    rw [e5, e9]
                    go_wp2
                    exact ⟨rfl, _, rfl, Below.refl _ _, rfl⟩
                  refine AllO.cons [10] rfl rfl (fun vs lq W hl hT hd => ?_) ?_
                  · have e10 : vs 10 = .bool true := hd 10 (by simp)
                    dsimp only [lay, List.foldl, List.map, dstOf]
                    rw [e10]
                    go_wp2
                    exact ⟨rfl, _, rfl, Below.refl _ _, rfl⟩
                  refine AllO.cons [11] rfl rfl (fun vs lq W hl hT hd => ?_) ?_
                  · have e11 : vs 11 = .bool true := hd 11 (by simp)
                    obtain ⟨k0, k1⟩ := HC9.out W hT
                    dsimp only [lay, List.foldl, List.map, dstOf]
                    rw [e11]
                    go_wp2
                    exact ⟨rfl, _, rfl, Below.refl _ _, rfl⟩
                  refine AllO.cons [11] rfl rfl (fun vs lq W hl hT hd => ?_) ?_
                  · have e11 : vs 11 = .bool true := hd 11 (by simp)
                    dsimp only [lay, List.foldl, List.map, dstOf]
                    rw [e11]
                    go_wp2
                    exact ⟨rfl, _, rfl, Below.refl _ _, rfl⟩
                  refine AllO.cons [12, 13, 11] rfl rfl (fun vs lq W hl hT hd => ?_) ?_
                  · have e12 : vs 12 = .agg #[.bool b6, .slice A9 x6.length c9] := hd 12 (by simp)
                    have e13 : vs 13 = .int .u32 a := hd 13 (by simp)
                    have e11 : vs 11 = .bool true := hd 11 (by simp)
                    dsimp only [lay, List.foldl, List.map, dstOf]
                    rw [e12, e13, e11]
                    go_wp2_with (go_at_call 13; (with_reducible refine (HCM.out W hT).mono ?_); rintro e w6 ⟨rfl, hb6⟩)
                    exact ⟨rfl, _, rfl, hb6, rfl⟩
                  refine AllO.cons [11] rfl rfl (fun vs lq W hl hT hd => ?_) ?_
                  · have e11 : vs 11 = .bool true := hd 11 (by simp)
                    dsimp only [lay, List.foldl, List.map, dstOf]
                    rw [e11]
                    go_wp2
                    exact ⟨rfl, _, rfl, Below.refl _ _, rfl⟩
                  refine AllO.cons [15, 11] rfl rfl (fun vs lq W hl hT hd => ?_) ?_
                  · have e15 : vs 15 = .bool false := hd 15 (by simp)
                    have e11 : vs 11 = .bool true := hd 11 (by simp)
                    dsimp only [lay, List.foldl, List.map, dstOf]
                    rw [e15, e11]
                    go_wp2
                    exact ⟨rfl, _, rfl, Below.refl _ _, rfl⟩
                  refine AllO.cons [16] rfl rfl (fun vs lq W hl hT hd => ?_) ?_
                  · have e16 : vs 16 = .bool false := hd 16 (by simp)
                    obtain ⟨k0, k1, k2, k3⟩ := HCN.out W hT
                    dsimp only [lay, List.foldl, List.map, dstOf]
                    rw [e16]
                    go_wp2
                    exact ⟨rfl, _, rfl, Below.refl _ _, rfl⟩
                  refine AllO.cons [16] rfl rfl (fun vs lq W hl hT hd => ?_) ?_
                  · have e16 : vs 16 = .bool false := hd 16 (by simp)
                    dsimp only [lay, List.foldl, List.map, dstOf]
                    rw [e16]
                    go_wp2
                    exact ⟨rfl, _, rfl, Below.refl _ _, rfl⟩
                  refine AllO.cons [17, 18, 16] rfl rfl (fun vs lq W hl hT hd => ?_) ?_
                  · have e17 : vs 17 = .agg #[.int .i64 l, .int .u32 g, .bool o, .slice mA mn mc] := hd 17 (by simp)
                    have e18 : vs 18 = .int .u32 a := hd 18 (by simp)
                    have e16 : vs 16 = .bool false := hd 16 (by simp)
                    dsimp only [lay, List.foldl, List.map, dstOf]
                    rw [e17, e18, e16]
                    go_wp2_with (go_at_call 15; (with_reducible refine (HCA.out W hT).mono ?_); rintro e w6 ⟨rfl, hb6⟩)
                    exact ⟨rfl, _, rfl, hb6, rfl⟩
                  refine AllO.cons [16, 19, 11] rfl rfl (fun vs lq W hl hT hd => ?_) ?_
                  · have e16 : vs 16 = .bool false := hd 16 (by simp)
                    have e19 : vs 19 = .bool true := hd 19 (by simp)
                    have e11 : vs 11 = .bool true := hd 11 (by simp)
                    dsimp only [lay, List.foldl, List.map, dstOf]
                    rw [e16, e19, e11]
                    go_wp2
                    exact ⟨rfl, _, rfl, Below.refl _ _, rfl⟩
                  refine AllO.cons [14, 20, 11] rfl rfl (fun vs lq W hl hT hd => ?_) ?_
                  · have e14 : vs 14 = .bool true := hd 14 (by simp)
                    have e20 : vs 20 = .bool true := hd 20 (by simp)
                    have e11 : vs 11 = .bool true := hd 11 (by simp)
                    dsimp only [lay, List.foldl, List.map, dstOf]
                    rw [e14, e20, e11]
                    go_wp2
                    exact ⟨rfl, _, rfl, Below.refl _ _, rfl⟩
                  refine AllO.cons [11, 21] rfl rfl (fun vs lq W hl hT hd => ?_) AllO.nil
                  · have e11 : vs 11 = .bool true := hd 11 (by simp)
                    have e21 : vs 21 = .bool true := hd 21 (by simp)
                    dsimp only [lay, List.foldl, List.map, dstOf]
                    rw [e11, e21]
                    go_wp2
                    exact ⟨rfl, _, rfl, Below.refl _ _, rfl⟩
                · intro vs lq W hall hT hF _ aE LE ha hL
                  have e0 : vs 0 = .agg #[.bool b, .slice A8 xs.length c8] := hF 0 (by simp)
                  have e1 : vs 1 = .int .u32 a := hF 1 (by simp)
                  have e2 : vs 2 = .bool false := hF 2 (by simp)
                  have e3 : vs 3 = .bool false := hF 3 (by simp)
                  have e4 : vs 4 = .bool true := hF 4 (by simp)
                  have e5 : vs 5 = .bool true := hF 5 (by simp)
                  have e6 : vs 6 = .agg #[.bool b, .slice A8 xs.length c8] := hF 6 (by simp)
                  have e7 : vs 7 = .slice A5 L5.length c5 := hF 7 (by simp)
                  obtain ⟨A7, c7, e8, -⟩ := hF 8 (by simp)
                  have e9 : vs 9 = .bool true := hF 9 (by simp)
                  have e10 : vs 10 = .bool true := hF 10 (by simp)
                  have e11 : vs 11 = .bool true := hF 11 (by simp)
                  have e12 : vs 12 = .agg #[.bool b6, .slice A9 x6.length c9] := hF 12 (by simp)
                  have e13 : vs 13 = .int .u32 a := hF 13 (by simp)
                  have e14 : vs 14 = .bool true := hF 14 (by simp)
                  have e15 : vs 15 = .bool false := hF 15 (by simp)
                  have e16 : vs 16 = .bool false := hF 16 (by simp)
                  have e17 : vs 17 = .agg #[.int .i64 l, .int .u32 g, .bool o, .slice mA mn mc] := hF 17 (by simp)
                  have e18 : vs 18 = .int .u32 a := hF 18 (by simp)
                  have e19 : vs 19 = .bool true := hF 19 (by simp)
                  have e20 : vs 20 = .bool true := hF 20 (by simp)
                  have e21 : vs 21 = .bool true := hF 21 (by simp)
                  have e22 : vs 22 = .bool true := hF 22 (by simp)
                  have hL' : LE = #[true, true, true, true, true, true, true, true, true, true, true, true, true, true, true, true, true, true, true, true, true, true, true, false] := hL.trans (by kernel_rfl)
                  dsimp only [lay, List.foldl, dstOf] at ha
                  rw [e0, e1, e2, e3, e4, e5, e6, e7, e8, e9, e10, e11, e12, e13, e14, e15, e16, e17, e18, e19, e20, e21, e22] at ha
                  clear e0 e1 e2 e3 e4 e5 e6 e7 e8 e9 e10 e11 e12 e13 e14 e15 e16 e17 e18 e19 e20 e21 e22 hL hF hall
                  subst ha hL'
                  refine wpAnyH_ready (rs := [23]) (by kernel_rfl) (by simp) ?_
                  refine AllReadyH.cons rfl (fun Kq hK => ?_) AllReadyH.nil
                  go_simp
                  refine hK.out _ _ trivial (fun _ => ?_)
                  clear hK
                  refine wpAnyH_done (by kernel_rfl) ?_ _
                  go_wp2
                  go_ret
                  exact ⟨rfl, by rw [hN]; exact HBE.out.trans (hT.mono HZE.out)⟩
              | false =>
                refine wp_region_held_drew (S := fun _ => True) (by kernel_rfl) trivial (fun _ => ?_)
                refine wpAnyH_each (md := .any) (m := 1) (rem := [0, 1, 2, 3, 4, 5, 6, 7, 8, 9, 10, 11, 12, 13, 14, 15, 16, 17, 18, 19, 20, 21, 22]) (tail := [23]) (deps := fun i => match i with | 2 => [0, 1] | 4 => [2, 3] | 5 => [4] | 6 => [5] | 7 => [5] | 8 => [7, 5] | 9 => [6, 8, 5] | 10 => [5, 9] | 11 => [10] | 12 => [11] | 13 => [11] | 14 => [12, 13, 11] | 15 => [11] | 16 => [15, 11] | 17 => [16] | 18 => [16] | 19 => [17, 18, 16] | 20 => [16, 19, 11] | 21 => [14, 20, 11] | 22 => [11, 21] | _ => []) (fun _ W => Below W9.heap.size W9 W) (fun _ W _ W' => Below W.heap.size W W')
                  (fun ix ds v W => match ix with | 0 => v = .agg #[.bool b, .slice A8 xs.length c8] | 1 => v = .int .u32 a | 2 => v = .bool false | 3 => v = .bool false | 4 => v = .bool true | 5 => v = .bool true | 6 => v = .agg #[.bool b, .slice A8 xs.length c8] | 7 => v = .slice A5 L5.length c5 | 9 => v = .bool true | 10 => v = .bool true | 11 => v = .bool true | 12 => v = .agg #[.bool b6, .slice A9 x6.length c9] | 13 => v = .int .u32 a | 14 => v = .bool false | 15 => v = .bool false | 16 => v = .bool false | 17 => v = .agg #[.int .i64 l, .int .u32 g, .bool o, .slice mA mn mc] | 18 => v = .int .u32 a | 19 => v = .bool false | 20 => v = .bool false | 21 => v = .bool true | 22 => v = .bool true | 8 => ∃ A' c', v = .agg #[.bool b, .slice A' xs.length c'] ∧ AR W A' xs.length xs | _ => True) (eachB_spec (by kernel_rfl)) (fun _ _ _ _ w _ w' hT hK => hT.trans (hK.mono hT.size)) (fun _ _ _ => trivial) ?_ (fun _ _ _ _ => True) (fun _ _ _ _ _ _ _ _ _ _ _ _ _ _ => ⟨trivial, trivial⟩) ?_ ?_ (Below.refl _ _).drew
                · intro i hi j hj hij hjd ds v u lz W W' _ _ hk h
                  simp only [List.mem_cons, List.not_mem_nil, or_false] at hi
                  rcases hi with rfl | rfl | rfl | rfl | rfl | rfl | rfl | rfl | rfl | rfl | rfl | rfl | rfl | rfl | rfl | rfl | rfl | rfl | rfl | rfl | rfl | rfl | rfl
                  · exact h
                  · exact h
                  · exact h
                  · exact h
                  · exact h
                  · exact h
                  · exact h
                  · exact h
                  · obtain ⟨A', c', e, hr⟩ := h
                    exact ⟨A', c', e, hr.next hk⟩
                  · exact h
                  · exact h
                  · exact h
                  · exact h
                  · exact h
                  · exact h
                  · exact h
                  · exact h
                  · exact h
                  · exact h
                  · exact h
                  · exact h
                  · exact h
                  · exact h
                · refine AllO.cons [] rfl rfl (fun vs lq W hl hT hd => ?_) ?_
                  · obtain ⟨k0, k1⟩ := HC8.out W hT
                    dsimp only [lay, List.foldl, List.map, dstOf]
                    go_wp2
                    exact ⟨rfl, _, rfl, Below.refl _ _, rfl⟩
                  refine AllO.cons [] rfl rfl (fun vs lq W hl hT hd => ?_) ?_
                  · dsimp only [lay, List.foldl, List.map, dstOf]
                    go_wp2
                    exact ⟨rfl, _, rfl, Below.refl _ _, rfl⟩
                  refine AllO.cons [0, 1] rfl rfl (fun vs lq W hl hT hd => ?_) ?_
                  · have e0 : vs 0 = .agg #[.bool b, .slice A8 xs.length c8] := hd 0 (by simp)
                    have e1 : vs 1 = .int .u32 a := hd 1 (by simp)
                    dsimp only [lay, List.foldl, List.map, dstOf]
                    rw [e0, e1]
                    go_wp2_with (go_at_call 13; (with_reducible refine (HCL.out W hT).mono ?_); rintro e w6 ⟨rfl, hb6⟩)
                    exact ⟨rfl, _, rfl, hb6, rfl⟩
                  refine AllO.cons [] rfl rfl (fun vs lq W hl hT hd => ?_) ?_
                  · dsimp only [lay, List.foldl, List.map, dstOf]
                    go_wp2
                    exact ⟨rfl, _, rfl, Below.refl _ _, rfl⟩
                  refine AllO.cons [2, 3] rfl rfl (fun vs lq W hl hT hd => ?_) ?_
                  · have e2 : vs 2 = .bool false := hd 2 (by simp)
                    have e3 : vs 3 = .bool false := hd 3 (by simp)
                    dsimp only [lay, List.foldl, List.map, dstOf]
                    rw [e2, e3]
                    go_wp2
                    exact ⟨rfl, _, rfl, Below.refl _ _, rfl⟩
                  refine AllO.cons [4] rfl rfl (fun vs lq W hl hT hd => ?_) ?_
                  · have e4 : vs 4 = .bool true := hd 4 (by simp)
                    dsimp only [lay, List.foldl, List.map, dstOf]
                    rw [e4]
                    go_wp2
                    exact ⟨rfl, _, rfl, Below.refl _ _, rfl⟩
                  refine AllO.cons [5] rfl rfl (fun vs lq W hl hT hd => ?_) ?_
                  · have e5 : vs 5 = .bool true := hd 5 (by simp)
                    obtain ⟨k0, k1⟩ := HC8.out W hT
                    dsimp only [lay, List.foldl, List.map, dstOf]
                    rw [e5]
                    go_wp2
                    exact ⟨rfl, _, rfl, Below.refl _ _, rfl⟩
                  refine AllO.cons [5] rfl rfl (fun vs lq W hl hT hd => ?_) ?_
                  · have e5 : vs 5 = .bool true := hd 5 (by simp)
                    dsimp only [lay, List.foldl, List.map, dstOf]
                    rw [e5]
                    go_wp2
                    exact ⟨rfl, _, rfl, Below.refl _ _, rfl⟩
                  refine AllO.cons [7, 5] rfl rfl (fun vs lq W hl hT hd => ?_) ?_
                  · have e7 : vs 7 = .slice A5 L5.length c5 := hd 7 (by simp)
                    have e5 : vs 5 = .bool true := hd 5 (by simp)
                    dsimp only [lay, List.foldl, List.map, dstOf]
                    rw [e7, e5]
                    go_wp2_with (go_at_call 10; (with_reducible refine (HCO.out W hT).mono ?_); rintro e w6 ⟨A7, c7, rfl, har7, hb6⟩)
                    first | exact ⟨rfl, _, rfl, hb6, A7, c7, rfl, har7⟩ | exact ⟨rfl, _, rfl, hb6, A7, ⟨c7, rfl⟩, har7⟩
                  refine AllO.cons [6, 8, 5] rfl rfl (fun vs lq W hl hT hd => ?_) ?_
                  · have e6 : vs 6 = .agg #[.bool b, .slice A8 xs.length c8] := hd 6 (by simp)
                    obtain ⟨A7, c7, e8, har7⟩ := hd 8 (by simp)
                    have e5 : vs 5 = .bool true := hd 5 (by simp)
                    dsimp only [lay, List.foldl, List.map, dstOf]
                    rw [e6, e8, e5]
                    go_wp2_with (go_at_call 20; (with_reducible refine (HCS.out W A7 c7 hT har7).mono ?_); rintro e w6 ⟨rfl, hb6⟩)
                    exact ⟨rfl, _, rfl, hb6, rfl⟩
                  refine AllO.cons [5, 9] rfl rfl (fun vs lq W hl hT hd => ?_) ?_
                  · have e5 : vs 5 = .bool true := hd 5 (by simp)
                    have e9 : vs 9 = .bool true := hd 9 (by simp)
                    dsimp only [lay, List.foldl, List.map, dstOf]
                    rw [e5, e9]
                    go_wp2
                    exact ⟨rfl, _, rfl, Below.refl _ _, rfl⟩
                  refine AllO.cons [10] rfl rfl (fun vs lq W hl hT hd => ?_) ?_
                  · have e10 : vs 10 = .bool true := hd 10 (by simp)
                    dsimp only [lay, List.foldl, List.map, dstOf]
                    rw [e10]
                    go_wp2
                    exact ⟨rfl, _, rfl, Below.refl _ _, rfl⟩
                  refine AllO.cons [11] rfl rfl (fun vs lq W hl hT hd => ?_) ?_
                  · have e11 : vs 11 = .bool true := hd 11 (by simp)
                    obtain ⟨k0, k1⟩ := HC9.out W hT
                    dsimp only [lay, List.foldl, List.map, dstOf]
                    rw [e11]
                    go_wp2
                    exact ⟨rfl, _, rfl, Below.refl _ _, rfl⟩
                  refine AllO.cons [11] rfl rfl (fun vs lq W hl hT hd => ?_) ?_
                  · have e11 : vs 11 = .bool true := hd 11 (by simp)
                    dsimp only [lay, List.foldl, List.map, dstOf]
                    rw [e11]
                    go_wp2
                    exact ⟨rfl, _, rfl, Below.refl _ _, rfl⟩
                  refine AllO.cons [12, 13, 11] rfl rfl (fun vs lq W hl hT hd => ?_) ?_
                  · have e12 : vs 12 = .agg #[.bool b6, .slice A9 x6.length c9] := hd 12 (by simp)
                    have e13 : vs 13 = .int .u32 a := hd 13 (by simp)
                    have e11 : vs 11 = .bool true := hd 11 (by simp)
                    dsimp only [lay, List.foldl, List.map, dstOf]
                    rw [e12, e13, e11]
                    go_wp2_with (go_at_call 13; (with_reducible refine (HCM.out W hT).mono ?_); rintro e w6 ⟨rfl, hb6⟩)
                    exact ⟨rfl, _, rfl, hb6, rfl⟩
                  refine AllO.cons [11] rfl rfl (fun vs lq W hl hT hd => ?_) ?_
                  · have e11 : vs 11 = .bool true := hd 11 (by simp)
                    dsimp only [lay, List.foldl, List.map, dstOf]
                    rw [e11]
                    go_wp2
                    exact ⟨rfl, _, rfl, Below.refl _ _, rfl⟩
                  refine AllO.cons [15, 11] rfl rfl (fun vs lq W hl hT hd => ?_) ?_
                  · have e15 : vs 15 = .bool false := hd 15 (by simp)
                    have e11 : vs 11 = .bool true := hd 11 (by simp)
                    dsimp only [lay, List.foldl, List.map, dstOf]
                    rw [e15, e11]
                    go_wp2
                    exact ⟨rfl, _, rfl, Below.refl _ _, rfl⟩
                  refine AllO.cons [16] rfl rfl (fun vs lq W hl hT hd => ?_) ?_
                  · have e16 : vs 16 = .bool false := hd 16 (by simp)
                    obtain ⟨k0, k1, k2, k3⟩ := HCN.out W hT
                    dsimp only [lay, List.foldl, List.map, dstOf]
                    rw [e16]
                    go_wp2
                    exact ⟨rfl, _, rfl, Below.refl _ _, rfl⟩
                  refine AllO.cons [16] rfl rfl (fun vs lq W hl hT hd => ?_) ?_
                  · have e16 : vs 16 = .bool false := hd 16 (by simp)
                    dsimp only [lay, List.foldl, List.map, dstOf]
                    rw [e16]
                    go_wp2
                    exact ⟨rfl, _, rfl, Below.refl _ _, rfl⟩
                  refine AllO.cons [17, 18, 16] rfl rfl (fun vs lq W hl hT hd => ?_) ?_
                  · have e17 : vs 17 = .agg #[.int .i64 l, .int .u32 g, .bool o, .slice mA mn mc] := hd 17 (by simp)
                    have e18 : vs 18 = .int .u32 a := hd 18 (by simp)
                    have e16 : vs 16 = .bool false := hd 16 (by simp)
                    dsimp only [lay, List.foldl, List.map, dstOf]
                    rw [e17, e18, e16]
                    go_wp2_with (go_at_call 15; (with_reducible refine (HCA.out W hT).mono ?_); rintro e w6 ⟨rfl, hb6⟩)
                    exact ⟨rfl, _, rfl, hb6, rfl⟩
                  refine AllO.cons [16, 19, 11] rfl rfl (fun vs lq W hl hT hd => ?_) ?_
                  · have e16 : vs 16 = .bool false := hd 16 (by simp)
                    have e19 : vs 19 = .bool false := hd 19 (by simp)
                    have e11 : vs 11 = .bool true := hd 11 (by simp)
                    dsimp only [lay, List.foldl, List.map, dstOf]
                    rw [e16, e19, e11]
                    go_wp2
                    exact ⟨rfl, _, rfl, Below.refl _ _, rfl⟩
                  refine AllO.cons [14, 20, 11] rfl rfl (fun vs lq W hl hT hd => ?_) ?_
                  · have e14 : vs 14 = .bool false := hd 14 (by simp)
                    have e20 : vs 20 = .bool false := hd 20 (by simp)
                    have e11 : vs 11 = .bool true := hd 11 (by simp)
                    dsimp only [lay, List.foldl, List.map, dstOf]
                    rw [e14, e20, e11]
                    go_wp2
                    exact ⟨rfl, _, rfl, Below.refl _ _, rfl⟩
                  refine AllO.cons [11, 21] rfl rfl (fun vs lq W hl hT hd => ?_) AllO.nil
                  · have e11 : vs 11 = .bool true := hd 11 (by simp)
                    have e21 : vs 21 = .bool true := hd 21 (by simp)
                    dsimp only [lay, List.foldl, List.map, dstOf]
                    rw [e11, e21]
                    go_wp2
                    exact ⟨rfl, _, rfl, Below.refl _ _, rfl⟩
                · intro vs lq W hall hT hF _ aE LE ha hL
                  have e0 : vs 0 = .agg #[.bool b, .slice A8 xs.length c8] := hF 0 (by simp)
                  have e1 : vs 1 = .int .u32 a := hF 1 (by simp)
                  have e2 : vs 2 = .bool false := hF 2 (by simp)
                  have e3 : vs 3 = .bool false := hF 3 (by simp)
                  have e4 : vs 4 = .bool true := hF 4 (by simp)
                  have e5 : vs 5 = .bool true := hF 5 (by simp)
                  have e6 : vs 6 = .agg #[.bool b, .slice A8 xs.length c8] := hF 6 (by simp)
                  have e7 : vs 7 = .slice A5 L5.length c5 := hF 7 (by simp)
                  obtain ⟨A7, c7, e8, -⟩ := hF 8 (by simp)
                  have e9 : vs 9 = .bool true := hF 9 (by simp)
                  have e10 : vs 10 = .bool true := hF 10 (by simp)
                  have e11 : vs 11 = .bool true := hF 11 (by simp)
                  have e12 : vs 12 = .agg #[.bool b6, .slice A9 x6.length c9] := hF 12 (by simp)
                  have e13 : vs 13 = .int .u32 a := hF 13 (by simp)
                  have e14 : vs 14 = .bool false := hF 14 (by simp)
                  have e15 : vs 15 = .bool false := hF 15 (by simp)
                  have e16 : vs 16 = .bool false := hF 16 (by simp)
                  have e17 : vs 17 = .agg #[.int .i64 l, .int .u32 g, .bool o, .slice mA mn mc] := hF 17 (by simp)
                  have e18 : vs 18 = .int .u32 a := hF 18 (by simp)
                  have e19 : vs 19 = .bool false := hF 19 (by simp)
                  have e20 : vs 20 = .bool false := hF 20 (by simp)
                  have e21 : vs 21 = .bool true := hF 21 (by simp)
                  have e22 : vs 22 = .bool true := hF 22 (by simp)
                  have hL' : LE = #[true, true, true, true, true, true, true, true, true, true, true, true, true, true, true, true, true, true, true, true, true, true, true, false] := hL.trans (by kernel_rfl)
                  dsimp only [lay, List.foldl, dstOf] at ha
                  rw [e0, e1, e2, e3, e4, e5, e6, e7, e8, e9, e10, e11, e12, e13, e14, e15, e16, e17, e18, e19, e20, e21, e22] at ha
                  clear e0 e1 e2 e3 e4 e5 e6 e7 e8 e9 e10 e11 e12 e13 e14 e15 e16 e17 e18 e19 e20 e21 e22 hL hF hall
                  subst ha hL'
                  refine wpAnyH_ready (rs := [23]) (by kernel_rfl) (by simp) ?_
                  refine AllReadyH.cons rfl (fun Kq hK => ?_) AllReadyH.nil
                  go_simp
                  refine hK.out _ _ trivial (fun _ => ?_)
                  clear hK
                  refine wpAnyH_done (by kernel_rfl) ?_ _
                  go_wp2
                  go_ret
                  exact ⟨rfl, by rw [hN]; exact HBE.out.trans (hT.mono HZE.out)⟩
end Go.Proofs.Ytfiiichiflglaaa

