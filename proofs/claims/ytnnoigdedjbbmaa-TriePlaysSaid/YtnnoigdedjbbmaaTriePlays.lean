/- The statement on whatever is put and asked, walked. -/
import Derived.Test.YtnnoigdedjbbmaaTv
import Derived.Test.YtnnoigdedjbbmaaQb
namespace Go.Proofs.Ytnnoigdedjbbmaa
open Go.RowKit
/-- append in a region that draws, with where it lies -/
theorem step_app_at {P : Program} (w : World) {ops : Array Oper} {o : Oper} {a : Act} {K : Act → World → Prop} {Q : Exit → Act → World → Prop} {E : Prop} (hgd : o.guard = none) (s x : Operand) (t : TypeId)
    (ho : o.op = .call { callee := .builtin .append, args := #[s, x], argTypes := #[t, t] })
    (base : Nat) (e : TypeId) (i : TypeInfo) (z : Value) (size bytes : Nat) (ht : P.underlying t = some (.slice e)) (hi : P.info? e = some i) (hz : i.zero = some z)
    (hsize : i.size = size) (hby : i.bytes = bytes) (hzs : z.cells.size = size) (hsz : 0 < size)
    (v : Value) (n : Nat) (xs : List Value) (hs : a.eval s = v) (hown : w.ownsRow base e size v n xs)
    (ad : Addr) (m c : Nat) (news : List Value) (hx : a.eval x = .slice (some ad) m c) (hl : news.length = m * size) (hnews : ∀ j u, news[j]? = some u → w.cell? (ad.add j) = some u) (h1 : ∀ u ∈ news, u.oneCell' = true)
    (h63 : n + m ≤ maxLen) (hbytes : (n + m) * bytes ≤ 140737488355328) (hbase : base ≤ w.heap.size)
    (h : ∀ v' w', w'.ownsRow base e size v' (n + m) (xs ++ news) → w.grownBy w' v.ownBlock → (v'.ownBlock = v.ownBlock ∨ v'.ownBlock = some w.heap.size) → K (a.put o.dst v') w') :
    if Region.wanted o (yielded ops a.tmps) = true then Oper.wp P o a w K Q else E := by
  rw [if_pos (by simp [Region.wanted, hgd])]
  obtain ⟨v', w', hr, h2, h3, _, h5⟩ := run_append_own_at (P := P) w base t o.type e i z size bytes ht hi hz hsize hby hzs hsz v n xs hown ad m c news hl hnews h1 h63 hbytes hbase
  have hk := h v' w' h2 h3 h5
  simp only [Oper.wp, execOp, ho, resolve, invoke, builtin, Sem.run_bind, Sem.run_pure, Result.andThen_ok, List.map_toArray, List.map_cons, List.map_nil, hs, hx, hr]
  exact hk
theorem below_da (w : World) (o : Obj) : Below w.heap.size w (w.alloc o).drew := ((Below.refl _ _).alloc (Nat.le_refl _) o).drew
theorem info_ints : (Try.prog.info? 39).map (fun i => (i.zero, i.size, i.bytes)) = some (some (.slice none 0 0), 1, 24) := by kernel_rfl
/-- what the first loop keeps -/
def PL (B : Nat) (xs : List Do) (N k : Nat) (va vh : Value) (wr : World) : Prop :=
  ∃ F us, PS B wr N (Tr.fold (xs.take k)) ((Tr.fold (xs.take k)).map (·.1)) ((Tr.fold (xs.take k)).map (·.2)) va vh F us
/-- what a list of statements leaves behind so many of them -/
def seqTail : Nat → Code → Code
  | 0, c => c
  | n + 1, .seq _ d => seqTail n d
  | _ + 1, c => c
set_option maxRecDepth 100000 in
set_option maxHeartbeats 4000000 in
theorem plays_rest (A : Option Addr) (n c : Nat) (A2 : Option Addr) (n2 c2 : Nat) (qs : List Int) (p1 p2 : Int) (w w0 v1 : World) (N : Nat) (L : Tr.Row) (Aa : Option Addr) (ca : Nat) (Ah : Option Addr) (ch : Nat) (v3 v4 v6 v11 v12 v13 v14 v15 v16 v17 v18 v19 v20 v21 v22 v23 v24 v25 v26 v27 v28 v29 v30 v31 v32 v33 v34 v35 v36 v37 v38 v39 v40 v41 v42 v43 v44 v45 v46 v47 v48 v49 v50 v51 v52 v53 v54 v55 v56 v57 v58 v59 v60 v61 v62 v63 v64 v65 v66 v67 v68 v69 v70 v71 v72 v73 v74 v75 v76 v77 v78 v79 v80 v81 v82 v83 v84 v85 v86 v87 v88 v89 v90 v91 v92 v93 v94 v95 v96 v97 v98 v99 v100 v101 v102 v103 v104 v105 v106 v107 v108 v109 v110 v111 v112 v113 v114 v115 v116 v117 v118 v119 v120 v121 v122 v123 v124 v125 v126 v127 v128 v129 v130 v131 v132 v133 v134 v135 v136 v137 v138 v139 v140 v141 v142 v143 v144 v145 v146 v147 v148 v149 v150 v151 v152 v153 v154 v155 v156 v157 v158 v159 v160 v161 v162 v163 v164 v165 v166 v167 v168 v169 v170 v171 v172 v173 v174 v175 v176 v177 v178 v179 v180 v181 v182 v183 v184 v185 v186 v187 v188 v189 v190 v191 v192 v193 v194 v195 v196 v197 v198 v199 v200 v201 v202 v203 v204 v205 v206 v207 v208 v209 v210 v211 v212 v213 v214 v215 v216 v217 v218 v219 v220 v221 v222 v223 v224 v225 v226 v227 v228 v229 v230 v231 v232 v233 v234 v235 v236 v237 v238 v239 v240 v241 v242 v243 v244 v245 v246 v247 v248 v249 v250 v251 v252 v253 v254 v255 v256 v257 v258 v259 v260 v261 v262 v263 v264 v265 v266 v267 v268 v269 v270 v271 v272 v273 v274 v275 v276 v277 : Value)
    (HR20 : Hid (∀ W, Below w0.heap.size w0 W → RI (fun x : Int => [Value.int .u32 x]) 1 W A2 n2 qs)) (HW2 : Hid (∀ x ∈ qs, 0 ≤ x ∧ x ≤ 4294967295)) (hp : wfP (p1, p2)) (hn2 : n2 ≤ 20) (HB : Hid (Below w.heap.size w w0)) (HAP : Hid (Tr.Apart L))
    (HS : Hid (L.length ≤ 1000000 ∧ ∀ p, ((Tr.get L p).getD []).length ≤ 1000000)) (HWK : Hid (∀ q ∈ L.map (·.1), wfP q)) (HZ : Hid (FZ w0.heap.size v1 N L (.slice Aa L.length ca) (.slice Ah L.length ch) Aa ca Ah ch)) (HBB : Hid (Below w0.heap.size w0 v1))
    (HKV : Hid (Blk v1 w.heap.size 27 #[.int .u32 p1, .int .i64 p2])) :
    (seqTail 8 (Try.f3.body.getD .skip)).wp Try.prog (bodyPost Try.prog Try.f3 (fun e w' => e = .returned (.bool true) ∧ Below w.heap.size w w')) { tmps := #[.slice A n c, .slice A2 n2 c2, .agg #[.int .u32 p1, .int .i64 p2], v3, v4, .pointer (some ⟨w.heap.size, 0, none⟩), v6, .bool true, .pointer (some ⟨N, 0, none⟩), .slice Aa L.length ca, .slice Ah L.length ch, v11, v12, v13, v14, v15, v16, v17, v18, v19, v20, v21, v22, v23, v24, v25, v26, v27, v28, v29, v30, v31, v32, v33, v34, v35, v36, v37, v38, v39, v40, v41, v42, v43, v44, v45, v46, v47, v48, v49, v50, v51, v52, v53, v54, v55, v56, v57, v58, v59, v60, v61, v62, v63, v64, v65, v66, v67, v68, v69, v70, v71, v72, v73, v74, v75, v76, v77, v78, v79, v80, v81, v82, v83, v84, v85, v86, v87, v88, v89, v90, v91, v92, v93, v94, v95, v96, v97, v98, v99, v100, v101, v102, v103, v104, v105, v106, v107, v108, v109, v110, v111, v112, v113, v114, v115, v116, v117, v118, v119, v120, v121, v122, v123, v124, v125, v126, v127, v128, v129, v130, v131, v132, v133, v134, v135, v136, v137, v138, v139, v140, v141, v142, v143, v144, v145, v146, v147, v148, v149, v150, v151, v152, v153, v154, v155, v156, v157, v158, v159, v160, v161, v162, v163, v164, v165, v166, v167, v168, v169, v170, v171, v172, v173, v174, v175, v176, v177, v178, v179, v180, v181, v182, v183, v184, v185, v186, v187, v188, v189, v190, v191, v192, v193, v194, v195, v196, v197, v198, v199, v200, v201, v202, v203, v204, v205, v206, v207, v208, v209, v210, v211, v212, v213, v214, v215, v216, v217, v218, v219, v220, v221, v222, v223, v224, v225, v226, v227, v228, v229, v230, v231, v232, v233, v234, v235, v236, v237, v238, v239, v240, v241, v242, v243, v244, v245, v246, v247, v248, v249, v250, v251, v252, v253, v254, v255, v256, v257, v258, v259, v260, v261, v262, v263, v264, v265, v266, v267, v268, v269, v270, v271, v272, v273, v274, v275, v276, v277], defers := [] } v1 := by
  have hLb := HS.out.1
  simp only [Try.f3, Option.getD_some, seqTail]
  go_wp2_with fail
  go_loopw [14] (fun i wr => ∃ k : Nat, k ≤ n2 ∧ i = .int .i64 k ∧ Below v1.heap.size v1 wr) (fun i _ => n2 - (intOf i).toNat)
  case atStart => exact ⟨0, Nat.zero_le _, rfl, Below.refl _ _⟩
  case round =>
    obtain ⟨j, hj, rfl, hbj⟩ := hrel
    rcases Nat.lt_or_ge j n2 with hlt | hge
    · obtain ⟨b2, o2, a, hA2, hbl2, hx2, hc2⟩ := (HR20.out w0 (Below.refl _ _)).at_ hlt
      subst hA2
      have k0 : ∀ W, Below v1.heap.size v1 W → W.cell? ⟨b2, o2 + j, none⟩ = some (.int .u32 a) := fun W hW => by
        have hl := ((HBB.out.trans (hW.mono HBB.out.size)).cell (p := ⟨b2, o2 + j * 1 + 0, none⟩) hbl2).trans (hc2 0 _ rfl)
        simpa using hl
      have ha := HW2.out a (List.mem_of_getElem? hx2)
      have HBJ := Lib.hid hbj
      have K0 := Lib.hid k0
      have hj0 : (j : Int) < n2 := by omega
      clear hx2 hc2 hbl2 hbj k0
      obtain ⟨v2, hv2⟩ : ∃ v, v = wr := ⟨_, rfl⟩
      subst hv2
      go_wp2_with fail
      go_loopw [15, 16] (fun best i wr => ∃ (m : Nat) (bst : Int), m ≤ L.length ∧ i = .int .i64 m ∧ best = .int .i64 bst ∧ Tr.Best (L.map (·.1)) a m bst ∧ Below v2.heap.size v2 wr) (fun _ i _ => L.length - (intOf i).toNat)
      case atStart => exact ⟨0, -1, Nat.zero_le _, rfl, rfl, Tr.best_nil _ _, Below.refl _ _⟩
      case round =>
        obtain ⟨m, bst, hm, rfl, rfl, hbest, hbm⟩ := hrel
        have hbw := HBJ.out.trans (hbm.mono HBJ.out.size)
        rcases Nat.lt_or_ge m L.length with hml | hmg
        · obtain ⟨b3, o3, ⟨x, y⟩, hA3, hbl3, hx3, hc3⟩ := (HZ.out.at_ wr hbw).at_ hml
          subst hA3
          have hwq := HWK.out _ (List.mem_of_getElem? hx3)
          have WQ := Lib.hid hwq
          have WA := Lib.hid ha
          have c0 : ∀ W, Below wr.heap.size wr W → W.cell? ⟨b3, o3 + m * 2, none⟩ = some (.int .u32 x) := fun W hW => (hW.cell (p := ⟨b3, o3 + m * 2, none⟩) hbl3).trans (hc3 0 _ rfl)
          have c1 : ∀ W, Below wr.heap.size wr W → W.cell? ⟨b3, o3 + m * 2 + 1, none⟩ = some (.int .i64 y) := fun W hW => (hW.cell (p := ⟨b3, o3 + m * 2 + 1, none⟩) hbl3).trans (hc3 1 _ rfl)
          have d0 : ∀ W, Below wr.heap.size wr W → W.cell? ⟨b2, o2 + j, none⟩ = some (.int .u32 a) := fun W hW => K0.out W (hbw.trans (hW.mono hbw.size))
          replace c0 := Snc.all c0
          replace c1 := Snc.all c1
          replace d0 := Snc.all d0
          have hm0 : (m : Int) < (L.length : Int) := by omega
          have HX3 := Lib.hid hx3
          have HBM := Lib.hid hbm
          cases hin : Ad.isIn x y a with
          | false =>
            have HIN := Lib.hid hin
            have RIN : ∀ W, Calls Try.prog 10 #[.agg #[.int .u32 x, .int .i64 y], .int .u32 a] W fun e w' => e = .returned (.bool false) ∧ Below W.heap.size W w' := fun W => by
              have := rin_any x y a W WQ.out.1.1 WQ.out.1.2 WA.out.1 WA.out.2
              rw [HIN.out] at this
              exact this
            have HBE : Hid (Tr.Best (L.map (·.1)) a (m + 1) bst) := Lib.hid (Tr.best_skip hbest hx3 hin)
            clear hin
            clear hx3 hc3 hbm hbw hwq hbest
            go_wp2_with fail
            refine wp_region_since (by kernel_rfl) (by kernel_rfl) ?_
            repeat (go_big_quiet_step ((go_at_call 10; exact Calls.since (RIN _))))
            refine wpQuiet_nil ?_
            rintro w5 ⟨⟨w6, hb6⟩, rfl⟩
            have hB6 := HBM.out.trans (hb6.mono HBM.out.size)
            clear hb6 c0 c1 d0 RIN
            go_wp2
            go_roundw
            case rel => exact ⟨m + 1, bst, by omega, by go_num, rfl, HBE.out, hB6⟩
            case measure => simp [intOf]; omega
          | true =>
            have HIN := Lib.hid hin
            have RIN : ∀ W, Calls Try.prog 10 #[.agg #[.int .u32 x, .int .i64 y], .int .u32 a] W fun e w' => e = .returned (.bool true) ∧ Below W.heap.size W w' := fun W => by
              have := rin_any x y a W WQ.out.1.1 WQ.out.1.2 WA.out.1 WA.out.2
              rw [HIN.out] at this
              exact this
            rcases hbest with ⟨rfl, hno⟩ | ⟨bq, q, rfl, hbq, hqq, hqi, hmax⟩
            · have HBE : Hid (Tr.Best (L.map (·.1)) a (m + 1) (m : Int)) := Lib.hid (Tr.best_first hno hx3 hin)
              clear hin hno
              clear hx3 hc3 hbm hbw hwq
              go_wp2_with fail
              refine wp_region_since (by kernel_rfl) (by kernel_rfl) ?_
              repeat (go_big_quiet_step ((go_at_call 10; exact Calls.since (RIN _))))
              refine wpQuiet_nil ?_
              rintro w5 ⟨⟨w6, hb6⟩, rfl⟩
              have hB6 := HBM.out.trans (hb6.mono HBM.out.size)
              clear hb6 c0 c1 d0 RIN
              go_wp2
              go_roundw
              case rel => exact ⟨m + 1, _, by omega, by go_num, rfl, HBE.out, hB6⟩
              case measure => simp [intOf]; omega
            · obtain ⟨b4, o4, ⟨xq, yq⟩, hA4, hbl4, hx4, hc4⟩ := (HZ.out.at_ wr hbw).at_ (show bq < L.length by omega)
              obtain ⟨rfl, rfl⟩ : b3 = b4 ∧ o3 = o4 := by cases hA4; exact ⟨rfl, rfl⟩
              obtain rfl : q = (xq, yq) := by rw [hx4] at hqq; cases hqq; rfl
              have e1 : ∀ W, Below wr.heap.size wr W → W.cell? ⟨b3, o3 + bq * 2 + 1, none⟩ = some (.int .i64 yq) := fun W hW => (hW.cell (p := ⟨b3, o3 + bq * 2 + 1, none⟩) hbl4).trans (hc4 1 _ rfl)
              replace e1 := Snc.all e1
              have hq0 : (bq : Int) < (L.length : Int) := by omega
              have hq1 : decide ((bq : Int) < 0) = false := by simp
              have hq2 : ¬ (bq : Int) < 0 := by omega
              by_cases hgt : yq < y
              · have HBE : Hid (Tr.Best (L.map (·.1)) a (m + 1) (m : Int)) := Lib.hid (Tr.best_better hmax hx3 hin hgt)
                have hgd : decide (yq < y) = true := by simpa using hgt
                clear hin hmax hx4 hc4 hqi hqq hA4
                clear hx3 hc3 hbm hbw hwq
                go_wp2_with fail
                refine wp_region_since (by kernel_rfl) (by kernel_rfl) ?_
                repeat (go_big_quiet_step ((go_at_call 10; exact Calls.since (RIN _))))
                refine wpQuiet_nil ?_
                rintro w5 ⟨⟨w6, hb6⟩, rfl⟩
                have hB6 := HBM.out.trans (hb6.mono HBM.out.size)
                clear hb6 c0 c1 d0 RIN
                go_wp2
                go_roundw
                case rel => exact ⟨m + 1, _, by omega, by go_num, rfl, HBE.out, hB6⟩
                case measure => simp [intOf]; omega
              · have HBE : Hid (Tr.Best (L.map (·.1)) a (m + 1) (bq : Int)) := Lib.hid (Tr.best_worse hmax hx3 hbq hqq hqi hgt)
                have hgd : decide (yq < y) = false := by simpa using hgt
                clear hin hmax hx4 hc4 hqi hqq hA4
                clear hx3 hc3 hbm hbw hwq
                go_wp2_with fail
                refine wp_region_since (by kernel_rfl) (by kernel_rfl) ?_
                repeat (go_big_quiet_step ((go_at_call 10; exact Calls.since (RIN _))))
                refine wpQuiet_nil ?_
                rintro w5 ⟨⟨w6, hb6⟩, rfl⟩
                have hB6 := HBM.out.trans (hb6.mono HBM.out.size)
                clear hb6 c0 c1 d0 RIN
                go_wp2
                go_roundw
                case rel => exact ⟨m + 1, _, by omega, by go_num, rfl, HBE.out, hB6⟩
                case measure => simp [intOf]; omega
        · obtain rfl : m = L.length := by omega
          have hlk := Tr.best_look HAP.out hbest
          have hd4 : decide ((L.length : Int) < (L.length : Int)) = false := by simp
          have d0 := K0.out wr hbw
          have HA := Lib.hid ha
          have HBW := Lib.hid hbw
          have hOT := HZ.out.ot wr hbw
          clear hbest hbm hbw
          go_wp2_with fail
          refine (ot_look wr a hOT HA.out.1 HA.out.2 HS.out.2).mono ?_
          intro e w3 hp
          obtain ⟨hb3, A1, c1, rfl, hJ3⟩ := look_uni hp
          clear hp
          have hsz3 := hb3.alloc hb3.size (.cells #[.int .u32 (lkP L a).1, .int .i64 (lkP L a).2] 27)
          have hB4 := HBW.out.trans (hsz3.mono HBW.out.size)
          have hJ4 := hJ3.next ((Below.refl _ _).alloc (Nat.le_refl _) (.cells #[.int .u32 (lkP L a).1, .int .i64 (lkP L a).2] 27))
          have hK4 : Blk (w3.alloc (.cells #[.int .u32 (lkP L a).1, .int .i64 (lkP L a).2] 27)) w3.heap.size 27 #[.int .u32 (lkP L a).1, .int .i64 (lkP L a).2] := Blk.new _ _ _
          have HB4 := Lib.hid hB4
          have HJ4 := Lib.hid hJ4
          have HK4 := Lib.hid hK4
          clear hOT hb3 hJ3 hsz3 hB4 hJ4 hK4 d0
          rcases hlk with ⟨rfl, hl⟩ | ⟨bq, jq, ys, rfl, hLb2, hl⟩
          · have HL0 : Hid ((Tr.look L a).isSome = false) := Lib.hid (by rw [hl]; rfl)
            clear hl
            rw [HL0.out]
            go_wp2_with fail
            generalize w3.alloc (.cells #[.int .u32 (lkP L a).1, .int .i64 (lkP L a).2] 27) = w4 at *
            refine wp_region_since (by kernel_rfl) (by kernel_rfl) ?_
            repeat (go_big_quiet_step (fail))
            refine wpQuiet_nil ?_
            rintro w5 ⟨⟨w6, hb6⟩, rfl⟩
            have hB6 := HB4.out.trans (hb6.mono HB4.out.size)
            clear hb6
            go_wp2
            go_roundw
            case rel => exact ⟨j + 1, by omega, by go_num, hB6⟩
            case measure => simp [intOf]; omega
          · obtain ⟨g5, A5, c5, hAh, hH5⟩ := HZ.out.have_ bq _ ys hLb2
            subst hAh
            have hlt5 : bq < L.length := (List.getElem?_eq_some_iff.1 hLb2).1
            have HP : Hid (lkP L a = (Tr.ar a jq, (jq : Int))) := Lib.hid (by unfold lkP; rw [hl])
            have HX : Hid (lkX L a = ys) := Lib.hid (by unfold lkX; rw [hl])
            have HL0 : Hid ((Tr.look L a).isSome = true) := Lib.hid (by rw [hl]; rfl)
            have hxs : (lkX L a).length ≤ 1000000 := lkX_short HS.out.2 a
            rw [HX.out] at hxs
            rw [HX.out] at HJ4
            rw [HP.out] at HB4 HJ4 HK4
            clear hl
            rw [HL0.out, HX.out, HP.out]
            go_wp2_with fail
            generalize w3.alloc (.cells #[.int .u32 (Tr.ar a jq), .int .i64 (jq : Int)] 27) = w4 at *
            obtain ⟨b7, o7, q7, hA7, hbl7, hx7, hc7⟩ := (HZ.out.at_ w4 HB4.out).at_ hlt5
            subst hA7
            obtain rfl : q7 = (Tr.ar a jq, (jq : Int)) := by rw [List.getElem?_map, hLb2] at hx7; simpa using hx7.symm
            have c0 : ∀ p : Snc w4, p.W.cell? ⟨b7, o7 + bq * 2, none⟩ = some (.int .u32 (Tr.ar a jq)) := fun p => (p.b.cell (p := ⟨b7, o7 + bq * 2, none⟩) hbl7).trans (hc7 0 _ rfl)
            have c1' : ∀ p : Snc w4, p.W.cell? ⟨b7, o7 + bq * 2 + 1, none⟩ = some (.int .i64 (jq : Int)) := fun p => (p.b.cell (p := ⟨b7, o7 + bq * 2 + 1, none⟩) hbl7).trans (hc7 1 _ rfl)
            have d0 : ∀ p : Snc w4, p.W.cell? ⟨w3.heap.size, 0, none⟩ = some (.int .u32 (Tr.ar a jq)) := fun p => by simpa using (HK4.out.next p.b).cell 0
            have d1 : ∀ p : Snc w4, p.W.cell? ⟨w3.heap.size, 1, none⟩ = some (.int .i64 (jq : Int)) := fun p => by simpa using (HK4.out.next p.b).cell 1
            have e0 : ∀ p : Snc w4, p.W.cell? ⟨g5, bq, none⟩ = some (.slice A5 ys.length c5) := fun p => (hH5 p.W (HB4.out.trans (p.b.mono HB4.out.size))).1
            have RS : ∀ W, Calls Try.prog 12 #[.agg #[.int .u32 (Tr.ar a jq), .int .i64 (jq : Int)], .agg #[.int .u32 (Tr.ar a jq), .int .i64 (jq : Int)]] W fun e w' => e = .returned (.bool true) ∧ Below W.heap.size W w' := fun W => by
              have := same_any (Tr.ar a jq) jq (Tr.ar a jq) jq W
              simpa using this
            have RJ : ∀ p : Snc w4, Calls Try.prog 13 #[.slice A1 ys.length c1, .slice A5 ys.length c5] p.W fun e w' => e = .returned (.bool true) ∧ Below p.W.heap.size p.W w' := fun p => by
              have := jsame_any A1 A5 _ _ c1 c5 ys ys p.W (HJ4.out.next p.b) (hH5 p.W (HB4.out.trans (p.b.mono HB4.out.size))).2 (by omega) (by omega)
              simpa using this
            have hq0 : (0 : Int) ≤ (bq : Int) := by omega
            have hq1 : (bq : Int) < (L.length : Int) := by omega
            clear hc7 hx7 hbl7 hH5 hLb2
            refine wp_region_since (by kernel_rfl) (by kernel_rfl) ?_
            repeat (go_big_quiet_step (first | (go_at_call 12; exact Calls.since (RS _)) | (go_at_call 13; exact Calls.since (RJ _))))
            refine wpQuiet_nil ?_
            rintro w5 ⟨⟨w6, hb6⟩, rfl⟩
            have hB6 := HB4.out.trans (hb6.mono HB4.out.size)
            clear hb6 c0 c1' d0 d1 e0 RS RJ
            go_wp2
            go_roundw
            case rel => exact ⟨j + 1, by omega, by go_num, hB6⟩
            case measure => simp [intOf]; omega
    · obtain rfl : j = n2 := by omega
      have hd5 : decide ((j : Int) < (j : Int)) = false := by simp
      have hK := HKV.out.next hbj
      have p0 : wr.cell? ⟨w.heap.size, 0, none⟩ = some (.int .u32 p1) := by simpa using hK.cell 0
      have p1' : wr.cell? ⟨w.heap.size, 1, none⟩ = some (.int .i64 p2) := by simpa using hK.cell 1
      have hRA := HZ.out.at_ wr hbj
      have HKJ := Lib.hid hK
      have HBJ := Lib.hid hbj
      clear hK hbj
      go_wp2_with fail
      refine (find_any Aa _ ca _ p1 p2 wr hRA (by omega)).mono ?_
      rintro e w3 ⟨hf, hb3⟩
      have hK3 := HKJ.out.next hb3
      have hB3 := HBJ.out.trans (hb3.mono HBJ.out.size)
      have q0 : w3.cell? ⟨w.heap.size, 0, none⟩ = some (.int .u32 p1) := by simpa using hK3.cell 0
      have q1 : w3.cell? ⟨w.heap.size, 1, none⟩ = some (.int .i64 p2) := by simpa using hK3.cell 1
      have HB3 := Lib.hid hB3
      have hO3 := HZ.out.ot w3 hB3
      clear p0 p1' hRA hb3 hK3 hB3
      have hkey : ∃ (kx : Int) (zs : List Int) (is : Bool), e = .returned (.int .i64 kx) ∧ (Tr.get L (p1, p2)).getD [] = zs ∧ (Tr.get L (p1, p2)).isSome = is ∧ ((kx = -1 ∧ is = false) ∨ ∃ i : Nat, kx = (i : Int) ∧ is = true ∧ L[i]? = some ((p1, p2), zs)) := by
        rcases hf with ⟨rfl, hno⟩ | ⟨i, rfl, hy⟩
        · have hg : Tr.get L (p1, p2) = none := Tr.get_none.2 fun x hx e => hno (List.mem_map.2 ⟨x, hx, e⟩)
          exact ⟨-1, _, _, rfl, rfl, rfl, .inl ⟨rfl, by rw [hg]; rfl⟩⟩
        · have hil : i < L.length := by have := (List.getElem?_eq_some_iff.1 hy).1; simpa using this
          obtain ⟨⟨q, ys⟩, hLi⟩ : ∃ x, L[i]? = some x := ⟨L[i], List.getElem?_eq_getElem hil⟩
          obtain rfl : q = (p1, p2) := by rw [List.getElem?_map, hLi] at hy; simpa using hy
          have hg := Tr.get_at HAP.out hLi
          exact ⟨i, _, _, rfl, rfl, rfl, .inr ⟨i, rfl, by rw [hg]; rfl, by rw [hg]; exact hLi⟩⟩
      obtain ⟨kx, zs, is, rfl, hzs, his, hcase⟩ := hkey
      have hzl : zs.length ≤ 1000000 := by rw [← hzs]; exact HS.out.2 _
      have P2 := ot_get w3 p1 p2 hO3 hp (by rw [hzs]; omega)
      rw [hzs, his] at P2
      clear hf hO3 hzs his
      go_wp2_with fail
      refine P2.mono ?_
      rintro e w4 ⟨vz, rfl, hown4, hb4⟩
      obtain ⟨A4, c4, rfl, hJ4⟩ := own_jr hown4
      have hB4 := HB3.out.trans (hb4.mono HB3.out.size)
      have HB4 := Lib.hid hB4
      have HJ4 := Lib.hid hJ4
      have hO4 := HZ.out.ot w4 hB4
      clear q0 q1 P2 hown4 hb4 hJ4 hB4
      go_wp2_with fail
      refine (ot_all w4 hO4 HS.out.1).mono ?_
      rintro e w5 ⟨A5, c5, ks, rfl, hR5, hT5, hb5⟩
      have hB5 := HB4.out.trans (hb5.mono HB4.out.size)
      have hJ5 := HJ4.out.next hb5
      have HB5 := Lib.hid hB5
      have HR5 := Lib.hid hR5
      have HT5 := Lib.hid hT5
      have hO5 := HZ.out.ot w5 hB5
      have hne : ((L.length : Int) != (L.length : Int)) = false := by simp
      clear hO4 hR5 hT5 hb5 hB5
      go_upto_region 36 with fail
      go_cut [218] from 190 (fun s218 wc => s218 = .bool false ∧ Below v1.heap.size v1 wc ∧ RI encPf 2 wc A5 L.length ks)
      case first =>
        rcases hcase with ⟨rfl, rfl⟩ | ⟨i, rfl, rfl, hLi⟩
        · go_wp2_with fail
          refine (ot_len w5 hO5).mono ?_
          rintro e w6 ⟨rfl, rfl⟩
          go_wp2_with fail
          go_meet
          case rel => exact ⟨rfl, HB5.out, HR5.out⟩
        · obtain ⟨g8, A8, c8, hAh, hH8⟩ := HZ.out.have_ i _ zs hLi
          subst hAh
          have hil : i < L.length := (List.getElem?_eq_some_iff.1 hLi).1
          have hh := hH8 w5 HB5.out
          have e0 := hh.1
          have hJ8 := hh.2
          have hi0 : (0 : Int) ≤ (i : Int) := by omega
          have hi1 : (i : Int) < (L.length : Int) := by omega
          clear hh hH8 hLi
          go_wp2_with fail
          refine (jsame_any A4 A8 _ _ c4 c8 zs zs w5 hJ5 hJ8 (by omega) (by omega)).mono ?_
          rintro e w6 ⟨rfl, hb6⟩
          simp only [decide_true]
          have hB6 := HB5.out.trans (hb6.mono HB5.out.size)
          have HR6 := Lib.hid (HR5.out.next hb6)
          have HB6 := Lib.hid hB6
          have hO6 := HZ.out.ot w6 hB6
          clear hb6 hB6 hJ8 e0 hJ5 hO5
          go_wp2_with fail
          refine (ot_len w6 hO6).mono ?_
          rintro e w7 ⟨rfl, rfl⟩
          go_wp2_with fail
          go_meet
          case rel => exact ⟨rfl, HB6.out, HR6.out⟩
      case rest =>
        obtain ⟨rfl, hBC, hRC⟩ := hcut
        have HBC := Lib.hid hBC
        have HRC := Lib.hid hRC
        clear hBC hRC hO5 hJ5 hcase
        go_wp2_with fail
        go_loopw [24] (fun i wr => ∃ k : Nat, k ≤ L.length ∧ i = .int .i64 k ∧ Below wc.heap.size wc wr) (fun i _ => L.length - (intOf i).toNat)
        case atStart => exact ⟨0, Nat.zero_le _, rfl, Below.refl _ _⟩
        case round =>
          obtain ⟨i4, hi4, rfl, hb9⟩ := hrel
          have hbv := HBC.out.trans (hb9.mono HBC.out.size)
          rcases Nat.lt_or_ge i4 L.length with hl4 | hg4
          · obtain ⟨b9, o9, ⟨x, y⟩, hA9, hbl9, hx9, hc9⟩ := ((HRC.out).next hb9).at_ hl4
            subst hA9
            have hmem : (x, y) ∈ L.map (·.1) := HT5.out.1.mem_iff.1 (List.mem_of_getElem? hx9)
            obtain ⟨r, hr⟩ := List.getElem?_of_mem hmem
            have RF : ∀ p : Snc wr, Calls Try.prog 8 #[.slice Aa L.length ca, .agg #[.int .u32 x, .int .i64 y]] p.W fun e w' => e = .returned (.int .i64 (r : Int)) ∧ Below p.W.heap.size p.W w' := fun p =>
              (find_any Aa _ ca _ x y p.W (HZ.out.at_ p.W (hbv.trans (p.b.mono hbv.size))) (by omega)).mono fun e w' h => by
                refine ⟨?_, h.2⟩
                rcases h.1 with ⟨_, hno⟩ | ⟨i', he, hy⟩
                · exact absurd hmem hno
                · have hnd := HAP.out
                  unfold Tr.Apart at hnd
                  have : i' = r := (List.getElem?_inj (List.getElem?_eq_some_iff.1 hy).1 hnd).1 (hy.trans hr.symm)
                  rw [he, this]
            have c0 : ∀ p : Snc wr, p.W.cell? ⟨b9, o9 + i4 * 2, none⟩ = some (.int .u32 x) := fun p => (p.b.cell (p := ⟨b9, o9 + i4 * 2, none⟩) hbl9).trans (hc9 0 _ rfl)
            have c1' : ∀ p : Snc wr, p.W.cell? ⟨b9, o9 + i4 * 2 + 1, none⟩ = some (.int .i64 y) := fun p => (p.b.cell (p := ⟨b9, o9 + i4 * 2 + 1, none⟩) hbl9).trans (hc9 1 _ rfl)
            have hi9 : (i4 : Int) < (L.length : Int) := by omega
            have hr0 : decide ((r : Int) < 0) = false := by simp
            have hr1 : ¬ (r : Int) < 0 := by omega
            have HB9 := Lib.hid hb9
            rcases i4 with _ | i4
            · have f0 : ∀ p : Snc wr, p.W.cell? ⟨b9, o9, none⟩ = some (.int .u32 x) := fun p => by simpa using c0 p
              have f1 : ∀ p : Snc wr, p.W.cell? ⟨b9, o9 + 1, none⟩ = some (.int .i64 y) := fun p => by simpa using c1' p
              have hi7 : (0 : Int) < (L.length : Int) := by omega
              have hi6 : 0 < L.length := by omega
              clear c0 c1' hi9
              clear hmem hr hc9 hb9 hbv hx9
              go_wp2_with fail
              refine wp_region_since (by kernel_rfl) (by kernel_rfl) ?_
              repeat (go_big_quiet_step ((go_at_call 8; exact Calls.since (RF _))))
              refine wpQuiet_nil ?_
              rintro w10 ⟨⟨w11, hb11⟩, rfl⟩
              have hB11 := HB9.out.trans (hb11.mono HB9.out.size)
              clear hb11 f0 f1 RF
              go_wp2
              go_roundw
              case rel => exact ⟨1, by omega, by go_num, hB11⟩
              case measure => simp [intOf]; omega
            · obtain ⟨b8, o8, ⟨x0, y0⟩, hA8, hbl8, hx8, hc8⟩ := ((HRC.out).next hb9).at_ (show i4 < L.length by omega)
              obtain ⟨rfl, rfl⟩ : b9 = b8 ∧ o9 = o8 := by cases hA8; exact ⟨rfl, rfl⟩
              have hlt : ltP (x0, y0) (x, y) := by
                obtain ⟨q1, q2⟩ := List.getElem?_eq_some_iff.1 hx8
                obtain ⟨q3, q4⟩ := List.getElem?_eq_some_iff.1 hx9
                have := (List.pairwise_iff_getElem.1 HT5.out.2) i4 (i4 + 1) q1 q3 (by omega)
                rw [q2, q4] at this
                exact this
              have d0 : ∀ p : Snc wr, p.W.cell? ⟨b9, o9 + i4 * 2, none⟩ = some (.int .u32 x0) := fun p => (p.b.cell (p := ⟨b9, o9 + i4 * 2, none⟩) hbl9).trans (hc8 0 _ rfl)
              have d1 : ∀ p : Snc wr, p.W.cell? ⟨b9, o9 + i4 * 2 + 1, none⟩ = some (.int .i64 y0) := fun p => (p.b.cell (p := ⟨b9, o9 + i4 * 2 + 1, none⟩) hbl9).trans (hc8 1 _ rfl)
              have hgt0 : decide ((0 : Int) < ((i4 + 1 : Nat) : Int)) = true := by rw [decide_eq_true_eq]; omega
              have hgt1 : (0 : Int) < ((i4 + 1 : Nat) : Int) := by omega
              have hi8 : (i4 : Int) < (L.length : Int) := by omega
              by_cases hxx : x0 = x
              · have hyy : y0 < y := by unfold ltP at hlt; simp at hlt; omega
                subst hxx
                have e1 : (x0 == x0) = true := by simp
                have e2 : decide (y ≤ y0) = false := by rw [decide_eq_false_iff_not]; omega
                have e3 : decide (x0 < x0) = false := by simp
                clear hmem hr hc9 hb9 hbv hx9 hx8 hc8 hlt hA8
                go_wp2_with fail
                refine wp_region_since (by kernel_rfl) (by kernel_rfl) ?_
                repeat (go_big_quiet_step ((go_at_call 8; exact Calls.since (RF _))))
                refine wpQuiet_nil ?_
                rintro w10 ⟨⟨w11, hb11⟩, rfl⟩
                have hB11 := HB9.out.trans (hb11.mono HB9.out.size)
                clear hb11 c0 c1' d0 d1 RF
                go_wp2
                go_roundw
                case rel => exact ⟨i4 + 1 + 1, by omega, by go_num, hB11⟩
                case measure => simp [intOf]; omega
              · have hxl : x0 < x := by unfold ltP at hlt; simp at hlt; omega
                have e1 : (x0 == x) = false := by simpa using hxx
                have e3 : decide (x < x0) = false := by rw [decide_eq_false_iff_not]; omega
                clear hmem hr hc9 hb9 hbv hx9 hx8 hc8 hlt hA8 hxx
                go_wp2_with fail
                refine wp_region_since (by kernel_rfl) (by kernel_rfl) ?_
                repeat (go_big_quiet_step ((go_at_call 8; exact Calls.since (RF _))))
                refine wpQuiet_nil ?_
                rintro w10 ⟨⟨w11, hb11⟩, rfl⟩
                have hB11 := HB9.out.trans (hb11.mono HB9.out.size)
                clear hb11 c0 c1' d0 d1 RF
                go_wp2
                go_roundw
                case rel => exact ⟨i4 + 1 + 1, by omega, by go_num, hB11⟩
                case measure => simp [intOf]; omega
          · obtain rfl : i4 = L.length := by omega
            have hd9 : decide ((L.length : Int) < (L.length : Int)) = false := by simp
            have hB10 := HBB.out.trans (hbv.mono HBB.out.size)
            have hB11 := HB.out.trans (hB10.mono HB.out.size)
            clear hbv hb9 hB10
            go_wp2
            go_ret
            exact ⟨rfl, hB11⟩
set_option maxRecDepth 100000 in
set_option maxHeartbeats 4000000 in
theorem law_plays (A : Option Addr) (n c : Nat) (xs : List Do) (A2 : Option Addr) (n2 c2 : Nat) (qs : List Int) (p1 p2 : Int) (w : World) (h : RI CDo 3 w A n xs) (hwf : ∀ x ∈ xs, wfDo x)
    (h2 : RI (fun x : Int => [Value.int .u32 x]) 1 w A2 n2 qs) (hwf2 : ∀ x ∈ qs, 0 ≤ x ∧ x ≤ 4294967295) (hp : wfP (p1, p2)) :
    Calls Try.prog 3 #[.slice A n c, .slice A2 n2 c2, .agg #[.int .u32 p1, .int .i64 p2]] w fun e w' => e = .returned (.bool true) ∧ Below w.heap.size w w' := by
  have hB0 := (Below.refl w.heap.size w).alloc (Nat.le_refl _) (.cells #[.int .u32 p1, .int .i64 p2] 27)
  have hK0 : Blk (w.alloc (.cells #[.int .u32 p1, .int .i64 p2] 27)) w.heap.size 27 #[.int .u32 p1, .int .i64 p2] := Blk.new _ _ _
  by_cases hn : 60 < n ∨ 20 < n2
  · have hd : decide ((60 : Int) < (n : Int)) = true ∨ (decide ((60 : Int) < (n : Int)) = false ∧ decide ((20 : Int) < (n2 : Int)) = true) := by simp; omega
    have HB := Lib.hid hB0
    clear hK0 hB0 h h2 hwf hwf2
    rcases hd with hd | ⟨hd, hd2⟩
    · go_enter Try.func3, Try.ntmps3
      go_wp2_with fail
      refine (first_any _).mono ?_
      rintro e w1 ⟨rfl, hb1⟩
      have hb2 := HB.out.trans (hb1.mono HB.out.size)
      clear hb1
      go_wp2
      go_ret
      exact ⟨rfl, hb2⟩
    · go_enter Try.func3, Try.ntmps3
      go_wp2_with fail
      refine (first_any _).mono ?_
      rintro e w1 ⟨rfl, hb1⟩
      have hb2 := HB.out.trans (hb1.mono HB.out.size)
      clear hb1
      go_wp2
      go_ret
      exact ⟨rfl, hb2⟩
  have hd : decide ((60 : Int) < (n : Int)) = false := by simp; omega
  have hd2 : decide ((20 : Int) < (n2 : Int)) = false := by simp; omega
  have HR : Hid (∀ W, Below w.heap.size w W → RI CDo 3 W A n xs) := Lib.hid fun W hW => h.next hW
  have HR2 : Hid (∀ W, Below w.heap.size w W → RI (fun x : Int => [Value.int .u32 x]) 1 W A2 n2 qs) := Lib.hid fun W hW => h2.next hW
  have HW := Lib.hid hwf
  have HW2 := Lib.hid hwf2
  have HN := Lib.hid h.1
  have HB := Lib.hid hB0
  have HK := Lib.hid hK0
  clear h hwf h2 hwf2 hB0 hK0
  go_enter Try.func3, Try.ntmps3
  go_wp2_with fail
  generalize w.alloc (.cells #[.int .u32 p1, .int .i64 p2] 27) = w0 at *
  refine (first_any w0).mono ?_
  rintro e w1 ⟨rfl, hb1⟩
  have hs1 : w0.heap.size ≤ w1.heap.size := hb1.size
  have hP0 : PL w0.heap.size xs w1.heap.size 0 (.slice none 0 0) (.slice none 0 0) (w1.alloc (.cells #[.map none] 31)) := ⟨(· = w1.heap.size), [],
    ⟨by simp; omega, TR.new w1, fun i hi => by subst hi; exact hs1, World.ownsRow_nil _ _ _ _, fun g hg => by simp [Value.ownBlock] at hg, World.ownsRow_nil _ _ _ _, fun g hg => by simp [Value.ownBlock] at hg, fun i ys hi => by simp [Tr.fold] at hi⟩⟩
  have hB2 := hb1.alloc hs1 (.cells #[.map none] 31)
  have HR0 : Hid (∀ W, Below w0.heap.size w0 W → RI CDo 3 W A n xs) := Lib.hid fun W hW => HR.out W (HB.out.trans (hW.mono HB.out.size))
  have HR20 : Hid (∀ W, Below w0.heap.size w0 W → RI (fun x : Int => [Value.int .u32 x]) 1 W A2 n2 qs) := Lib.hid fun W hW => HR2.out W (HB.out.trans (hW.mono HB.out.size))
  clear hb1 hs1 HR HR2
  go_upto_region 8 with fail
  rename_i K6 hK6
  have HK6 := Lib.hid hK6
  clear hK6
  go_wp2_with fail
  refine HK6.out _ _ ?_
  refine wp_seq_k (fun K8 hK8 => ?_)
  have HK8 := Lib.hid hK8
  clear hK8
  go_wp2_with fail
  generalize w1.alloc (.cells #[.map none] 31) = w2 at *
  generalize w1.heap.size = N at *
  go_loopw [9, 10, 11] (fun va vh i wr => ∃ k : Nat, k ≤ n ∧ i = .int .i64 k ∧ PL w0.heap.size xs N k va vh wr ∧ Below w0.heap.size w0 wr) (fun _ _ i _ => n - (intOf i).toNat)
  case atStart => exact ⟨0, Nat.zero_le _, rfl, hP0, hB2⟩
  case round =>
    obtain ⟨k, hk, rfl, ⟨F, us, hP⟩, hb⟩ := hrel
    rcases Nat.lt_or_ge k n with hlt | hge
    · obtain ⟨b, o, ⟨x, y, z⟩, hA, hbl, hx, hc⟩ := (HR0.out w0 (Below.refl _ _)).at_ hlt
      subst hA
      have c0 : ∀ W, Below w0.heap.size w0 W → W.cell? ⟨b, o + k * 3, none⟩ = some (.int .u32 x) := fun W hW => (hW.cell (p := ⟨b, o + k * 3, none⟩) hbl).trans (hc 0 _ rfl)
      have c1 : ∀ W, Below w0.heap.size w0 W → W.cell? ⟨b, o + k * 3 + 1, none⟩ = some (.int .i64 y) := fun W hW => (hW.cell (p := ⟨b, o + k * 3 + 1, none⟩) hbl).trans (hc 1 _ rfl)
      have c2 : ∀ W, Below w0.heap.size w0 W → W.cell? ⟨b, o + k * 3 + 2, none⟩ = some (.int .i64 z) := fun W hW => (hW.cell (p := ⟨b, o + k * 3 + 2, none⟩) hbl).trans (hc 2 _ rfl)
      have C0 := Lib.hid c0
      have C1 := Lib.hid c1
      have C2 := Lib.hid c2
      have HX := Lib.hid hx
      have HWF := Lib.hid (HW.out _ (List.mem_of_getElem? hx))
      have HS := Lib.hid (fold_short xs (by rw [HN.out]; omega) k)
      have F1 : Hid (Tr.fold (xs.take (k + 1)) = Tr.putv (Tr.fold (xs.take k)) (x, y) z) := Lib.hid (fold_take hx)
      have hi0 : (k : Int) < n := by omega
      have hc0 := c0 wr hb
      have hc1 := c1 wr hb
      have HBB := Lib.hid hb
      have HP := Lib.hid hP
      have HAP := Lib.hid (Tr.apart_fold (xs.take k))
      generalize Tr.fold (xs.take k) = L at *
      clear hP0 hB2 hx hc hbl hP c0 c1 c2 hb
      go_wp2_with fail
      refine (rvalid_any x y wr HWF.out.1.1 HWF.out.1.2).mono ?_
      rintro e w3 ⟨rfl, hb3⟩
      have hP3 := (HP.out.next hb3).next ((Below.refl w3.heap.size w3).drew)
      have hbw3 := HBB.out.trans (hb3.mono HBB.out.size)
      have hS0 := hbw3
      have hS1 := hbw3.drew
      have P1 := hP3.put x y z ⟨HWF.out.1, HWF.out.2.1⟩ HS.out.1 (HS.out.2 _)
      have c0 := C0.out
      have c1 := C1.out
      have c2 := C2.out
      have HVV := Lib.hid (show (Ad.valid x y != Ad.valid x y) = false by simp)
      clear hc0 hc1 hb3 hP3
      generalize hV : Ad.valid x y = V at *
      have HV := Lib.hid hV
      have hvv := HVV.out
      clear hV
      go_wp2_with fail
      go_region_held3 (fun W => Below w0.heap.size w0 W) (first | with_reducible assumption)
        (first
        | (go_at_call 7; refine P1.mono ?_; rintro e w4 ⟨rfl, ⟨F4, hP4⟩, hb4⟩; have hB4 := hS1.trans hb4))
      clear P1 hS0 hS1 hb4 hbw3 c0 c1 c2
      have hrow := hP4.rowA
      rw [PF_flat] at hrow
      obtain ⟨Aa, ca, hva, hca, hRI⟩ := RI.of_own (enc := encPf) (fun _ => rfl) hrow
      rw [List.length_map] at hva hRI hca
      subst hva
      have HR4 := Lib.hid hRI
      have HP4 := Lib.hid hP4
      have HB4 := Lib.hid hB4
      have c0 := C0.out w4 hB4
      have c1 := C1.out w4 hB4
      clear hrow hRI hP4 hB4
      go_wp2_with fail
      refine (find_any Aa _ ca _ x y w4 HR4.out (by have := HS.out.1; omega)).mono ?_
      rintro e w5 ⟨hf, hb5⟩
      have hP5 := HP4.out.next hb5
      have hB5 := HB4.out.trans (hb5.mono HB4.out.size)
      clear c0 c1 hb5
      cases V with
      | false =>
        have HL : Hid (Tr.putv L (x, y) z = L) := Lib.hid (by unfold Tr.putv; rw [if_neg (by simp [HV.out])])
        have hfin : PL w0.heap.size xs N (k + 1) (.slice Aa L.length ca) u10 w5 := ⟨F4, us, by rw [F1.out, HL.out]; rw [HL.out] at hP5; exact hP5⟩
        have HFIN := Lib.hid hfin
        have HB5 := Lib.hid hB5
        clear hfin hP5 hB5
        rcases hf with ⟨rfl, _⟩ | ⟨i, rfl, _⟩
        · go_wp2
          go_roundw
          case rel => exact ⟨k + 1, by omega, by go_num, HFIN.out, HB5.out⟩
          case measure => simp [intOf]; omega
        · go_wp2
          go_roundw
          case rel => exact ⟨k + 1, by omega, by go_num, HFIN.out, HB5.out⟩
          case measure => simp [intOf]; omega
      | true =>
        have HL : Hid (Tr.putv L (x, y) z = Tr.put L (x, y) z) := Lib.hid (by unfold Tr.putv; rw [if_pos HV.out])
        rw [HL.out] at hP5
        rcases hf with ⟨rfl, hno⟩ | ⟨i, rfl, hyes⟩
        · have hnew : ∀ p ∈ L, p.1 ≠ (x, y) := fun p hp e => hno (List.mem_map.2 ⟨p, hp, e⟩)
          have HL2 : Hid (Tr.put L (x, y) z = L ++ [((x, y), [z])]) := Lib.hid (Tr.put_new z hnew)
          have HP5 := Lib.hid hP5
          have HB5 := Lib.hid hB5
          have c0 := C0.out w5 hB5
          have c1 := C1.out w5 hB5
          have hbt := HBB
          clear hno hnew hP5 hB5
          obtain ⟨i0, hi, hz0, hz1, hz2⟩ := info_parts info_pf
          obtain ⟨i1, hi', hy0, hy1, hy2⟩ := info_parts info_ints
          have tok1 : True := trivial
          go_wp2_with (first
           | (at_builtin; have _t := tok1; refine wpList_append_own_at _ rfl _ _ 32 rfl w0.heap.size 27 i0 _ 2 16 Try.underlying32 hi hz0 hz1 hz2 rfl (by decide) _ _ _ rfl (HP5.out.rowA.alloc _) ⟨w5.heap.size, 0, none⟩ 1 1 (PF [(x, y)]) rfl rfl (fun j u hj => by
            match j, hj with
            | 0, hj => simp [PF] at hj; subst hj; go_simp
            | 1, hj => simp [PF] at hj; subst hj; go_simp
            | j + 2, hj => simp [PF] at hj) (PF_one _) (by have := HS.out.1; unfold maxLen; simp; omega) (by have := HS.out.1; simp; omega) (by have := HB5.out.size; simp; omega) ?_; intro va' w6 hown6 hgrow6 _ hat6
              have hP6 := (HP5.out.next ((Below.refl w5.heap.size w5).alloc (Nat.le_refl _) (.cells #[.int .u32 x, .int .i64 y] 27))).more hgrow6 hown6 hat6
              have hB6 := (HB5.out.alloc HB5.out.size (.cells #[.int .u32 x, .int .i64 y] 27)).grown hgrow6 (by have := HB5.out.size; simp; omega) (fun j e => (HP5.out.rowA.lt j e).1)
              have d2 := C2.out w6 hB6
              have HP6 := Lib.hid hP6
              have HB6 := Lib.hid hB6
              clear hP6 hB6 hown6 hgrow6 hat6 tok1)
           | (at_builtin; refine wpList_append_own_at _ rfl _ _ 33 rfl w0.heap.size 39 i1 _ 1 24 Try.underlying33 hi' hy0 hy1 hy2 rfl (by decide) _ _ _ rfl ((HP6.out.rowH.alloc _).alloc _) ⟨w6.heap.size + 1, 0, none⟩ 1 1 [.slice (some ⟨w6.heap.size, 0, none⟩) 1 1] rfl rfl (fun j u hj => by
            match j, hj with
            | 0, hj => simp at hj; subst hj; go_simp
            | j + 1, hj => simp at hj) (by intro v hv; simp at hv; subst hv; rfl) (by have := HS.out.1; unfold maxLen; simp; omega) (by have := HS.out.1; simp; omega) (by have := HB6.out.size; simp; omega) ?_; intro vh' w8 hown8 hgrow8 _ hat8
              have hW7 := ((Below.refl w6.heap.size w6).alloc (Nat.le_refl _) (.cells #[.int .i64 z] 3)).alloc (by simp) (.cells #[.slice (some ⟨w6.heap.size, 0, none⟩) 1 1] 39)
              have hJ7 := (jr_one w6 z 3).next ((Below.refl _ _).alloc (Nat.le_refl _) (.cells #[.slice (some ⟨w6.heap.size, 0, none⟩) 1 1] 39))
              have hP8 := (HP6.out.next hW7).moreH (A := some ⟨w6.heap.size, 0, none⟩) (c := 1) (ys := [z]) hgrow8 hown8 hat8 hJ7 (fun b' o' e => by
                have : w6.heap.size = b' := by cases e; rfl
                subst this
                exact ⟨fun hf => by have := HP6.out.tr.lt _ hf; omega, #[.int .i64 z], (0, 0), by
                  rw [Below.heap_alloc _ _ _ (by simp)]
                  exact World.alloc_heap_new w6 _⟩)
              have hB8 := (HB6.out.trans (hW7.mono HB6.out.size)).grown hgrow8 (by have := HB6.out.size; simp; omega) (fun j e => (HP6.out.rowH.lt j e).1)
              have HP8 := Lib.hid hP8
              have HB8 := Lib.hid hB8
              clear hP8 hB8 hown8 hgrow8 hat8 hJ7 hW7))
          go_roundw
          case rel =>
            refine ⟨k + 1, by omega, by go_num, ⟨F4, us ++ [.slice (some ⟨w6.heap.size, 0, none⟩) [z].length 1], ?_⟩, HB8.out⟩
            have := HP8.out
            rw [F1.out, HL.out, HL2.out]
            rw [HL2.out] at this
            simpa using this
          case measure => simp [intOf]; omega
        · have hilt : i < L.length := by have := (List.getElem?_eq_some_iff.1 hyes).1; simpa using this
          obtain ⟨⟨q, ys⟩, hLi⟩ : ∃ q, L[i]? = some q := ⟨L[i], List.getElem?_eq_getElem hilt⟩
          obtain rfl : q = (x, y) := by rw [List.getElem?_map, hLi] at hyes; simpa using hyes
          have hap := HAP.out
          have HL2 : Hid (Tr.put L (x, y) z = L.set i ((x, y), ys ++ [z])) := Lib.hid (Tr.put_old hap z hLi)
          have HM1 : Hid ((L.set i ((x, y), ys ++ [z])).map (·.1) = L.map (·.1)) := Lib.hid (by
            rw [List.map_set]
            apply List.ext_getElem?
            intro j
            rw [List.getElem?_set]
            split
            · rename_i e; subst e
              split
              · rw [List.getElem?_map, hLi]; rfl
              · rename_i e; rw [List.length_map] at e; omega
            · rfl)
          have HM2 : Hid ((L.set i ((x, y), ys ++ [z])).map (·.2) = (L.map (·.2)).set i (ys ++ [z])) := Lib.hid (by rw [List.map_set])
          have hys : ys.length ≤ 1000000 := by
            have := HS.out.2 (x, y)
            rw [Tr.get_at hap hLi] at this
            exact this
          obtain ⟨Ai, ci, hus, hJi, hAi⟩ := hP5.val i ys (by rw [List.getElem?_map, hLi]; rfl)
          have hrowH := hP5.rowH
          rw [List.length_map] at hrowH
          have huslen := hrowH.1
          rcases hrowH.2 with ⟨hv, hl0⟩ | ⟨gh, ch, cur, hv, hbase, hh, hnc, hcm, hsz, htk⟩
          · omega
          subst hv
          have hcell : w5.cell? ⟨gh, i, none⟩ = some (.slice Ai ys.length ci) := by
            have := hrowH.cellAt i (by omega)
            rw [this]
            exact hus
          have hfz : w5.frozen? ⟨gh, i, none⟩ = false := by simp [World.frozen?, hh]
          have hghl := (Array.getElem?_eq_some_iff.1 hh).1
          have d2 := C2.out w5 hB5
          have hbl : b < w5.heap.size := World.block_lt_of_cell? _ _ d2
          have HJ : Hid (∀ W, Below w5.heap.size w5 W → JR W Ai ys.length ys) := Lib.hid fun W hW => hJi.next hW
          have hiI : (i : Int) < L.length := by omega
          have hi0' : ¬ (i : Int) < 0 := by omega
          have hdi : decide ((i : Int) < 0) = false := by simp
          have HP5 := Lib.hid hP5
          have HB5 := Lib.hid hB5
          obtain ⟨i2, hi2, hz0, hz1, hz2⟩ := info_parts info_int
          clear hP5 hB5 hJi hAi hus hrowH huslen hh hsz htk hcm hnc hap hyes hLi
          go_wp2_with fail
          go_region_law (first
            | (refine step_app_at _ (by rfl) _ _ _ (by rfl) _ 3 i2 (.int .i64 0) 1 8 Try.underlying39 hi2 hz0 hz1 hz2 rfl (by decide) _ ys.length (I64 ys) (by rfl) (hown7.alloc _) ⟨w7.heap.size, 0, none⟩ 1 1 [.int .i64 z] (by rfl) (by rfl) (cell_one_new _ _ _) (by intro x hx; simp at hx; subst hx; rfl) (by unfold maxLen; omega) (by omega) (by have := hb7.size; simp at this ⊢; omega) ?_
               intro v8 w8 hown8 hgrow8 hat8
               have hk8 : w8.heap[gh]? = w5.heap[gh]? := (hgrow8.block gh (by have := hb7.size; simp at this ⊢; omega) (by have := hb7.size; simp [Value.ownBlock]; simp at hg7; omega)).trans ((Below.heap_alloc _ _ _ (by have := hb7.size; simp at this; omega)).trans hk7)
               have e8 : w8.cell? ⟨gh, i, none⟩ = some (.slice Ai ys.length ci) := (World.cell?_of_block (a := ⟨gh, i, none⟩) hk8).trans hcell
               have f8 : w8.frozen? ⟨gh, i, none⟩ = false := (World.frozen?_of_block (a := ⟨gh, i, none⟩) hk8).trans hfz
               have hB58 : Below w5.heap.size w5 w8 := (hb57.alloc hb57.size (.cells #[.int .i64 z] 3)).grown hgrow8 (by have := hb57.size; simp; omega) (fun j e => by simp [Value.ownBlock] at e; omega)
               obtain ⟨g8, c8, rfl⟩ := ownsRow_succ hown8
               have hg58 : w5.heap.size ≤ g8 := by have := (hown8.lt g8 rfl).1; simp at this; omega)
            | (refine step_app_at _ (by rfl) _ _ _ (by rfl) _ 3 i2 (.int .i64 0) 1 8 Try.underlying39 hi2 hz0 hz1 hz2 rfl (by decide) _ ys.length (I64 ys) (by rfl) hown7 ⟨w5.heap.size, 0, none⟩ 1 1 [.int .i64 z] (by rfl) (by rfl) (fun j u hj => by
                match j, hj with
                | 0, hj => simp at hj; subst hj; exact (hb7.cell (p := ⟨w5.heap.size, 0, none⟩) (by simp)).trans (by go_simp)
                | j + 1, hj => simp at hj) (by intro x hx; simp at hx; subst hx; rfl) (by unfold maxLen; omega) (by omega) (by have := hb7.size; simp at this ⊢; omega) ?_
               intro v8 w8 hown8 hgrow8 hat8
               have hk8 : w8.heap[gh]? = w5.heap[gh]? := (hgrow8.block gh (by have := hb7.size; simp at this ⊢; omega) (by have := hb7.size; simp [Value.ownBlock]; simp at hg7; omega)).trans hk7
               have e8 : w8.cell? ⟨gh, i, none⟩ = some (.slice Ai ys.length ci) := (World.cell?_of_block (a := ⟨gh, i, none⟩) hk8).trans hcell
               have f8 : w8.frozen? ⟨gh, i, none⟩ = false := (World.frozen?_of_block (a := ⟨gh, i, none⟩) hk8).trans hfz
               have hB58 : Below w5.heap.size w5 w8 := hb57.grown hgrow8 hb57.size (fun j e => by simp [Value.ownBlock] at e; omega)
               obtain ⟨g8, c8, rfl⟩ := ownsRow_succ hown8
               have hg58 : w5.heap.size ≤ g8 := by have := (hown8.lt g8 rfl).1; simp at this; omega)
            | (rw [if_pos (by rfl)]; go_simp; go_at_call 9; refine (ints_any Ai _ ci ys _ (HJ.out _ (by first | with_reducible exact (Below.refl _ _).drew | with_reducible exact below_da _ _)) hys).mono ?_; rintro e w7 ⟨g7, c7, rfl, hg7, hown7, hb7⟩; have hb57 : Below w5.heap.size w5 w7 := (by first | exact below_drew hb7 | exact (below_da _ _).trans (hb7.mono (by simp))); have hg57 : w5.heap.size ≤ g7 := (by simp at hg7; omega); have d27 : w7.cell? ⟨b, o + k * 3 + 2, none⟩ = some (.int .i64 z) := (hb7.cell (p := ⟨b, o + k * 3 + 2, none⟩) (by first | exact hbl | (simp; omega))).trans (by first | exact d2 | go_simp); have hk7 : w7.heap[gh]? = w5.heap[gh]? := (hb7.block gh (by first | exact hghl | (simp; omega))).trans (by first | rfl | exact Below.heap_alloc _ _ _ (by simpa using hghl))))
          all_goals
            obtain ⟨us', hP8⟩ := HP5.out.bump (i := i) (by simp) hilt hB58 hown8 hg58
            have hB8 := (HB5.out.trans (hB58.mono HB5.out.size)).setCell (p := ⟨gh, i, none⟩) hbase (.slice (some ⟨g8, 0, none⟩) (ys.length + 1) c8)
            have HP8 := Lib.hid hP8
            have HB8 := Lib.hid hB8
            clear hP8 hB8 hb57 hown7 hown8 hgrow8 hat8 hb7 hB58 hcell hfz d2 d27 hk7 hk8 e8 f8
            go_wp2
            go_roundw
            case rel =>
              refine ⟨k + 1, by omega, by go_num, ⟨F4, us', ?_⟩, HB8.out⟩
              have := HP8.out
              rw [F1.out, HL.out, HL2.out, HM1.out, HM2.out]
              rw [HL2.out] at this
              exact this
            case measure => simp [intOf]; omega
    · obtain rfl : k = n := by omega
      have hd3 : decide ((k : Int) < (k : Int)) = false := by simp
      have HPP := Lib.hid hP
      have HBK := Lib.hid hb
      clear hP hb hP0 hB2
      go_wp2_with fail
      refine HK8.out _ _ ?_
      have hP := HPP.out
      have hb := HBK.out
      rw [show xs.take k = xs by rw [← HN.out, List.take_length]] at hP
      obtain ⟨Aa, ca, Ah, ch, hZ⟩ := hP.frozen
      have HAP := Lib.hid (Tr.apart_fold xs)
      have HS := Lib.hid (fold_short xs (by rw [HN.out]; omega) k)
      have hwk : ∀ q ∈ (Tr.fold xs).map (·.1), wfP q := fun q hq => by
        obtain ⟨d, hd, rfl⟩ := Tr.fold_keys xs q hq
        have := HW.out d hd
        exact ⟨this.1, this.2.1⟩
      rw [show xs.take k = xs by rw [← HN.out, List.take_length]] at HS
      have HWK := Lib.hid hwk
      obtain rfl := hZ.ea
      obtain rfl := hZ.eh
      have HZ := Lib.hid hZ
      have HBB := Lib.hid hb
      have HKV := Lib.hid (HK.out.next hb)
      generalize Tr.fold xs = L at *
      have hLb := HS.out.1
      clear hwk hZ hP
      
      
      exact plays_rest A k c A2 n2 c2 qs p1 p2 w w0 wr N L Aa ca Ah ch _ _ _ _ _ _ _ _ _ _ _ _ _ _ _ _ _ _ _ _ _ _ _ _ _ _ _ _ _ _ _ _ _ _ _ _ _ _ _ _ _ _ _ _ _ _ _ _ _ _ _ _ _ _ _ _ _ _ _ _ _ _ _ _ _ _ _ _ _ _ _ _ _ _ _ _ _ _ _ _ _ _ _ _ _ _ _ _ _ _ _ _ _ _ _ _ _ _ _ _ _ _ _ _ _ _ _ _ _ _ _ _ _ _ _ _ _ _ _ _ _ _ _ _ _ _ _ _ _ _ _ _ _ _ _ _ _ _ _ _ _ _ _ _ _ _ _ _ _ _ _ _ _ _ _ _ _ _ _ _ _ _ _ _ _ _ _ _ _ _ _ _ _ _ _ _ _ _ _ _ _ _ _ _ _ _ _ _ _ _ _ _ _ _ _ _ _ _ _ _ _ _ _ _ _ _ _ _ _ _ _ _ _ _ _ _ _ _ _ _ _ _ _ _ _ _ _ _ _ _ _ _ _ _ _ _ _ _ _ _ _ _ _ _ _ _ _ _ _ _ _ _ _ _ _ _ _ _ _ _ _ _ _ _ _ _ _ _ _ _ HR20 HW2 hp (by omega) HB HAP HS HWK HZ HBB HKV
end Go.Proofs.Ytnnoigdedjbbmaa

