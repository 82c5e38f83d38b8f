/- Contracts of lex.Number and of the document's readers of numbers. Conditions of the first: strconv's table of powers of ten is as the library's text lays it, its two errors' variables hold something, the errors of numbers and of ranges lie in their variables. -/
import Derived.Test.YthnchjmbjeooiaaDoorDec
import Derived.Test.YthnchjmbjeooiaaDoorBy
import Derived.Test.YthnchjmbjeooiaaDoorName
import Derived.Test.YthnchjmbjeooiaaDoorShelf
import Derived.BigQuiet
import Derived.Deep.QuietTactic
import Derived.Lib.SmallJoins
import Derived.Lib.AppendIntMem
import Derived.Lib.AtoiErrMem
namespace Go.Proofs.YthnchjmbjeooiaaDoor
open Go.RowKit Go.Lib Lx
def EnvT (w : World) : Prop := Lib.TabIs Tryd.prog w "internal/strconv.uint64pow10" .u64 Lib.pow10Tab
theorem EnvT.below {w w' : World} (h : EnvT w) (hb : Below w.heap.size w w') : EnvT w' := Lib.tabBelow_of_tabIs h w' hb
/-- the library's two errors of numbers: their variables hold something -/
def EnvE (w : World) : Prop := (∃ t p, w.cell? ⟨5, 0, none⟩ = some (.iface t p)) ∧ ∃ t p, w.cell? ⟨6, 0, none⟩ = some (.iface t p)
theorem EnvE.next {w w' : World} (h : EnvE w) (hb : Below w.heap.size w w') : EnvE w' := by
  obtain ⟨⟨t, p, h1⟩, t', p', h2⟩ := h
  exact ⟨⟨t, p, (hb.cell (World.block_lt_of_cell? _ _ h1)).trans h1⟩, t', p', (hb.cell (World.block_lt_of_cell? _ _ h2)).trans h2⟩
theorem itoa_any (n : Int) (h0 : -9223372036854775808 ≤ n) (h1 : n ≤ 9223372036854775807) (w : World) (hT : EnvT w) :
    Calls Tryd.prog 25 #[.int .i64 n] w fun e w' => e = .returned (.string ⟨(Lib.itoa n).toArray⟩) ∧ Below w.heap.size w w' :=
  (Tryd.strconv_Itoa n h0 h1 w hT).mono fun _ _ ⟨he, k, os, hw⟩ => ⟨he, hw ▸ below_grow w k os⟩
theorem atoi_yes (s : ByteArray) (v : Int) (w : World) (hs : s.size ≤ 1048576) (h : Lib.atoiAll s.data.toList = .ok v) :
    Calls Tryd.prog 24 #[.string s] w fun e w' => e = .returned (.tuple #[.int .i64 v, .nilIface]) ∧ Below w.heap.size w w' :=
  (Tryd.strconv_Atoi_ok s (by omega) v h w).mono fun _ _ ⟨he, hw⟩ => ⟨he, by
    rcases hw with rfl | ⟨t, rfl⟩
    · exact Below.refl _ _
    · exact Lib.bytesWorld_below _ _ _⟩
theorem atoi_no (s : ByteArray) (w : World) (hs : s.size ≤ 1048576) (h : ∀ v, Lib.atoiAll s.data.toList ≠ .ok v) (hE : EnvE w) :
    Calls Tryd.prog 24 #[.string s] w fun e w' => ∃ v t p, e = .returned (.tuple #[.int .i64 v, .iface t p]) ∧ Below w.heap.size w w' := by
  obtain ⟨⟨t, p, h1⟩, t', p', h2⟩ := hE
  cases hc : Lib.atoiAll s.data.toList with
  | ok v => exact absurd hc (h v)
  | range => exact (Any.strconv_Atoi_range Tryd.laysC172 s (by omega) hc _ w h2 (.inr ⟨_, _, rfl⟩)).mono fun _ _ ⟨N, he, _, _, hb⟩ => ⟨_, _, _, he, hb⟩
  | _ => exact (Any.strconv_Atoi_syntax Tryd.laysC172 s (by omega) hc _ w h1 (.inr ⟨_, _, rfl⟩)).mono fun _ _ ⟨N, he, _, _, hb⟩ => ⟨_, _, _, he, hb⟩
/-- what is read of a number: no numeral; too great; the number -/
def nmCode (l : List UInt8) (most : Int) : Int := if nOk l then (if most < (Ad.val l : Int) then 103 else 0) else 107
def nmVal (l : List UInt8) (most : Int) : Int := if nmCode l most = 0 then (Ad.val l : Int) else 0
theorem nm_none {l : List UInt8} {most : Int} (h : nOk l = false) : nmCode l most = 107 ∧ nmVal l most = 0 := by
  have : nmCode l most = 107 := by unfold nmCode; rw [h]; rfl
  exact ⟨this, by unfold nmVal; rw [this]; rfl⟩
theorem nm_great {l : List UInt8} {most : Int} (h : nOk l = true) (g : most < (Ad.val l : Int)) : nmCode l most = 103 ∧ nmVal l most = 0 := by
  have : nmCode l most = 103 := by unfold nmCode; rw [h, if_pos rfl, if_pos g]
  exact ⟨this, by unfold nmVal; rw [this]; rfl⟩
theorem nm_some {l : List UInt8} {most : Int} (h : nOk l = true) (g : (Ad.val l : Int) ≤ most) : nmCode l most = 0 ∧ nmVal l most = (Ad.val l : Int) := by
  have : nmCode l most = 0 := by unfold nmCode; rw [h, if_pos rfl, if_neg (by omega)]
  exact ⟨this, by unfold nmVal; rw [this]; rfl⟩
/-- the error of a number's code -/
def nmE (x3 x7 : Value) (c : Int) : Value := if c = 107 then x7 else if c = 103 then x3 else .nilIface
theorem ret_nm {l : List UInt8} {most a : Int} {x3 x7 e : Value} {w w' : World} (hb : Below w.heap.size w w') (c : Int) (h : nmCode l most = c ∧ nmVal l most = a) (he : nmE x3 x7 c = e) :
    Ending.returned (.tuple #[.int .i64 a, e]) = Ending.returned (.tuple #[.int .i64 (nmVal l most), nmE x3 x7 (nmCode l most)]) ∧ Below w.heap.size w w' := by
  rw [h.1, h.2, he]; exact ⟨rfl, hb⟩
set_option maxHeartbeats 2000000 in
theorem number_lex (s : ByteArray) (most : Int) (x3 x7 : Value) (w : World) (hs : s.size ≤ 1048576) (hT : EnvT w) (hE : EnvE w)
    (h3 : w.cell? ⟨2, 0, none⟩ = some x3) (h7 : w.cell? ⟨1, 0, none⟩ = some x7) :
    Calls Tryd.prog 13 #[.string s, .int .i64 most] w fun e w' => e = .returned (.tuple #[.int .i64 (nmVal s.data.toList most), nmE x3 x7 (nmCode s.data.toList most)]) ∧ Below w.heap.size w w' := by
  have HL : Hid (s.data.toList.length = s.size) := by show _ = _; simp
  have h3l := World.block_lt_of_cell? _ _ h3
  have h7l := World.block_lt_of_cell? _ _ h7
  have HR := Lib.hid (Below.refl w.heap.size w)
  rcases Nat.lt_or_ge 9 s.size with hbig | hsm
  · have hn : nOk s.data.toList = false := by unfold nOk; rw [HL.out]; simp; omega
    have HN := Lib.hid (nm_none (most := most) hn)
    clear hn hE hT h3
    go_enter Tryd.func13, Tryd.ntmps13
    go_wp2_with fail
    go_quiet (fail)
    go_wp2
    go_ret2
    exact ret_nm (below_drewN HR.out _) 107 HN.out rfl
  · cases hok : nOk s.data.toList with
    | true =>
      have HA := Lib.hid (atoi_yes s (Ad.val s.data.toList : Int) w hs (atoi_ok hok))
      have hv := val_big hok
      have HI := Lib.hid (fun W (hb : Below w.heap.size w W) => itoa_any (Ad.val s.data.toList : Int) (by omega) (by omega) W (hT.below hb))
      rw [nOk_back hok] at HI
      have hst : (⟨s.data.toList.toArray⟩ : ByteArray) = s := by simp
      rw [hst] at HI
      have HNg := Lib.hid (fun g => nm_great (most := most) hok g)
      have HNs := Lib.hid (fun g => nm_some (most := most) hok g)
      have heq : (s.toList != s.toList) = false := by simp
      clear hok hst hE hT h7
      generalize Ad.val s.data.toList = v at *
      rcases Int.lt_or_le most (v : Int) with hg | hg
      · go_enter Tryd.func13, Tryd.ntmps13
        go_wp2_with (first
          | (go_at_call 24; refine HA.out.mono ?_; rintro e w1 ⟨rfl, hb⟩; have HB1 := Lib.hid hb; clear hb)
          | (go_at_call 25; refine (HI.out _ HB1.out).mono ?_; rintro e w2 ⟨rfl, hb⟩
             have HB2 := Lib.hid (below_next HB1.out hb)
             have h3' : w2.cell? ⟨2, 0, none⟩ = some x3 := (HB2.out.cell h3l).trans h3
             clear hb))
        go_quiet (fail)
        go_wp2
        go_ret2
        exact ret_nm (below_drewN HB2.out _) 103 (HNg.out hg) rfl
      · go_enter Tryd.func13, Tryd.ntmps13
        go_wp2_with (first
          | (go_at_call 24; refine HA.out.mono ?_; rintro e w1 ⟨rfl, hb⟩; have HB1 := Lib.hid hb; clear hb)
          | (go_at_call 25; refine (HI.out _ HB1.out).mono ?_; rintro e w2 ⟨rfl, hb⟩
             have HB2 := Lib.hid (below_next HB1.out hb)
             clear hb))
        go_ret2
        exact ret_nm HB2.out 0 (HNs.out hg) rfl
    | false =>
      have HN := Lib.hid (nm_none (most := most) hok)
      by_cases hex : ∃ v, Lib.atoiAll s.data.toList = .ok v
      · obtain ⟨v, hv⟩ := hex
        have HA := Lib.hid (atoi_yes s v w hs hv)
        obtain ⟨vb0, vb1⟩ := Lib.atoiAll_bounds hv
        rcases Int.lt_or_le v 0 with hneg | hpos
        · clear hv hok hE hT h3
          go_enter Tryd.func13, Tryd.ntmps13
          go_wp2_with (go_at_call 24; refine HA.out.mono ?_; rintro e w1 ⟨rfl, hb⟩; have HB1 := Lib.hid hb; have h7' : w1.cell? ⟨1, 0, none⟩ = some x7 := (hb.cell h7l).trans h7; clear hb)
          go_quiet (fail)
          go_wp2
          go_ret2
          exact ret_nm (below_drewN HB1.out _) 107 HN.out rfl
        · have hne : ¬ Lib.itoa v = s.data.toList := fun e => by
            have := nOk_itoa hpos (by rw [HL.out]; exact hsm) e
            rw [hok] at this; cases this
          have HI := Lib.hid (fun W (hb : Below w.heap.size w W) => itoa_any v (by omega) (by omega) W (hT.below hb))
          have heq : ((⟨(Lib.itoa v).toArray⟩ : ByteArray).toList == s.toList) = false := by
            rw [ByteArray.toList_eq, ByteArray.toList_eq]
            simpa using hne
          clear hv hok hE hT h3 hne
          generalize (⟨(Lib.itoa v).toArray⟩ : ByteArray) = T at *
          go_enter Tryd.func13, Tryd.ntmps13
          go_wp2_with (first
            | (go_at_call 24; refine HA.out.mono ?_; rintro e w1 ⟨rfl, hb⟩; have HB1 := Lib.hid hb; clear hb)
            | (go_at_call 25; refine (HI.out _ HB1.out).mono ?_; rintro e w2 ⟨rfl, hb⟩
               have HB2 := Lib.hid (below_next HB1.out hb)
               have h7' : w2.cell? ⟨1, 0, none⟩ = some x7 := (HB2.out.cell h7l).trans h7
               clear hb))
          go_quiet (fail)
          go_wp2
          go_ret2
          exact ret_nm (below_drewN HB2.out _) 107 HN.out rfl
      · have HA := Lib.hid (atoi_no s w hs (fun v hv => hex ⟨v, hv⟩) hE)
        clear hex hok hE hT h3
        go_enter Tryd.func13, Tryd.ntmps13
        go_wp2_with (go_at_call 24; refine HA.out.mono ?_; rintro e w1 ⟨v, t, p, rfl, hb⟩; have HB1 := Lib.hid hb; have h7' : w1.cell? ⟨1, 0, none⟩ = some x7 := (hb.cell h7l).trans h7; clear hb)
        go_quiet (fail)
        go_wp2
        go_ret2
        exact ret_nm (below_drewN HB1.out _) 107 HN.out rfl
end Go.Proofs.YthnchjmbjeooiaaDoor
