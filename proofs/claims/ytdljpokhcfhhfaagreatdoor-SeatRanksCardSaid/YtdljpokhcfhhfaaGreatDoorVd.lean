/- Contracts of conf's seven checks, list by list, and of conf.Valid. -/
import Derived.Test.YtdljpokhcfhhfaaGreatDoorCw
import Derived.Test.YtdljpokhcfhhfaaGreatDoorVa
import Derived.Test.YtdljpokhcfhhfaaGreatDoorVg
import Derived.Test.YtdljpokhcfhhfaaGreatDoorVm
namespace Go.Proofs.YtdljpokhcfhhfaaGreatDoor
open Go.RowKit Go.Lib Lx
set_option maxHeartbeats 1000000 in
theorem routers_any (ads : List Addr) (M : Cm) (x : Cfg) (w : World) (hS : EnvC ads w) (h : CW w M x) :
    Calls Tryz.prog 90 #[.agg #[.slice M.r.A M.r.n M.r.c, .slice M.l.A M.l.n M.l.c, .slice M.p.A M.p.n M.p.c, .slice M.o.A M.o.n M.o.c, .slice M.g.A M.g.n M.g.c, .slice M.s.A M.s.n M.s.c, .slice M.m.A M.m.n M.m.c]] w fun e w' => e = .returned (erS ads (feC (atC (rcode) x.rs) 16 0 x.rs.length)) ∧ Below w.heap.size w w' := by
  have HB0 := Lib.hid (show Below w.heap.size w (w.alloc (.cells #[.slice M.r.A M.r.n M.r.c, .slice M.l.A M.l.n M.l.c, .slice M.p.A M.p.n M.p.c, .slice M.o.A M.o.n M.o.c, .slice M.g.A M.g.n M.g.c, .slice M.s.A M.s.n M.s.c, .slice M.m.A M.m.n M.m.c] 30)) from (Below.refl _ _).alloc (Nat.le_refl _) _)
  have HK0 := Lib.hid (show Blk (w.alloc (.cells #[.slice M.r.A M.r.n M.r.c, .slice M.l.A M.l.n M.l.c, .slice M.p.A M.p.n M.p.c, .slice M.o.A M.o.n M.o.c, .slice M.g.A M.g.n M.g.c, .slice M.s.A M.s.n M.s.c, .slice M.m.A M.m.n M.m.c] 30)) w.heap.size 30 #[.slice M.r.A M.r.n M.r.c, .slice M.l.A M.l.n M.l.c, .slice M.p.A M.p.n M.p.c, .slice M.o.A M.o.n M.o.c, .slice M.g.A M.g.n M.g.c, .slice M.s.A M.s.n M.s.c, .slice M.m.A M.m.n M.m.c] from Blk.new _ _ _)
  have hn : x.rs.length = M.r.n := h.r.len
  have hF := feRouter 149 #[] (enters_of Tryz.func149 (by kernel_rfl) rfl) ads (atC (rcode) x.rs) 16 (atC_is rcode_is _) M.r.A M.r.n M.r.c x.rs (w.alloc (.cells #[.slice M.r.A M.r.n M.r.c, .slice M.l.A M.l.n M.l.c, .slice M.p.A M.p.n M.p.c, .slice M.o.A M.o.n M.o.c, .slice M.g.A M.g.n M.g.c, .slice M.s.A M.s.n M.s.c, .slice M.m.A M.m.n M.m.c] 30)) (IR.next h.r HB0.out) h.rok.2 h.rok.1 (by decide) (hS.below HB0.out)
    (fun W i y hlt hy hb hi => by
      have hm := List.mem_of_getElem? hy
      rw [atC_at hy]
      exact routers1_any ads y.1 y.2 M.r.A i M.r.c _ W (hS.below (below_next HB0.out hb)) hi (by omega))
  rw [hn]
  have HF := Lib.hid hF
  clear hF h hS hn
  generalize feC (atC (rcode) x.rs) 16 0 M.r.n = q at *
  generalize erS ads q = E at *
  go_enter Tryz.func90, Tryz.ntmps90
  go_wp2_with (go_at_call 148; refine HF.out.mono ?_; rintro e w1 ⟨rfl, hb⟩)
  go_ret
  exact ⟨rfl, below_next HB0.out hb⟩
set_option maxHeartbeats 1000000 in
theorem links_any (ads : List Addr) (M : Cm) (x : Cfg) (w : World) (hS : EnvC ads w) (h : CW w M x) :
    Calls Tryz.prog 91 #[.agg #[.slice M.r.A M.r.n M.r.c, .slice M.l.A M.l.n M.l.c, .slice M.p.A M.p.n M.p.c, .slice M.o.A M.o.n M.o.c, .slice M.g.A M.g.n M.g.c, .slice M.s.A M.s.n M.s.c, .slice M.m.A M.m.n M.m.c]] w fun e w' => e = .returned (erS ads (feC (atC (lcode) x.ls) 24 0 x.ls.length)) ∧ Below w.heap.size w w' := by
  have HB0 := Lib.hid (show Below w.heap.size w (w.alloc (.cells #[.slice M.r.A M.r.n M.r.c, .slice M.l.A M.l.n M.l.c, .slice M.p.A M.p.n M.p.c, .slice M.o.A M.o.n M.o.c, .slice M.g.A M.g.n M.g.c, .slice M.s.A M.s.n M.s.c, .slice M.m.A M.m.n M.m.c] 30)) from (Below.refl _ _).alloc (Nat.le_refl _) _)
  have HK0 := Lib.hid (show Blk (w.alloc (.cells #[.slice M.r.A M.r.n M.r.c, .slice M.l.A M.l.n M.l.c, .slice M.p.A M.p.n M.p.c, .slice M.o.A M.o.n M.o.c, .slice M.g.A M.g.n M.g.c, .slice M.s.A M.s.n M.s.c, .slice M.m.A M.m.n M.m.c] 30)) w.heap.size 30 #[.slice M.r.A M.r.n M.r.c, .slice M.l.A M.l.n M.l.c, .slice M.p.A M.p.n M.p.c, .slice M.o.A M.o.n M.o.c, .slice M.g.A M.g.n M.g.c, .slice M.s.A M.s.n M.s.c, .slice M.m.A M.m.n M.m.c] from Blk.new _ _ _)
  have hn : x.ls.length = M.l.n := h.l.len
  have hF := feLink 155 #[] (enters_of Tryz.func155 (by kernel_rfl) rfl) ads (atC (lcode) x.ls) 24 (atC_is lcode_is _) M.l.A M.l.n M.l.c x.ls (w.alloc (.cells #[.slice M.r.A M.r.n M.r.c, .slice M.l.A M.l.n M.l.c, .slice M.p.A M.p.n M.p.c, .slice M.o.A M.o.n M.o.c, .slice M.g.A M.g.n M.g.c, .slice M.s.A M.s.n M.s.c, .slice M.m.A M.m.n M.m.c] 30)) (IR.next h.l HB0.out) h.lok.2 h.lok.1 (by decide) (hS.below HB0.out)
    (fun W i y hlt hy hb hi => by
      have hm := List.mem_of_getElem? hy
      rw [atC_at hy]
      exact links1_any ads y.1 y.2.1 y.2.2 M.l.A i M.l.c _ W (hS.below (below_next HB0.out hb)) hi (by omega) (h.ok.1 y hm).1 (h.ok.1 y hm).2)
  rw [hn]
  have HF := Lib.hid hF
  clear hF h hS hn
  generalize feC (atC (lcode) x.ls) 24 0 M.l.n = q at *
  generalize erS ads q = E at *
  go_enter Tryz.func91, Tryz.ntmps91
  go_wp2_with (go_at_call 154; refine HF.out.mono ?_; rintro e w1 ⟨rfl, hb⟩)
  go_ret
  exact ⟨rfl, below_next HB0.out hb⟩
set_option maxHeartbeats 1000000 in
theorem ports_any (ads : List Addr) (M : Cm) (x : Cfg) (w : World) (hS : EnvC ads w) (h : CW w M x) :
    Calls Tryz.prog 92 #[.agg #[.slice M.r.A M.r.n M.r.c, .slice M.l.A M.l.n M.l.c, .slice M.p.A M.p.n M.p.c, .slice M.o.A M.o.n M.o.c, .slice M.g.A M.g.n M.g.c, .slice M.s.A M.s.n M.s.c, .slice M.m.A M.m.n M.m.c]] w fun e w' => e = .returned (erS ads (feC (atC (pcode x.rs.length x.ls) x.ps) 64 0 x.ps.length)) ∧ Below w.heap.size w w' := by
  have HB0 := Lib.hid (show Below w.heap.size w (w.alloc (.cells #[.slice M.r.A M.r.n M.r.c, .slice M.l.A M.l.n M.l.c, .slice M.p.A M.p.n M.p.c, .slice M.o.A M.o.n M.o.c, .slice M.g.A M.g.n M.g.c, .slice M.s.A M.s.n M.s.c, .slice M.m.A M.m.n M.m.c] 30)) from (Below.refl _ _).alloc (Nat.le_refl _) _)
  have HK0 := Lib.hid (show Blk (w.alloc (.cells #[.slice M.r.A M.r.n M.r.c, .slice M.l.A M.l.n M.l.c, .slice M.p.A M.p.n M.p.c, .slice M.o.A M.o.n M.o.c, .slice M.g.A M.g.n M.g.c, .slice M.s.A M.s.n M.s.c, .slice M.m.A M.m.n M.m.c] 30)) w.heap.size 30 #[.slice M.r.A M.r.n M.r.c, .slice M.l.A M.l.n M.l.c, .slice M.p.A M.p.n M.p.c, .slice M.o.A M.o.n M.o.c, .slice M.g.A M.g.n M.g.c, .slice M.s.A M.s.n M.s.c, .slice M.m.A M.m.n M.m.c] from Blk.new _ _ _)
  have hn : x.ps.length = M.p.n := h.p.len
  have hF := fePort 162 #[.pointer (some ⟨w.heap.size, 0, none⟩)] (enters_of Tryz.func162 (by kernel_rfl) rfl) ads (atC (pcode x.rs.length x.ls) x.ps) 64 (atC_is (pcode_is _ _) _) M.p.A M.p.n M.p.c x.ps (w.alloc (.cells #[.slice M.r.A M.r.n M.r.c, .slice M.l.A M.l.n M.l.c, .slice M.p.A M.p.n M.p.c, .slice M.o.A M.o.n M.o.c, .slice M.g.A M.g.n M.g.c, .slice M.s.A M.s.n M.s.c, .slice M.m.A M.m.n M.m.c] 30)) (IR.next h.p HB0.out) h.pok.2 h.pok.1 (by decide) (hS.below HB0.out)
    (fun W i y hlt hy hb hi => by
      have hm := List.mem_of_getElem? hy
      rw [atC_at hy]
      rw [h.r.len]
      exact ports1_any ads y.1 y.2.1 y.2.2 M.p.A i M.p.c _ w.heap.size M.r.A M.r.n M.r.c M.l.A M.l.n M.l.c x.ls W (hS.below (below_next HB0.out hb)) hi (by omega) (h.next (below_next HB0.out hb)).l h.ok.1 (Blk.cell (HK0.out.next hb) 0) (Blk.cell (HK0.out.next hb) 1) (h.ok.2.1 y hm).1 (h.ok.2.1 y hm).2)
  rw [hn]
  have HF := Lib.hid hF
  clear hF h hS hn
  generalize feC (atC (pcode x.rs.length x.ls) x.ps) 64 0 M.p.n = q at *
  generalize erS ads q = E at *
  go_enter Tryz.func92, Tryz.ntmps92
  go_wp2_with (go_at_call 161; refine HF.out.mono ?_; rintro e w1 ⟨rfl, hb⟩)
  go_ret
  exact ⟨rfl, below_next HB0.out hb⟩
set_option maxHeartbeats 1000000 in
theorem routes_any (ads : List Addr) (M : Cm) (x : Cfg) (w : World) (hS : EnvC ads w) (h : CW w M x) :
    Calls Tryz.prog 93 #[.agg #[.slice M.r.A M.r.n M.r.c, .slice M.l.A M.l.n M.l.c, .slice M.p.A M.p.n M.p.c, .slice M.o.A M.o.n M.o.c, .slice M.g.A M.g.n M.g.c, .slice M.s.A M.s.n M.s.c, .slice M.m.A M.m.n M.m.c]] w fun e w' => e = .returned (erS ads (feC (atC (fun y _ => ocode x.rs.length y) x.os) 96 0 x.os.length)) ∧ Below w.heap.size w w' := by
  have HB0 := Lib.hid (show Below w.heap.size w (w.alloc (.cells #[.slice M.r.A M.r.n M.r.c, .slice M.l.A M.l.n M.l.c, .slice M.p.A M.p.n M.p.c, .slice M.o.A M.o.n M.o.c, .slice M.g.A M.g.n M.g.c, .slice M.s.A M.s.n M.s.c, .slice M.m.A M.m.n M.m.c] 30)) from (Below.refl _ _).alloc (Nat.le_refl _) _)
  have HK0 := Lib.hid (show Blk (w.alloc (.cells #[.slice M.r.A M.r.n M.r.c, .slice M.l.A M.l.n M.l.c, .slice M.p.A M.p.n M.p.c, .slice M.o.A M.o.n M.o.c, .slice M.g.A M.g.n M.g.c, .slice M.s.A M.s.n M.s.c, .slice M.m.A M.m.n M.m.c] 30)) w.heap.size 30 #[.slice M.r.A M.r.n M.r.c, .slice M.l.A M.l.n M.l.c, .slice M.p.A M.p.n M.p.c, .slice M.o.A M.o.n M.o.c, .slice M.g.A M.g.n M.g.c, .slice M.s.A M.s.n M.s.c, .slice M.m.A M.m.n M.m.c] from Blk.new _ _ _)
  have hn : x.os.length = M.o.n := h.o.len
  have hF := feRoute 169 #[.pointer (some ⟨w.heap.size, 0, none⟩)] (enters_of Tryz.func169 (by kernel_rfl) rfl) ads (atC (fun y _ => ocode x.rs.length y) x.os) 96 (atC_is (fun y _ => ocode_is _ y) _) M.o.A M.o.n M.o.c x.os (w.alloc (.cells #[.slice M.r.A M.r.n M.r.c, .slice M.l.A M.l.n M.l.c, .slice M.p.A M.p.n M.p.c, .slice M.o.A M.o.n M.o.c, .slice M.g.A M.g.n M.g.c, .slice M.s.A M.s.n M.s.c, .slice M.m.A M.m.n M.m.c] 30)) (IR.next h.o HB0.out) h.ook.2 h.ook.1 (by decide) (hS.below HB0.out)
    (fun W i y hlt hy hb hi => by
      have hm := List.mem_of_getElem? hy
      rw [atC_at hy]
      rw [h.r.len]
      exact routes1_any ads y.1 y.2.1 y.2.2.1 y.2.2.2.1 y.2.2.2.2 M.o.A i M.o.c w.heap.size M.r.A M.r.n M.r.c W (hS.below (below_next HB0.out hb)) (Blk.cell (HK0.out.next hb) 0) (h.ok.2.2.1 y hm).1.1 (h.ok.2.2.1 y hm).1.2 (h.ok.2.2.1 y hm).2.1 (h.ok.2.2.1 y hm).2.2)
  rw [hn]
  have HF := Lib.hid hF
  clear hF h hS hn
  generalize feC (atC (fun y _ => ocode x.rs.length y) x.os) 96 0 M.o.n = q at *
  generalize erS ads q = E at *
  go_enter Tryz.func93, Tryz.ntmps93
  go_wp2_with (go_at_call 168; refine HF.out.mono ?_; rintro e w1 ⟨rfl, hb⟩)
  go_ret
  exact ⟨rfl, below_next HB0.out hb⟩
set_option maxHeartbeats 1000000 in
theorem ranges_any (ads : List Addr) (M : Cm) (x : Cfg) (w : World) (hS : EnvC ads w) (h : CW w M x) :
    Calls Tryz.prog 94 #[.agg #[.slice M.r.A M.r.n M.r.c, .slice M.l.A M.l.n M.l.c, .slice M.p.A M.p.n M.p.c, .slice M.o.A M.o.n M.o.c, .slice M.g.A M.g.n M.g.c, .slice M.s.A M.s.n M.s.c, .slice M.m.A M.m.n M.m.c]] w fun e w' => e = .returned (erS ads (feC (atC (gcode) x.gs) 8 0 x.gs.length)) ∧ Below w.heap.size w w' := by
  have HB0 := Lib.hid (show Below w.heap.size w (w.alloc (.cells #[.slice M.r.A M.r.n M.r.c, .slice M.l.A M.l.n M.l.c, .slice M.p.A M.p.n M.p.c, .slice M.o.A M.o.n M.o.c, .slice M.g.A M.g.n M.g.c, .slice M.s.A M.s.n M.s.c, .slice M.m.A M.m.n M.m.c] 30)) from (Below.refl _ _).alloc (Nat.le_refl _) _)
  have HK0 := Lib.hid (show Blk (w.alloc (.cells #[.slice M.r.A M.r.n M.r.c, .slice M.l.A M.l.n M.l.c, .slice M.p.A M.p.n M.p.c, .slice M.o.A M.o.n M.o.c, .slice M.g.A M.g.n M.g.c, .slice M.s.A M.s.n M.s.c, .slice M.m.A M.m.n M.m.c] 30)) w.heap.size 30 #[.slice M.r.A M.r.n M.r.c, .slice M.l.A M.l.n M.l.c, .slice M.p.A M.p.n M.p.c, .slice M.o.A M.o.n M.o.c, .slice M.g.A M.g.n M.g.c, .slice M.s.A M.s.n M.s.c, .slice M.m.A M.m.n M.m.c] from Blk.new _ _ _)
  have hn : x.gs.length = M.g.n := h.g.len
  have hF := feRange 172 #[] (enters_of Tryz.func172 (by kernel_rfl) rfl) ads (atC (gcode) x.gs) 8 (atC_is gcode_is _) M.g.A M.g.n M.g.c x.gs (w.alloc (.cells #[.slice M.r.A M.r.n M.r.c, .slice M.l.A M.l.n M.l.c, .slice M.p.A M.p.n M.p.c, .slice M.o.A M.o.n M.o.c, .slice M.g.A M.g.n M.g.c, .slice M.s.A M.s.n M.s.c, .slice M.m.A M.m.n M.m.c] 30)) (IR.next h.g HB0.out) h.gok.2 h.gok.1 (by decide) (hS.below HB0.out)
    (fun W i y hlt hy hb hi => by
      have hm := List.mem_of_getElem? hy
      rw [atC_at hy]
      exact ranges1_any ads y.1 y.2.1 y.2.2 M.g.A i M.g.c _ W (hS.below (below_next HB0.out hb)) hi (by omega) (h.ok.2.2.2.1 y hm).1.1 (h.ok.2.2.2.1 y hm).1.2 (h.ok.2.2.2.1 y hm).2.1 (h.ok.2.2.2.1 y hm).2.2)
  rw [hn]
  have HF := Lib.hid hF
  clear hF h hS hn
  generalize feC (atC (gcode) x.gs) 8 0 M.g.n = q at *
  generalize erS ads q = E at *
  go_enter Tryz.func94, Tryz.ntmps94
  go_wp2_with (go_at_call 171; refine HF.out.mono ?_; rintro e w1 ⟨rfl, hb⟩)
  go_ret
  exact ⟨rfl, below_next HB0.out hb⟩
set_option maxHeartbeats 1000000 in
theorem sources_any (ads : List Addr) (M : Cm) (x : Cfg) (w : World) (hS : EnvC ads w) (h : CW w M x) :
    Calls Tryz.prog 95 #[.agg #[.slice M.r.A M.r.n M.r.c, .slice M.l.A M.l.n M.l.c, .slice M.p.A M.p.n M.p.c, .slice M.o.A M.o.n M.o.c, .slice M.g.A M.g.n M.g.c, .slice M.s.A M.s.n M.s.c, .slice M.m.A M.m.n M.m.c]] w fun e w' => e = .returned (erS ads (feC (atC (scode x.ls x.ps) x.ss) 8 0 x.ss.length)) ∧ Below w.heap.size w w' := by
  have HB0 := Lib.hid (show Below w.heap.size w (w.alloc (.cells #[.slice M.r.A M.r.n M.r.c, .slice M.l.A M.l.n M.l.c, .slice M.p.A M.p.n M.p.c, .slice M.o.A M.o.n M.o.c, .slice M.g.A M.g.n M.g.c, .slice M.s.A M.s.n M.s.c, .slice M.m.A M.m.n M.m.c] 30)) from (Below.refl _ _).alloc (Nat.le_refl _) _)
  have HK0 := Lib.hid (show Blk (w.alloc (.cells #[.slice M.r.A M.r.n M.r.c, .slice M.l.A M.l.n M.l.c, .slice M.p.A M.p.n M.p.c, .slice M.o.A M.o.n M.o.c, .slice M.g.A M.g.n M.g.c, .slice M.s.A M.s.n M.s.c, .slice M.m.A M.m.n M.m.c] 30)) w.heap.size 30 #[.slice M.r.A M.r.n M.r.c, .slice M.l.A M.l.n M.l.c, .slice M.p.A M.p.n M.p.c, .slice M.o.A M.o.n M.o.c, .slice M.g.A M.g.n M.g.c, .slice M.s.A M.s.n M.s.c, .slice M.m.A M.m.n M.m.c] from Blk.new _ _ _)
  have hn : x.ss.length = M.s.n := h.s.len
  have hF := feSource 176 #[.pointer (some ⟨w.heap.size, 0, none⟩)] (enters_of Tryz.func176 (by kernel_rfl) rfl) ads (atC (scode x.ls x.ps) x.ss) 8 (atC_is (scode_is _ _) _) M.s.A M.s.n M.s.c x.ss (w.alloc (.cells #[.slice M.r.A M.r.n M.r.c, .slice M.l.A M.l.n M.l.c, .slice M.p.A M.p.n M.p.c, .slice M.o.A M.o.n M.o.c, .slice M.g.A M.g.n M.g.c, .slice M.s.A M.s.n M.s.c, .slice M.m.A M.m.n M.m.c] 30)) (IR.next h.s HB0.out) h.sok.2 h.sok.1 (by decide) (hS.below HB0.out)
    (fun W i y hlt hy hb hi => by
      have hm := List.mem_of_getElem? hy
      rw [atC_at hy]
      exact sources1_any ads y.1 y.2.1 y.2.2 M.s.A i M.s.c _ w.heap.size M.l.A M.l.n M.l.c x.ls M.p.A M.p.n M.p.c x.ps W (hS.below (below_next HB0.out hb)) hi (by omega) (h.next (below_next HB0.out hb)).l h.ok.1 (h.next (below_next HB0.out hb)).p h.pok.2 (Blk.cell (HK0.out.next hb) 1) (Blk.cell (HK0.out.next hb) 2) (h.ok.2.2.2.2.1 y hm).1.1 (h.ok.2.2.2.2.1 y hm).1.2 (h.ok.2.2.2.2.1 y hm).2.1 (h.ok.2.2.2.2.1 y hm).2.2)
  rw [hn]
  have HF := Lib.hid hF
  clear hF h hS hn
  generalize feC (atC (scode x.ls x.ps) x.ss) 8 0 M.s.n = q at *
  generalize erS ads q = E at *
  go_enter Tryz.func95, Tryz.ntmps95
  go_wp2_with (go_at_call 175; refine HF.out.mono ?_; rintro e w1 ⟨rfl, hb⟩)
  go_ret
  exact ⟨rfl, below_next HB0.out hb⟩
set_option maxHeartbeats 1000000 in
theorem members_any (ads : List Addr) (M : Cm) (x : Cfg) (w : World) (hS : EnvC ads w) (h : CW w M x) :
    Calls Tryz.prog 96 #[.agg #[.slice M.r.A M.r.n M.r.c, .slice M.l.A M.l.n M.l.c, .slice M.p.A M.p.n M.p.c, .slice M.o.A M.o.n M.o.c, .slice M.g.A M.g.n M.g.c, .slice M.s.A M.s.n M.s.c, .slice M.m.A M.m.n M.m.c]] w fun e w' => e = .returned (erS ads (feC (atC (fun y _ => mcode x.ls.length y) x.ms) 24 0 x.ms.length)) ∧ Below w.heap.size w w' := by
  have HB0 := Lib.hid (show Below w.heap.size w (w.alloc (.cells #[.slice M.r.A M.r.n M.r.c, .slice M.l.A M.l.n M.l.c, .slice M.p.A M.p.n M.p.c, .slice M.o.A M.o.n M.o.c, .slice M.g.A M.g.n M.g.c, .slice M.s.A M.s.n M.s.c, .slice M.m.A M.m.n M.m.c] 30)) from (Below.refl _ _).alloc (Nat.le_refl _) _)
  have HK0 := Lib.hid (show Blk (w.alloc (.cells #[.slice M.r.A M.r.n M.r.c, .slice M.l.A M.l.n M.l.c, .slice M.p.A M.p.n M.p.c, .slice M.o.A M.o.n M.o.c, .slice M.g.A M.g.n M.g.c, .slice M.s.A M.s.n M.s.c, .slice M.m.A M.m.n M.m.c] 30)) w.heap.size 30 #[.slice M.r.A M.r.n M.r.c, .slice M.l.A M.l.n M.l.c, .slice M.p.A M.p.n M.p.c, .slice M.o.A M.o.n M.o.c, .slice M.g.A M.g.n M.g.c, .slice M.s.A M.s.n M.s.c, .slice M.m.A M.m.n M.m.c] from Blk.new _ _ _)
  have hn : x.ms.length = M.m.n := h.m.len
  have hF := feMember 180 #[.pointer (some ⟨w.heap.size, 0, none⟩)] (enters_of Tryz.func180 (by kernel_rfl) rfl) ads (atC (fun y _ => mcode x.ls.length y) x.ms) 24 (atC_is (fun y _ => mcode_is _ y) _) M.m.A M.m.n M.m.c x.ms (w.alloc (.cells #[.slice M.r.A M.r.n M.r.c, .slice M.l.A M.l.n M.l.c, .slice M.p.A M.p.n M.p.c, .slice M.o.A M.o.n M.o.c, .slice M.g.A M.g.n M.g.c, .slice M.s.A M.s.n M.s.c, .slice M.m.A M.m.n M.m.c] 30)) (IR.next h.m HB0.out) h.mok.2 h.mok.1 (by decide) (hS.below HB0.out)
    (fun W i y hlt hy hb hi => by
      have hm := List.mem_of_getElem? hy
      rw [atC_at hy]
      rw [h.l.len]
      exact members1_any ads y.l y.g y.o y.A y.n y.c y.xs M.m.A i M.m.c w.heap.size M.l.A M.l.n M.l.c W (hS.below (below_next HB0.out hb)) ((h.next (below_next HB0.out hb)).src y hm).1 (h.src y hm).2.2 (h.src y hm).2.1 (Blk.cell (HK0.out.next hb) 1) (h.ok.2.2.2.2.2 y hm).1 (h.ok.2.2.2.2.2 y hm).2)
  rw [hn]
  have HF := Lib.hid hF
  clear hF h hS hn
  generalize feC (atC (fun y _ => mcode x.ls.length y) x.ms) 24 0 M.m.n = q at *
  generalize erS ads q = E at *
  go_enter Tryz.func96, Tryz.ntmps96
  go_wp2_with (go_at_call 179; refine HF.out.mono ?_; rintro e w1 ⟨rfl, hb⟩)
  go_ret
  exact ⟨rfl, below_next HB0.out hb⟩
theorem checks_at (ads : List Addr) (M : Cm) (x : Cfg) (w : World) (hS : EnvC ads w) (h : CW w M x) (k : Nat) (hk : k < 7) : ∃ g q, (#[.func (.func 90) #[] #[], .func (.func 91) #[] #[], .func (.func 92) #[] #[], .func (.func 93) #[] #[], .func (.func 94) #[] #[], .func (.func 95) #[] #[], .func (.func 96) #[] #[]] : Array Value)[k]? = some (.func (.func g) #[] #[]) ∧ (∀ args w, (callFunc g args).run Tryz.prog w = .ok (.enter g args) w) ∧ (vlist x)[k]? = some q ∧
    ∀ W, Below w.heap.size w W → Calls Tryz.prog g #[.agg #[.slice M.r.A M.r.n M.r.c, .slice M.l.A M.l.n M.l.c, .slice M.p.A M.p.n M.p.c, .slice M.o.A M.o.n M.o.c, .slice M.g.A M.g.n M.g.c, .slice M.s.A M.s.n M.s.c, .slice M.m.A M.m.n M.m.c]] W fun e w' => e = .returned (erS ads q) ∧ Below W.heap.size W w' := by
  match k, hk with
  | 0, _ => exact ⟨90, _, rfl, enters_of Tryz.func90 (by kernel_rfl) rfl, rfl, fun W hb => routers_any ads M x W (hS.below hb) (h.next hb)⟩
  | 1, _ => exact ⟨91, _, rfl, enters_of Tryz.func91 (by kernel_rfl) rfl, rfl, fun W hb => links_any ads M x W (hS.below hb) (h.next hb)⟩
  | 2, _ => exact ⟨92, _, rfl, enters_of Tryz.func92 (by kernel_rfl) rfl, rfl, fun W hb => ports_any ads M x W (hS.below hb) (h.next hb)⟩
  | 3, _ => exact ⟨93, _, rfl, enters_of Tryz.func93 (by kernel_rfl) rfl, rfl, fun W hb => routes_any ads M x W (hS.below hb) (h.next hb)⟩
  | 4, _ => exact ⟨94, _, rfl, enters_of Tryz.func94 (by kernel_rfl) rfl, rfl, fun W hb => ranges_any ads M x W (hS.below hb) (h.next hb)⟩
  | 5, _ => exact ⟨95, _, rfl, enters_of Tryz.func95 (by kernel_rfl) rfl, rfl, fun W hb => sources_any ads M x W (hS.below hb) (h.next hb)⟩
  | 6, _ => exact ⟨96, _, rfl, enters_of Tryz.func96 (by kernel_rfl) rfl, rfl, fun W hb => members_any ads M x W (hS.below hb) (h.next hb)⟩
set_option maxHeartbeats 2000000 in
theorem valid_conf (ads : List Addr) (M : Cm) (x : Cfg) (w : World) (hS : EnvC ads w) (h : CW w M x) :
    Calls Tryz.prog 45 #[.agg #[.slice M.r.A M.r.n M.r.c, .slice M.l.A M.l.n M.l.c, .slice M.p.A M.p.n M.p.c, .slice M.o.A M.o.n M.o.c, .slice M.g.A M.g.n M.g.c, .slice M.s.A M.s.n M.s.c, .slice M.m.A M.m.n M.m.c]] w fun e w' => e = .returned (erS ads (vcode x)) ∧ Below w.heap.size w w' := by
  have HT := Lib.hid (fun k hk => checks_at ads M x w hS h k hk)
  have HL : Hid ((vlist x).length = 7) := rfl
  have HI := Lib.hid (vlist_is x)
  have HV : Hid (vcode x = firstNZ ((vlist x).drop 0)) := rfl
  have HS := Lib.hid hS
  generalize vcode x = vc at *
  generalize vlist x = vl at *
  clear h hS
  have HB0 := Lib.hid (show Below w.heap.size w ((w.alloc (.cells #[.slice M.r.A M.r.n M.r.c, .slice M.l.A M.l.n M.l.c, .slice M.p.A M.p.n M.p.c, .slice M.o.A M.o.n M.o.c, .slice M.g.A M.g.n M.g.c, .slice M.s.A M.s.n M.s.c, .slice M.m.A M.m.n M.m.c] 30)).alloc (.cells #[.func (.func 90) #[] #[], .func (.func 91) #[] #[], .func (.func 92) #[] #[], .func (.func 93) #[] #[], .func (.func 94) #[] #[], .func (.func 95) #[] #[], .func (.func 96) #[] #[]] 107)) from ((Below.refl _ _).alloc (Nat.le_refl _) _).alloc (by simp) _)
  have HK0 := Lib.hid (show Blk ((w.alloc (.cells #[.slice M.r.A M.r.n M.r.c, .slice M.l.A M.l.n M.l.c, .slice M.p.A M.p.n M.p.c, .slice M.o.A M.o.n M.o.c, .slice M.g.A M.g.n M.g.c, .slice M.s.A M.s.n M.s.c, .slice M.m.A M.m.n M.m.c] 30)).alloc (.cells #[.func (.func 90) #[] #[], .func (.func 91) #[] #[], .func (.func 92) #[] #[], .func (.func 93) #[] #[], .func (.func 94) #[] #[], .func (.func 95) #[] #[], .func (.func 96) #[] #[]] 107)) w.heap.size 30 #[.slice M.r.A M.r.n M.r.c, .slice M.l.A M.l.n M.l.c, .slice M.p.A M.p.n M.p.c, .slice M.o.A M.o.n M.o.c, .slice M.g.A M.g.n M.g.c, .slice M.s.A M.s.n M.s.c, .slice M.m.A M.m.n M.m.c] from (Blk.new _ _ _).alloc _)
  have HK1 := Lib.hid (show Blk ((w.alloc (.cells #[.slice M.r.A M.r.n M.r.c, .slice M.l.A M.l.n M.l.c, .slice M.p.A M.p.n M.p.c, .slice M.o.A M.o.n M.o.c, .slice M.g.A M.g.n M.g.c, .slice M.s.A M.s.n M.s.c, .slice M.m.A M.m.n M.m.c] 30)).alloc (.cells #[.func (.func 90) #[] #[], .func (.func 91) #[] #[], .func (.func 92) #[] #[], .func (.func 93) #[] #[], .func (.func 94) #[] #[], .func (.func 95) #[] #[], .func (.func 96) #[] #[]] 107)) (w.heap.size + 1) 107 #[.func (.func 90) #[] #[], .func (.func 91) #[] #[], .func (.func 92) #[] #[], .func (.func 93) #[] #[], .func (.func 94) #[] #[], .func (.func 95) #[] #[], .func (.func 96) #[] #[]] from by have := Blk.new (w.alloc (.cells #[.slice M.r.A M.r.n M.r.c, .slice M.l.A M.l.n M.l.c, .slice M.p.A M.p.n M.p.c, .slice M.o.A M.o.n M.o.c, .slice M.g.A M.g.n M.g.c, .slice M.s.A M.s.n M.s.c, .slice M.m.A M.m.n M.m.c] 30)) 107 #[.func (.func 90) #[] #[], .func (.func 91) #[] #[], .func (.func 92) #[] #[], .func (.func 93) #[] #[], .func (.func 94) #[] #[], .func (.func 95) #[] #[], .func (.func 96) #[] #[]]; rwa [World.size_alloc] at this)
  go_enter Tryz.func45, Tryz.ntmps45
  go_wp2
  generalize ((w.alloc (.cells #[.slice M.r.A M.r.n M.r.c, .slice M.l.A M.l.n M.l.c, .slice M.p.A M.p.n M.p.c, .slice M.o.A M.o.n M.o.c, .slice M.g.A M.g.n M.g.c, .slice M.s.A M.s.n M.s.c, .slice M.m.A M.m.n M.m.c] 30)).alloc (.cells #[.func (.func 90) #[] #[], .func (.func 91) #[] #[], .func (.func 92) #[] #[], .func (.func 93) #[] #[], .func (.func 94) #[] #[], .func (.func 95) #[] #[], .func (.func 96) #[] #[]] 107)) = W0 at *
  go_loopw [8] (fun i wr => ∃ k : Nat, k ≤ 7 ∧ i = .int .i64 k ∧ Hid (vc = firstNZ (vl.drop k)) ∧ Hid (Below W0.heap.size W0 wr)) (fun i _ => 7 - (intOf i).toNat)
  case atStart => exact ⟨0, Nat.zero_le _, rfl, HV, Lib.hid (Below.refl _ _)⟩
  case round =>
    obtain ⟨k, hk, rfl, hv, hbw⟩ := hrel
    rcases Nat.lt_or_ge k 7 with hlt | hge
    · obtain ⟨g, q, hg, eg, hq, hC⟩ := HT.out k hlt
      have hi0 : (k : Int) < 7 := by omega
      have hf : wr.cell? ⟨w.heap.size + 1, k, none⟩ = some (.func (.func g) #[] #[]) := by rw [(HK1.out.next hbw.out).cell k]; exact hg
      have y0 : wr.cell? ⟨w.heap.size, 0, none⟩ = some (.slice M.r.A M.r.n M.r.c) := Blk.cell (HK0.out.next hbw.out) 0
      have y1 : wr.cell? ⟨w.heap.size, 1, none⟩ = some (.slice M.l.A M.l.n M.l.c) := Blk.cell (HK0.out.next hbw.out) 1
      have y2 : wr.cell? ⟨w.heap.size, 2, none⟩ = some (.slice M.p.A M.p.n M.p.c) := Blk.cell (HK0.out.next hbw.out) 2
      have y3 : wr.cell? ⟨w.heap.size, 3, none⟩ = some (.slice M.o.A M.o.n M.o.c) := Blk.cell (HK0.out.next hbw.out) 3
      have y4 : wr.cell? ⟨w.heap.size, 4, none⟩ = some (.slice M.g.A M.g.n M.g.c) := Blk.cell (HK0.out.next hbw.out) 4
      have y5 : wr.cell? ⟨w.heap.size, 5, none⟩ = some (.slice M.s.A M.s.n M.s.c) := Blk.cell (HK0.out.next hbw.out) 5
      have y6 : wr.cell? ⟨w.heap.size, 6, none⟩ = some (.slice M.m.A M.m.n M.m.c) := Blk.cell (HK0.out.next hbw.out) 6
      have HC := Lib.hid (hC wr (below_next HB0.out hbw.out))
      have HQ := Lib.hid (drop_at hq)
      have hcq := HI.out q (List.mem_of_getElem? hq)
      clear hg hC hq HT
      rcases hcq with rfl | ⟨j, hj, rfl⟩
      · have e0 : erS ads 0 = .nilIface := rfl
        rw [e0] at HC
        clear e0
        go_wp2_with (go_at_fn g; refine HC.out.mono ?_; rintro e w1 ⟨rfl, hb⟩; have HB1 := Lib.hid (below_next hbw.out hb); clear hb)
        go_roundw
        case rel => exact ⟨k + 1, by omega, by go_num, Lib.hid (by rw [hv.out, HQ.out, firstNZ_next rfl]), HB1⟩
        case measure => simp [intOf]; omega
      · obtain ⟨a, _, ha⟩ := erS_at HS.out hj
        have HN := Lib.hid (show (101 + (j : Int)) ≠ 0 by omega)
        rw [ha] at HC
        have HA := Lib.hid ha
        unfold ev at HC
        clear ha
        go_wp2_with (go_at_fn g; refine HC.out.mono ?_; rintro e w1 ⟨rfl, hb⟩; have HB1 := Lib.hid (below_next hbw.out hb); clear hb)
        go_ret
        exact ⟨by rw [hv.out, HQ.out, firstNZ_here HN.out, HA.out]; rfl, below_next HB0.out HB1.out⟩
    · obtain rfl : k = 7 := by omega
      have HE : Hid (vc = 0) := by
        show _ = _
        rw [hv.out, List.drop_of_length_le (by rw [HL.out]; omega)]; rfl
      clear hv
      go_wp2
      go_ret
      exact ⟨by rw [HE.out]; rfl, below_next HB0.out hbw.out⟩
end Go.Proofs.YtdljpokhcfhhfaaGreatDoor

