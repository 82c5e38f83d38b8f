/- AddrSays: for every text, every address, every two prefixes and every number of bits the law returns true. -/
import Derived.Test.YtcnkbhmhbbpmhaaDoorSays1
import Derived.Test.YtcnkbhmhbbpmhaaDoorSays0
namespace Go.Proofs.YtcnkbhmhbbpmhaaDoor
open Go.RowKit
set_option maxRecDepth 100000 in
set_option maxHeartbeats 1000000 in
theorem says_long (s : ByteArray) (a pa pb qa qb n : Int) (w : World) (hs : 60 < s.size) (hT : EnvT w) :
    Calls Tryd.prog 3 #[.string s, .int .u32 a, .agg #[.int .u32 pa, .int .i64 pb], .agg #[.int .u32 qa, .int .i64 qb], .int .i64 n] w fun e w' => e = .returned (.bool true) ∧ Below w.heap.size w w' := by
  have HT := Lib.hid hT
  clear hT
  have hW := ((Below.refl w.heap.size w).alloc (Nat.le_refl _) (.cells #[.int .u32 pa, .int .i64 pb] 25)).alloc (by simp) (.cells #[.int .u32 qa, .int .i64 qb] 25)
  have HW0 := Lib.hid hW
  clear hW
  go_enter Tryd.func3, Tryd.ntmps3
  go_wp2_with fail
  refine (first_any _ (HT.out.below HW0.out)).mono ?_
  rintro e w1 ⟨rfl, hb⟩
  have HW1 := Lib.hid (HW0.out.trans (hb.mono HW0.out.size))
  clear hb HW0
  go_wp2
  go_ret
  exact ⟨rfl, HW1.out⟩
theorem law_says (s : ByteArray) (a pa pb qa qb n : Int) (ads : List Addr) (b : Addr) (w : World) (hT : EnvT w) (hE : EnvP (ev b) w) (hS : EnvS ads w) (hb : ads[7]? = some b)
    (a0 : 0 ≤ a) (a1 : a ≤ 4294967295) (p0 : 0 ≤ pa) (p1 : pa ≤ 4294967295) (q0 : 0 ≤ qa) (q1 : qa ≤ 4294967295) :
    Calls Tryd.prog 3 #[.string s, .int .u32 a, .agg #[.int .u32 pa, .int .i64 pb], .agg #[.int .u32 qa, .int .i64 qb], .int .i64 n] w fun e w' => e = .returned (.bool true) ∧ Below w.heap.size w w' := by
  by_cases hs : s.size ≤ 60
  · by_cases hv : Ad.valid qa qb = true
    · exact says_1 s a pa pb qa qb n ads b w hs hT hE hS hb a0 a1 p0 p1 q0 q1 hv
    · exact says_0 s a pa pb qa qb n ads b w hs hT hE hS hb a0 a1 p0 p1 q0 q1 (by simpa using hv)
  · exact says_long s a pa pb qa qb n w (by omega) hT
end Go.Proofs.YtcnkbhmhbbpmhaaDoor
