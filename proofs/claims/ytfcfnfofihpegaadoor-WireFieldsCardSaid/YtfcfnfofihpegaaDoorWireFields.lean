/- WireFields, walked. -/
import Derived.Test.YtfcfnfofihpegaaDoorWireF1
import Derived.Test.YtfcfnfofihpegaaDoorWireF2
namespace Go.Proofs.YtfcfnfofihpegaaDoor
open Go.RowKit Sm
theorem law_fields (er : Int → Value) (x y g : Int) (w : World) (hE : EnvV er w) (h0 : 0 ≤ g) (h1 : g ≤ 4294967295) :
    Calls Tryd.prog 7 #[.int .i64 x, .int .i64 y, .int .u32 g] w fun e w' => e = .returned (.bool true) ∧ Below w.heap.size w w' := by
  have hx : x % 5 = 0 ∨ x % 5 = 1 ∨ x % 5 = 2 ∨ x % 5 = 3 ∨ x % 5 = 4 := by omega
  rcases hx with hx | hx | hx | hx | hx
  · exact fields_1 er x y g w hE h0 h1 hx
  · exact fields_2 er x y g w hE h0 h1 hx
  · exact fields_3 er x y g w hE h0 h1 hx
  · exact fields_4 er x y g w hE h0 h1 hx
  · exact fields_5 er x y g w hE h0 h1 hx
end Go.Proofs.YtfcfnfofihpegaaDoor
