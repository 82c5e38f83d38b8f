/- What the laws of want share: a port's cells, how many rows, how many ports out. -/
import Derived.Test.YtfidicbknjoafaaGreatDoorQYx
namespace Go.Proofs.YtfidicbknjoafaaGreatDoor
open Go.RowKit Lx Sm Go.Maps
theorem rows_len (x:Cfg) (r:Int) (own:List Int) (hs:List (Int × Int × Int)) (ok:LtOK x):(rowsP x r own hs).length≤hs.length+5:=by
 unfold rowsP rowKeys
 rw[List.length_map]
 have h1:=keysS_len (heardK own hs++askK x r own hs)
 rw[List.length_append]at h1
 have h2:(heardK own hs).length≤hs.length:=by unfold heardK;rw[List.length_map];exact List.length_filter_le _ _
 have h3:(askK x r own hs).length≤5:=by
  unfold askK
  refine Nat.le_trans (List.length_filter_le _ _) ?_
  have:=keysS_len (sentP x)
  rw[sentP_len]at this
  have:=ok.sl
  omega
 omega
theorem riseF_len:∀ (l l0:List Int),(l.foldl withI l0).length≤l0.length+l.length
 | [],_=>by simp
 | b :: l,l0=>by
  have h1:=riseF_len l (withI l0 b)
  have h2:=withI_len l0 b
  rw[List.foldl_cons,List.length_cons]
  omega
theorem outP_len (i:Int) (l m:List Int):(outP i l m).length≤l.length+m.length:=by
 unfold outP riseI
 refine Nat.le_trans (List.length_filter_le _ _) ?_
 have:=riseF_len (l++m) []
 rw[List.length_append,List.length_nil]at this
 omega
end Go.Proofs.YtfidicbknjoafaaGreatDoor
