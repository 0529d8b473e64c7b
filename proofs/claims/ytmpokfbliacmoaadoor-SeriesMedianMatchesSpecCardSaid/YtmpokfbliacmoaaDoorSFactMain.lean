/-
  Facts of the whole program that every claim here wants.
-/
import Derived.Test.YtmpokfbliacmoaaDoorSLiftD
namespace Go.Proofs.YtmpokfbliacmoaaDoor
open Go.ChangeShapes Go.WideShapes Go.ChangeAt Go.RowKit
theorem factMain : Tryd.prog.mainIs = some (Rows.seriesMedianMatchesSpecCard.stood.harness.1, Rows.seriesMedianMatchesSpecCard.stood.harness.2.toList) := by kernel_rfl
end Go.Proofs.YtmpokfbliacmoaaDoor
