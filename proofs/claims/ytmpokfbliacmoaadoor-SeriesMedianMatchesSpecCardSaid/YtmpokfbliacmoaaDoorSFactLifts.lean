/-
  Facts of the whole program that every claim here wants.
-/
import Derived.Test.YtmpokfbliacmoaaDoorSLiftD
namespace Go.Proofs.YtmpokfbliacmoaaDoor
open Go.ChangeShapes Go.WideShapes Go.ChangeAt Go.RowKit
theorem factLifts : Tryd.prog.liftsFinal = Rows.seriesMedianMatchesSpecRow.lifted := by kernel_rfl
end Go.Proofs.YtmpokfbliacmoaaDoor
