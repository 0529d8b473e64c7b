/-
  Facts of the whole program that every claim here wants.
-/
import Derived.Test.YtjlokobgdkkppaaDoorSLiftD
namespace Go.Proofs.YtjlokobgdkkppaaDoor
open Go.ChangeShapes Go.WideShapes Go.ChangeAt Go.RowKit
theorem factLifts : Tryd.prog.liftsFinal = Rows.seriesCalibrateMatchesSpecRow.lifted := by kernel_rfl
end Go.Proofs.YtjlokobgdkkppaaDoor
