/-
  Facts of the whole program that every claim here wants.
-/
import Derived.Test.YtjlokobgdkkppaaDoorSLiftD
namespace Go.Proofs.YtjlokobgdkkppaaDoor
open Go.ChangeShapes Go.WideShapes Go.ChangeAt Go.RowKit
theorem factMain : Tryd.prog.mainIs = some (Rows.seriesCalibrateMatchesSpecCard.stood.harness.1, Rows.seriesCalibrateMatchesSpecCard.stood.harness.2.toList) := by kernel_rfl
end Go.Proofs.YtjlokobgdkkppaaDoor
