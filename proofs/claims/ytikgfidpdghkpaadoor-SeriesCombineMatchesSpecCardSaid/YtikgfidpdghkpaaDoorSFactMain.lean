/-
  Facts of the whole program that every claim here wants.
-/
import Derived.Test.YtikgfidpdghkpaaDoorSLiftD
namespace Go.Proofs.YtikgfidpdghkpaaDoor
open Go.ChangeShapes Go.WideShapes Go.ChangeAt Go.RowKit
theorem factMain : Tryd.prog.mainIs = some (Rows.seriesCombineMatchesSpecCard.stood.harness.1, Rows.seriesCombineMatchesSpecCard.stood.harness.2.toList) := by kernel_rfl
end Go.Proofs.YtikgfidpdghkpaaDoor
