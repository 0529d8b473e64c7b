/-
  Facts of the whole program that every claim here wants.
-/
import Derived.Test.YtikgfidpdghkpaaDoorSLiftD
namespace Go.Proofs.YtikgfidpdghkpaaDoor
open Go.ChangeShapes Go.WideShapes Go.ChangeAt Go.RowKit
theorem factMake : Tryd.prog.make = some Rows.seriesCombineMatchesSpecRow.make := by kernel_rfl
end Go.Proofs.YtikgfidpdghkpaaDoor
