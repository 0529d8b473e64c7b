/-
  Facts of the whole program that every claim here wants.
-/
import Derived.Test.YtjlokobgdkkppaaDoorSLiftD
namespace Go.Proofs.YtjlokobgdkkppaaDoor
open Go.ChangeShapes Go.WideShapes Go.ChangeAt Go.RowKit
theorem factMayEnter : Tryd.prog.mayEnter = true := by kernel_rfl
end Go.Proofs.YtjlokobgdkkppaaDoor
