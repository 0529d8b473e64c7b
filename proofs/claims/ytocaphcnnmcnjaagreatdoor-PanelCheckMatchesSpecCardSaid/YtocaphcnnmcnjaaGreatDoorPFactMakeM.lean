/-
  Facts of the whole program that every claim here wants.
-/
import Derived.Test.YtocaphcnnmcnjaaGreatDoorM11
namespace Go.Proofs.YtocaphcnnmcnjaaGreatDoor
open Go.ChangeShapes Go.WideShapes Go.ChangeAt Go.RowKit
theorem factMake : Tryz.prog.make = some Rows.panelDigitsMatchSpecRow.make := by kernel_rfl
end Go.Proofs.YtocaphcnnmcnjaaGreatDoor
