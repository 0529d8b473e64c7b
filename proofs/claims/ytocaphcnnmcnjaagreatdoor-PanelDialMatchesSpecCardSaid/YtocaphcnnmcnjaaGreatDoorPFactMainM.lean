/-
  Facts of the whole program that every claim here wants.
-/
import Derived.Test.YtocaphcnnmcnjaaGreatDoorM11
namespace Go.Proofs.YtocaphcnnmcnjaaGreatDoor
open Go.ChangeShapes Go.WideShapes Go.ChangeAt Go.RowKit
theorem factMain : Tryz.prog.mainIs = some (Rows.panelDigitsMatchSpecCard.stood.harness.1, Rows.panelDigitsMatchSpecCard.stood.harness.2.toList) := by kernel_rfl
end Go.Proofs.YtocaphcnnmcnjaaGreatDoor
