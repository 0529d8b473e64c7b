/-
  Facts of the whole program that every claim here wants.
-/
import Derived.Test.YtocaphcnnmcnjaaGreatDoorM11
namespace Go.Proofs.YtocaphcnnmcnjaaGreatDoor
open Go.ChangeShapes Go.WideShapes Go.ChangeAt Go.RowKit
theorem factMayEnter : Tryz.prog.mayEnter = true := by kernel_rfl
end Go.Proofs.YtocaphcnnmcnjaaGreatDoor
