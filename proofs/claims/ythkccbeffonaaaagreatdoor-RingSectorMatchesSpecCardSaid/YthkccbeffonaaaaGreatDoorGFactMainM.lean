/-
  A fact of the whole program that every claim wants: mainIs.
-/
import Derived.Test.YthkccbeffonaaaaGreatDoorM7
namespace Go.Proofs.YthkccbeffonaaaaGreatDoor
open Go.ChangeShapes Go.WideShapes Go.ChangeAt Go.RowKit
theorem factMain : Tryz.prog.mainIs = some (Rows.ringTargetsMatchSpecCard.stood.harness.1, Rows.ringTargetsMatchSpecCard.stood.harness.2.toList) := by kernel_rfl
end Go.Proofs.YthkccbeffonaaaaGreatDoor
