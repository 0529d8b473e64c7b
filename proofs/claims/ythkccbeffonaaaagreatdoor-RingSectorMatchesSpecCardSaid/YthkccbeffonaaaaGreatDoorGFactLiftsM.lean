/-
  A fact of the whole program that every claim wants: liftsFinal.
-/
import Derived.Test.YthkccbeffonaaaaGreatDoorM7
namespace Go.Proofs.YthkccbeffonaaaaGreatDoor
open Go.ChangeShapes Go.WideShapes Go.ChangeAt Go.RowKit
theorem factLifts : Tryz.prog.liftsFinal = Rows.ringTargetsMatchSpecRow.lifted := by kernel_rfl
end Go.Proofs.YthkccbeffonaaaaGreatDoor
