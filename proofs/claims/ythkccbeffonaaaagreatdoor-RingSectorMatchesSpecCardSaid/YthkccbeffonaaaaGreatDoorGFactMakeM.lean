/-
  A fact of the whole program that every claim wants: make.
-/
import Derived.Test.YthkccbeffonaaaaGreatDoorM7
namespace Go.Proofs.YthkccbeffonaaaaGreatDoor
open Go.ChangeShapes Go.WideShapes Go.ChangeAt Go.RowKit
theorem factMake : Tryz.prog.make = some Rows.ringTargetsMatchSpecRow.make := by kernel_rfl
end Go.Proofs.YthkccbeffonaaaaGreatDoor
