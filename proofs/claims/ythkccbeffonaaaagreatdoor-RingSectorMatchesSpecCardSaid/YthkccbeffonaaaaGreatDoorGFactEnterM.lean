/-
  A fact of the whole program that every claim wants: mayEnter. (Each of these facts takes the kernel 7 GB: hence a file of its own.)
-/
import Derived.Test.YthkccbeffonaaaaGreatDoorM7
namespace Go.Proofs.YthkccbeffonaaaaGreatDoor
open Go.ChangeShapes Go.WideShapes Go.ChangeAt Go.RowKit
theorem factMayEnter : Tryz.prog.mayEnter = true := by kernel_rfl
end Go.Proofs.YthkccbeffonaaaaGreatDoor
