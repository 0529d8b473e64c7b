/-
  Facts of the whole program that every claim here wants.
-/
import Derived.Test.YtocaphcnnmcnjaaGreatDoorM11
namespace Go.Proofs.YtocaphcnnmcnjaaGreatDoor
open Go.ChangeShapes Go.WideShapes Go.ChangeAt Go.RowKit
theorem factLaidOut : laidOutB Tryz.prog = true := by kernel_rfl
theorem factMaps : mapsRowed Tryz.prog = true := by kernel_rfl
theorem factPlain : Tryz.prog.plainKeys = Rows.panelDigitsMatchSpecRow.plainKeys := by kernel_rfl
theorem factHeard : Tryz.prog.stopsHeard = true := by kernel_rfl
end Go.Proofs.YtocaphcnnmcnjaaGreatDoor
