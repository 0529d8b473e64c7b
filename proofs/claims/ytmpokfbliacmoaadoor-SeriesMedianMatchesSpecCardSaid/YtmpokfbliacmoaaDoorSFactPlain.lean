/-
  Facts of the whole program that every claim here wants.
-/
import Derived.Test.YtmpokfbliacmoaaDoorSLiftD
namespace Go.Proofs.YtmpokfbliacmoaaDoor
open Go.ChangeShapes Go.WideShapes Go.ChangeAt Go.RowKit
theorem factLaidOut : laidOutB Tryd.prog = true := by kernel_rfl
theorem factMaps : mapsRowed Tryd.prog = true := by kernel_rfl
theorem factPlain : Tryd.prog.plainKeys = Rows.seriesMedianMatchesSpecRow.plainKeys := by kernel_rfl
theorem factHeard : Tryd.prog.stopsHeard = true := by kernel_rfl
end Go.Proofs.YtmpokfbliacmoaaDoor
