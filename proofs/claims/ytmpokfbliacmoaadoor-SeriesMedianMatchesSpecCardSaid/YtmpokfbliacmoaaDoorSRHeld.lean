/-
  What is held at a time, the reference's: contracts.
-/
import Derived.Test.YtmpokfbliacmoaaDoorSHold
import Derived.Test.YtmpokfbliacmoaaDoorSRSer
namespace Go.Proofs.YtmpokfbliacmoaaDoor
open Go.RowKit
-- AT2

theorem Rsolid_any (m : Int) (w : World) : Calls Tryd.prog 28 #[.int .i64 m] w fun e w' => e = .returned (.bool (decide (3 ≤ m))) ∧ w = w' := by
  go_enter Tryd.func28, Tryd.ntmps28
  go_wp2
  go_ret
  exact ⟨rfl, rfl⟩
end Go.Proofs.YtmpokfbliacmoaaDoor
