/-
  Fractions as they stand.
-/
import Derived.Test.YtikgfidpdghkpaaDoorSRatP
import Derived.Test.YtikgfidpdghkpaaDoorSLeaf
namespace Go.Proofs.YtikgfidpdghkpaaDoor
open Go.RowKit
abbrev ratV (n d : Int) : Value := .agg #[.int .i64 n, .int .i64 d]
end Go.Proofs.YtikgfidpdghkpaaDoor
