/-
  What the table of types says of a byte.
-/
import Derived.Test.YtllahhmonoedmaaDoorToBytes
namespace Go.Proofs.YtllahhmonoedmaaDoor
open Go.RowKit

theorem info8 : ∃ i, Tryd.prog.info? 5 = some i ∧ i.size = 1 := by
  have h : (Tryd.prog.info? 5).map (·.size) = some 1 := by kernel_rfl
  obtain ⟨i, h1, h2⟩ := Option.map_eq_some_iff.1 h
  exact ⟨i, h1, h2⟩
end Go.Proofs.YtllahhmonoedmaaDoor
