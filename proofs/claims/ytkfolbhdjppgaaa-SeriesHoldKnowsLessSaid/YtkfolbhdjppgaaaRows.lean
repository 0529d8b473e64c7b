/-
  No cell of these rows narrows 'for every input' (looked for: loops, veiled, ifaces, maps, wideKeys, modest, calm, conditions, laid).
  DERIVED. THE GIVEN ROWS OF THIS SEAT. 5 by the template 'for every input the law returns true; each argument reads behind the call as it read before'; 0 by the template 'total and deterministic' (their statements: YtkfolbhdjppgaaaTotals.lean).
  GIVEN WITH THE SEED: the statements are not yours to turn. If you find one false, say at which input.
  Laid BY PROGRAM, IN A SANDBOX (cutbox-rows.mjs): the forced cells as the released guide's own fill.sh prints them over the translation 52abd782c47972fb… (all of the seat's roots in one cut). By AI agents, Wed Nov 11 2026. No macro, syntax, notation, axiom, sorry.
-/
import Derived.Test.YtkfolbhdjppgaaaChecked
import GoSem.Claim
import GoSem.ClaimJoined
import GoSem.ClaimMapViews
import Derived.JoinedTies
import Derived.KernelRfl
namespace Go.Proofs.Ytkfolbhdjppgaaa
/- THE CELL 'sum', in the pinned program and in every row, IS THE sha256 OF THE DUMP (.gsa) THAT YtkfolbhdjppgaaaProg.lean LOADS. Nothing in Lean hashes anything: it is a label: what it is worth is what the hold of that sum in a sandbox is worth. -/
noncomputable def Try.pinned : Pinned := { name := "ytkfolbhdjppgaaa", sum := "52abd782c47972fb949e8e272b17c90865fa6c50e534f7ad0a7bd7cc99fe5169", checked := Try.checked }
namespace Rows
def none {H : Type} : Left H := { results := [], args := [] }

/-- 'orangeboxlaw5.SeriesCalibrationMatchesSpec': WHATEVER THE INPUT: true; the input reads as it did. -/
def seriesCalibrationMatchesSpecSpec : ChangeSpec := { name := "seriesCalibrationMatchesSpec", fn := fun _ => fun
  | [d1, d2, d3] => { results := [.lit (.bool true)], args := [d1, d2, d3] }
  | _ => none }
def seriesCalibrationMatchesSpecRow : OpenClaim := { program := "ytkfolbhdjppgaaa", sum := "52abd782c47972fb949e8e272b17c90865fa6c50e534f7ad0a7bd7cc99fe5169", func := "orangebox/orangeboxlaw5.SeriesCalibrationMatchesSpec", spec := "seriesCalibrationMatchesSpec", unfollowed := true, recurses := true, apart := false }
def SeriesCalibrationMatchesSpecSaid : Prop := seriesCalibrationMatchesSpecRow.holds Try.pinned (OpenSpec.ofChange seriesCalibrationMatchesSpecSpec)

/-- ITS FALSE NEIGHBOUR: 'it returns false'. Refute it at one input. -/
def seriesCalibrationMatchesSpecWrong : ChangeSpec := { name := "seriesCalibrationMatchesSpec", fn := fun _ => fun
  | [d1, d2, d3] => { results := [.lit (.bool false)], args := [d1, d2, d3] }
  | _ => none }
def SeriesCalibrationMatchesSpecWrongFalsely : Prop := seriesCalibrationMatchesSpecRow.holds Try.pinned (OpenSpec.ofChange seriesCalibrationMatchesSpecWrong)

/-- 'orangeboxlaw5.SeriesNearestIsNearest': WHATEVER THE INPUT: true; the input reads as it did. -/
def seriesNearestIsNearestSpec : ChangeSpec := { name := "seriesNearestIsNearest", fn := fun _ => fun
  | [d1, d2, d3] => { results := [.lit (.bool true)], args := [d1, d2, d3] }
  | _ => none }
def seriesNearestIsNearestRow : OpenClaim := { program := "ytkfolbhdjppgaaa", sum := "52abd782c47972fb949e8e272b17c90865fa6c50e534f7ad0a7bd7cc99fe5169", func := "orangebox/orangeboxlaw5.SeriesNearestIsNearest", spec := "seriesNearestIsNearest", unfollowed := true, recurses := true, apart := false }
def SeriesNearestIsNearestSaid : Prop := seriesNearestIsNearestRow.holds Try.pinned (OpenSpec.ofChange seriesNearestIsNearestSpec)

/-- ITS FALSE NEIGHBOUR: 'it returns false'. Refute it at one input. -/
def seriesNearestIsNearestWrong : ChangeSpec := { name := "seriesNearestIsNearest", fn := fun _ => fun
  | [d1, d2, d3] => { results := [.lit (.bool false)], args := [d1, d2, d3] }
  | _ => none }
def SeriesNearestIsNearestWrongFalsely : Prop := seriesNearestIsNearestRow.holds Try.pinned (OpenSpec.ofChange seriesNearestIsNearestWrong)

/-- 'orangeboxlaw5.SeriesHoldMatchesSpec': WHATEVER THE INPUT: true; the input reads as it did. -/
def seriesHoldMatchesSpecSpec : ChangeSpec := { name := "seriesHoldMatchesSpec", fn := fun _ => fun
  | [d1, d2, d3] => { results := [.lit (.bool true)], args := [d1, d2, d3] }
  | _ => none }
def seriesHoldMatchesSpecRow : OpenClaim := { program := "ytkfolbhdjppgaaa", sum := "52abd782c47972fb949e8e272b17c90865fa6c50e534f7ad0a7bd7cc99fe5169", func := "orangebox/orangeboxlaw5.SeriesHoldMatchesSpec", spec := "seriesHoldMatchesSpec", inPlace := ["math/bits.Add64", "math/bits.Sub64"], unfollowed := true, recurses := true, named := ["math/bits.divideError", "math/bits.overflowError"], apart := false }
def SeriesHoldMatchesSpecSaid : Prop := seriesHoldMatchesSpecRow.holds Try.pinned (OpenSpec.ofChange seriesHoldMatchesSpecSpec)

/-- ITS FALSE NEIGHBOUR: 'it returns false'. Refute it at one input. -/
def seriesHoldMatchesSpecWrong : ChangeSpec := { name := "seriesHoldMatchesSpec", fn := fun _ => fun
  | [d1, d2, d3] => { results := [.lit (.bool false)], args := [d1, d2, d3] }
  | _ => none }
def SeriesHoldMatchesSpecWrongFalsely : Prop := seriesHoldMatchesSpecRow.holds Try.pinned (OpenSpec.ofChange seriesHoldMatchesSpecWrong)

/-- 'orangeboxlaw5.SeriesHoldKnowsLess': WHATEVER THE INPUT: true; the input reads as it did. -/
def seriesHoldKnowsLessSpec : ChangeSpec := { name := "seriesHoldKnowsLess", fn := fun _ => fun
  | [d1, d2, d3, d4] => { results := [.lit (.bool true)], args := [d1, d2, d3, d4] }
  | _ => none }
def seriesHoldKnowsLessRow : OpenClaim := { program := "ytkfolbhdjppgaaa", sum := "52abd782c47972fb949e8e272b17c90865fa6c50e534f7ad0a7bd7cc99fe5169", func := "orangebox/orangeboxlaw5.SeriesHoldKnowsLess", spec := "seriesHoldKnowsLess", unfollowed := true, recurses := true, apart := false }
def SeriesHoldKnowsLessSaid : Prop := seriesHoldKnowsLessRow.holds Try.pinned (OpenSpec.ofChange seriesHoldKnowsLessSpec)

/-- ITS FALSE NEIGHBOUR: 'it returns false'. Refute it at one input. -/
def seriesHoldKnowsLessWrong : ChangeSpec := { name := "seriesHoldKnowsLess", fn := fun _ => fun
  | [d1, d2, d3, d4] => { results := [.lit (.bool false)], args := [d1, d2, d3, d4] }
  | _ => none }
def SeriesHoldKnowsLessWrongFalsely : Prop := seriesHoldKnowsLessRow.holds Try.pinned (OpenSpec.ofChange seriesHoldKnowsLessWrong)

/-- 'orangeboxlaw5.SeriesMeanMatchesSpec': WHATEVER THE INPUT: true; the input reads as it did. -/
def seriesMeanMatchesSpecSpec : ChangeSpec := { name := "seriesMeanMatchesSpec", fn := fun _ => fun
  | [d1, d2, d3, d4] => { results := [.lit (.bool true)], args := [d1, d2, d3, d4] }
  | _ => none }
def seriesMeanMatchesSpecRow : OpenClaim := { program := "ytkfolbhdjppgaaa", sum := "52abd782c47972fb949e8e272b17c90865fa6c50e534f7ad0a7bd7cc99fe5169", func := "orangebox/orangeboxlaw5.SeriesMeanMatchesSpec", spec := "seriesMeanMatchesSpec", inPlace := ["math/bits.Add64", "math/bits.Sub64"], unfollowed := true, recurses := true, named := ["math/bits.divideError", "math/bits.overflowError"], apart := false }
def SeriesMeanMatchesSpecSaid : Prop := seriesMeanMatchesSpecRow.holds Try.pinned (OpenSpec.ofChange seriesMeanMatchesSpecSpec)

/-- ITS FALSE NEIGHBOUR: 'it returns false'. Refute it at one input. -/
def seriesMeanMatchesSpecWrong : ChangeSpec := { name := "seriesMeanMatchesSpec", fn := fun _ => fun
  | [d1, d2, d3, d4] => { results := [.lit (.bool false)], args := [d1, d2, d3, d4] }
  | _ => none }
def SeriesMeanMatchesSpecWrongFalsely : Prop := seriesMeanMatchesSpecRow.holds Try.pinned (OpenSpec.ofChange seriesMeanMatchesSpecWrong)

/- THE SECOND FORM. 'bulk': how many values and letters a reading holds, each counted each time it is reached (what is shared counts as often as it is met; a slice's spare places count too). A statement '..UptoSaid' is the law's where the arguments, and the package variables that the reading takes, are together of bulk at most 1048576: NARROWER than '..Said'. Prove '..Said' where nothing that the law and all that it calls make is longer than what came in: it says more and counts as full. Else prove '..UptoSaid'. A law counts once. -/
mutual
def uptoBulk {H : Type} : DataW H → Nat
  | .lit (.string bytes) => bytes.length + 1
  | .lit _ => 1
  | .nil => 1
  | .ptr d => uptoBulk d + 1
  | .slice elems spare => uptoBulkAll elems + uptoBulkAll spare + 1
  | .agg parts => uptoBulkAll parts + 1
  | .iface _ d => uptoBulk d + 1
  | .map entries => uptoBulkEntries entries + 1
  | .held _ => 1
def uptoBulkAll {H : Type} : List (DataW H) → Nat
  | [] => 0
  | d :: r => uptoBulk d + uptoBulkAll r
def uptoBulkEntries {H : Type} : List (Lit × DataW H) → Nat
  | [] => 0
  | x :: r => uptoBulkEntry x + uptoBulkEntries r
def uptoBulkEntry {H : Type} : Lit × DataW H → Nat
  | (.string bytes, d) => bytes.length + uptoBulk d + 1
  | (_, d) => uptoBulk d + 1
 end
def uptoSmall : (H : Type) → List (DataW H) → Bool := fun _ ds => decide (uptoBulkAll ds ≤ 1048576)
def OpenSpec.upto (s : _root_.Go.ChangeSpec) : _root_.Go.OpenSpec := { _root_.Go.OpenSpec.ofChange s with cond := some uptoSmall }

/-- 'orangeboxlaw5.SeriesCalibrationMatchesSpec', WHERE WHAT IT READS IS OF BULK AT MOST 1048576: true; the input reads as it did. -/
def seriesCalibrationMatchesSpecUptoRow : OpenClaim := { program := "ytkfolbhdjppgaaa", sum := "52abd782c47972fb949e8e272b17c90865fa6c50e534f7ad0a7bd7cc99fe5169", func := "orangebox/orangeboxlaw5.SeriesCalibrationMatchesSpec", spec := "seriesCalibrationMatchesSpec", unfollowed := true, recurses := true, apart := false, narrowed := true }
def SeriesCalibrationMatchesSpecUptoSaid : Prop := seriesCalibrationMatchesSpecUptoRow.holds Try.pinned (OpenSpec.upto seriesCalibrationMatchesSpecSpec)

/-- 'orangeboxlaw5.SeriesNearestIsNearest', WHERE WHAT IT READS IS OF BULK AT MOST 1048576: true; the input reads as it did. -/
def seriesNearestIsNearestUptoRow : OpenClaim := { program := "ytkfolbhdjppgaaa", sum := "52abd782c47972fb949e8e272b17c90865fa6c50e534f7ad0a7bd7cc99fe5169", func := "orangebox/orangeboxlaw5.SeriesNearestIsNearest", spec := "seriesNearestIsNearest", unfollowed := true, recurses := true, apart := false, narrowed := true }
def SeriesNearestIsNearestUptoSaid : Prop := seriesNearestIsNearestUptoRow.holds Try.pinned (OpenSpec.upto seriesNearestIsNearestSpec)

/-- 'orangeboxlaw5.SeriesHoldMatchesSpec', WHERE WHAT IT READS IS OF BULK AT MOST 1048576: true; the input reads as it did. -/
def seriesHoldMatchesSpecUptoRow : OpenClaim := { program := "ytkfolbhdjppgaaa", sum := "52abd782c47972fb949e8e272b17c90865fa6c50e534f7ad0a7bd7cc99fe5169", func := "orangebox/orangeboxlaw5.SeriesHoldMatchesSpec", spec := "seriesHoldMatchesSpec", inPlace := ["math/bits.Add64", "math/bits.Sub64"], unfollowed := true, recurses := true, named := ["math/bits.divideError", "math/bits.overflowError"], apart := false, narrowed := true }
def SeriesHoldMatchesSpecUptoSaid : Prop := seriesHoldMatchesSpecUptoRow.holds Try.pinned (OpenSpec.upto seriesHoldMatchesSpecSpec)

/-- 'orangeboxlaw5.SeriesHoldKnowsLess', WHERE WHAT IT READS IS OF BULK AT MOST 1048576: true; the input reads as it did. -/
def seriesHoldKnowsLessUptoRow : OpenClaim := { program := "ytkfolbhdjppgaaa", sum := "52abd782c47972fb949e8e272b17c90865fa6c50e534f7ad0a7bd7cc99fe5169", func := "orangebox/orangeboxlaw5.SeriesHoldKnowsLess", spec := "seriesHoldKnowsLess", unfollowed := true, recurses := true, apart := false, narrowed := true }
def SeriesHoldKnowsLessUptoSaid : Prop := seriesHoldKnowsLessUptoRow.holds Try.pinned (OpenSpec.upto seriesHoldKnowsLessSpec)

/-- 'orangeboxlaw5.SeriesMeanMatchesSpec', WHERE WHAT IT READS IS OF BULK AT MOST 1048576: true; the input reads as it did. -/
def seriesMeanMatchesSpecUptoRow : OpenClaim := { program := "ytkfolbhdjppgaaa", sum := "52abd782c47972fb949e8e272b17c90865fa6c50e534f7ad0a7bd7cc99fe5169", func := "orangebox/orangeboxlaw5.SeriesMeanMatchesSpec", spec := "seriesMeanMatchesSpec", inPlace := ["math/bits.Add64", "math/bits.Sub64"], unfollowed := true, recurses := true, named := ["math/bits.divideError", "math/bits.overflowError"], apart := false, narrowed := true }
def SeriesMeanMatchesSpecUptoSaid : Prop := seriesMeanMatchesSpecUptoRow.holds Try.pinned (OpenSpec.upto seriesMeanMatchesSpecSpec)

end Rows
end Go.Proofs.Ytkfolbhdjppgaaa
