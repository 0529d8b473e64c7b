/-
  DERIVED. GIVEN WITH THE SEED: THE CARDS: each row of YtmpokfbliacmoaaDoorRows.lean that lists a variable, with what it lists TIED to the program's text (the seventh form; the later family's looks); each row that meets fmt, with fmt's text TOLD by the authors' own Lean function (tested against real Go, not proved from fmt's source: count such statements apart). THE CARD IS WHAT COUNTS. Prove the row's statement (the work); the ties are given (YtmpokfbliacmoaaDoorTie.lean); close each card by the builder's one call (the guide's Derived/Test/ToyasCard.lean, 'card_holds'). Laid BY PROGRAM, IN A SANDBOX (cutbox-door.mjs). By AI agents, Wed Nov 11 2026. No macro, syntax, notation, axiom, sorry.
-/
import Derived.Test.YtmpokfbliacmoaaDoorRows
import GoSem.ClaimSeven
namespace Go.Proofs.YtmpokfbliacmoaaDoor
namespace Rows

/-- THE TIED CARD OF 'orangeboxlaw5.SeriesMedianMatchesSpec'. -/
def seriesMedianMatchesSpecCard : Claim7 := { stood := { row := seriesMedianMatchesSpecRow, standIns := [], harness := (true, "046cf6c4c5d7ca71d19ad1502fed253fb7cb7b0eb433211ab2f44a0de42fb59b"), looks := false }, kinds := [], alts := [], laidByText := true, laidKinds := [.data, .data, .data], laidTests := true, laidLooks := .later }
def SeriesMedianMatchesSpecCardSaid : Prop := Claim7.holds Tryd.pinned (.plain (OpenSpec.ofChange seriesMedianMatchesSpecSpec)) seriesMedianMatchesSpecCard

/-- THE SECOND FORM's CARD OF 'orangeboxlaw5.SeriesMedianMatchesSpec'. -/
def seriesMedianMatchesSpecUptoCard : Claim7 := { stood := { row := seriesMedianMatchesSpecUptoRow, standIns := [], harness := (true, "046cf6c4c5d7ca71d19ad1502fed253fb7cb7b0eb433211ab2f44a0de42fb59b"), looks := false }, kinds := [], alts := [], laidByText := true, laidKinds := [.data, .data, .data], laidTests := true, laidLooks := .later }
def SeriesMedianMatchesSpecUptoCardSaid : Prop := Claim7.holds Tryd.pinned (.plain (OpenSpec.upto seriesMedianMatchesSpecSpec)) seriesMedianMatchesSpecUptoCard
end Rows
end Go.Proofs.YtmpokfbliacmoaaDoor
