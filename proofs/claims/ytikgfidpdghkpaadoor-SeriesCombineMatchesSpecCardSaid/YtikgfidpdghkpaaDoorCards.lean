/-
  DERIVED. GIVEN WITH THE SEED: THE CARDS: each row of YtikgfidpdghkpaaDoorRows.lean that lists a variable, with what it lists TIED to the program's text (the seventh form; the later family's looks); each row that meets fmt, with fmt's text TOLD by the authors' own Lean function (tested against real Go, not proved from fmt's source: count such statements apart). THE CARD IS WHAT COUNTS. Prove the row's statement (the work); the ties are given (YtikgfidpdghkpaaDoorTie.lean); close each card by the builder's one call (the guide's Derived/Test/ToyasCard.lean, 'card_holds'). Laid BY PROGRAM, IN A SANDBOX (cutbox-door.mjs). By AI agents, Wed Nov 11 2026. No macro, syntax, notation, axiom, sorry.
-/
import Derived.Test.YtikgfidpdghkpaaDoorRows
import GoSem.ClaimSeven
namespace Go.Proofs.YtikgfidpdghkpaaDoor
namespace Rows

/-- THE TIED CARD OF 'orangeboxlaw5.SeriesMedianMatchesSpec'. -/
def seriesMedianMatchesSpecCard : Claim7 := { stood := { row := seriesMedianMatchesSpecRow, standIns := [], harness := (true, "d43c9d383743fc24569d8150ab6265aca4e3887e38260d88590a1821f20d39c1"), looks := false }, kinds := [], alts := [], laidByText := true, laidKinds := [.data, .data, .data], laidTests := true, laidLooks := .later }
def SeriesMedianMatchesSpecCardSaid : Prop := Claim7.holds Tryd.pinned (.plain (OpenSpec.ofChange seriesMedianMatchesSpecSpec)) seriesMedianMatchesSpecCard

/-- THE TIED CARD OF 'orangeboxlaw5.SeriesCombineMatchesSpec'. -/
def seriesCombineMatchesSpecCard : Claim7 := { stood := { row := seriesCombineMatchesSpecRow, standIns := [], harness := (true, "d43c9d383743fc24569d8150ab6265aca4e3887e38260d88590a1821f20d39c1"), looks := false }, kinds := [], alts := [], laidByText := true, laidKinds := [.data, .data, .data], laidTests := true, laidLooks := .later }
def SeriesCombineMatchesSpecCardSaid : Prop := Claim7.holds Tryd.pinned (.plain (OpenSpec.ofChange seriesCombineMatchesSpecSpec)) seriesCombineMatchesSpecCard

/-- THE SECOND FORM's CARD OF 'orangeboxlaw5.SeriesMedianMatchesSpec'. -/
def seriesMedianMatchesSpecUptoCard : Claim7 := { stood := { row := seriesMedianMatchesSpecUptoRow, standIns := [], harness := (true, "d43c9d383743fc24569d8150ab6265aca4e3887e38260d88590a1821f20d39c1"), looks := false }, kinds := [], alts := [], laidByText := true, laidKinds := [.data, .data, .data], laidTests := true, laidLooks := .later }
def SeriesMedianMatchesSpecUptoCardSaid : Prop := Claim7.holds Tryd.pinned (.plain (OpenSpec.upto seriesMedianMatchesSpecSpec)) seriesMedianMatchesSpecUptoCard

/-- THE SECOND FORM's CARD OF 'orangeboxlaw5.SeriesCombineMatchesSpec'. -/
def seriesCombineMatchesSpecUptoCard : Claim7 := { stood := { row := seriesCombineMatchesSpecUptoRow, standIns := [], harness := (true, "d43c9d383743fc24569d8150ab6265aca4e3887e38260d88590a1821f20d39c1"), looks := false }, kinds := [], alts := [], laidByText := true, laidKinds := [.data, .data, .data], laidTests := true, laidLooks := .later }
def SeriesCombineMatchesSpecUptoCardSaid : Prop := Claim7.holds Tryd.pinned (.plain (OpenSpec.upto seriesCombineMatchesSpecSpec)) seriesCombineMatchesSpecUptoCard
end Rows
end Go.Proofs.YtikgfidpdghkpaaDoor
