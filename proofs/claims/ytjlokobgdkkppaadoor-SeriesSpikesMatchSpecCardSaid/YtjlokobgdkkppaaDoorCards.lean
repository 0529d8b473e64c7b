/-
  DERIVED. GIVEN WITH THE SEED: THE CARDS: each row of YtjlokobgdkkppaaDoorRows.lean that lists a variable, with what it lists TIED to the program's text (the seventh form; the later family's looks); each row that meets fmt, with fmt's text TOLD by the authors' own Lean function (tested against real Go, not proved from fmt's source: count such statements apart). THE CARD IS WHAT COUNTS. Prove the row's statement (the work); the ties are given (YtjlokobgdkkppaaDoorTie.lean); close each card by the builder's one call (the guide's Derived/Test/ToyasCard.lean, 'card_holds'). Laid BY PROGRAM, IN A SANDBOX (cutbox-door.mjs). By AI agents, Wed Nov 11 2026. No macro, syntax, notation, axiom, sorry.
-/
import Derived.Test.YtjlokobgdkkppaaDoorRows
import GoSem.ClaimSeven
namespace Go.Proofs.YtjlokobgdkkppaaDoor
namespace Rows

/-- THE TIED CARD OF 'orangeboxlaw5.SeriesCheckMatchesSpec'. -/
def seriesCheckMatchesSpecCard : Claim7 := { stood := { row := seriesCheckMatchesSpecRow, standIns := [], harness := (true, "08b404b8fe563c972c225e1fb5c95c40419296853dce2d4f9122c5d9b0e795ca"), looks := false }, kinds := [], alts := [], laidByText := true, laidKinds := [.data, .data, .data], laidTests := true, laidLooks := .later }
def SeriesCheckMatchesSpecCardSaid : Prop := Claim7.holds Tryd.pinned (.plain (OpenSpec.ofChange seriesCheckMatchesSpecSpec)) seriesCheckMatchesSpecCard

/-- THE TIED CARD OF 'orangeboxlaw5.SeriesCalibrateMatchesSpec'. -/
def seriesCalibrateMatchesSpecCard : Claim7 := { stood := { row := seriesCalibrateMatchesSpecRow, standIns := [], harness := (true, "08b404b8fe563c972c225e1fb5c95c40419296853dce2d4f9122c5d9b0e795ca"), looks := false }, kinds := [], alts := [], laidByText := true, laidKinds := [.data, .data, .data], laidTests := true, laidLooks := .later }
def SeriesCalibrateMatchesSpecCardSaid : Prop := Claim7.holds Tryd.pinned (.plain (OpenSpec.ofChange seriesCalibrateMatchesSpecSpec)) seriesCalibrateMatchesSpecCard

/-- THE TIED CARD OF 'orangeboxlaw5.SeriesJoinMatchesSpec'. -/
def seriesJoinMatchesSpecCard : Claim7 := { stood := { row := seriesJoinMatchesSpecRow, standIns := [], harness := (true, "08b404b8fe563c972c225e1fb5c95c40419296853dce2d4f9122c5d9b0e795ca"), looks := false }, kinds := [], alts := [], laidByText := true, laidKinds := [.data, .data, .data], laidTests := true, laidLooks := .later }
def SeriesJoinMatchesSpecCardSaid : Prop := Claim7.holds Tryd.pinned (.plain (OpenSpec.ofChange seriesJoinMatchesSpecSpec)) seriesJoinMatchesSpecCard

/-- THE TIED CARD OF 'orangeboxlaw5.SeriesResampleMatchesSpec'. -/
def seriesResampleMatchesSpecCard : Claim7 := { stood := { row := seriesResampleMatchesSpecRow, standIns := [], harness := (true, "08b404b8fe563c972c225e1fb5c95c40419296853dce2d4f9122c5d9b0e795ca"), looks := false }, kinds := [], alts := [], laidByText := true, laidKinds := [.data, .data, .data], laidTests := true, laidLooks := .later }
def SeriesResampleMatchesSpecCardSaid : Prop := Claim7.holds Tryd.pinned (.plain (OpenSpec.ofChange seriesResampleMatchesSpecSpec)) seriesResampleMatchesSpecCard

/-- THE TIED CARD OF 'orangeboxlaw5.SeriesSpikesMatchSpec'. -/
def seriesSpikesMatchSpecCard : Claim7 := { stood := { row := seriesSpikesMatchSpecRow, standIns := [], harness := (true, "08b404b8fe563c972c225e1fb5c95c40419296853dce2d4f9122c5d9b0e795ca"), looks := false }, kinds := [], alts := [], laidByText := true, laidKinds := [.data, .data, .data], laidTests := true, laidLooks := .later }
def SeriesSpikesMatchSpecCardSaid : Prop := Claim7.holds Tryd.pinned (.plain (OpenSpec.ofChange seriesSpikesMatchSpecSpec)) seriesSpikesMatchSpecCard

/-- THE TIED CARD OF 'orangeboxlaw5.SeriesMedianMatchesSpec'. -/
def seriesMedianMatchesSpecCard : Claim7 := { stood := { row := seriesMedianMatchesSpecRow, standIns := [], harness := (true, "08b404b8fe563c972c225e1fb5c95c40419296853dce2d4f9122c5d9b0e795ca"), looks := false }, kinds := [], alts := [], laidByText := true, laidKinds := [.data, .data, .data], laidTests := true, laidLooks := .later }
def SeriesMedianMatchesSpecCardSaid : Prop := Claim7.holds Tryd.pinned (.plain (OpenSpec.ofChange seriesMedianMatchesSpecSpec)) seriesMedianMatchesSpecCard

/-- THE TIED CARD OF 'orangeboxlaw5.SeriesCombineMatchesSpec'. -/
def seriesCombineMatchesSpecCard : Claim7 := { stood := { row := seriesCombineMatchesSpecRow, standIns := [], harness := (true, "08b404b8fe563c972c225e1fb5c95c40419296853dce2d4f9122c5d9b0e795ca"), looks := false }, kinds := [], alts := [], laidByText := true, laidKinds := [.data, .data, .data], laidTests := true, laidLooks := .later }
def SeriesCombineMatchesSpecCardSaid : Prop := Claim7.holds Tryd.pinned (.plain (OpenSpec.ofChange seriesCombineMatchesSpecSpec)) seriesCombineMatchesSpecCard

/-- THE SECOND FORM's CARD OF 'orangeboxlaw5.SeriesCheckMatchesSpec'. -/
def seriesCheckMatchesSpecUptoCard : Claim7 := { stood := { row := seriesCheckMatchesSpecUptoRow, standIns := [], harness := (true, "08b404b8fe563c972c225e1fb5c95c40419296853dce2d4f9122c5d9b0e795ca"), looks := false }, kinds := [], alts := [], laidByText := true, laidKinds := [.data, .data, .data], laidTests := true, laidLooks := .later }
def SeriesCheckMatchesSpecUptoCardSaid : Prop := Claim7.holds Tryd.pinned (.plain (OpenSpec.upto seriesCheckMatchesSpecSpec)) seriesCheckMatchesSpecUptoCard

/-- THE SECOND FORM's CARD OF 'orangeboxlaw5.SeriesCalibrateMatchesSpec'. -/
def seriesCalibrateMatchesSpecUptoCard : Claim7 := { stood := { row := seriesCalibrateMatchesSpecUptoRow, standIns := [], harness := (true, "08b404b8fe563c972c225e1fb5c95c40419296853dce2d4f9122c5d9b0e795ca"), looks := false }, kinds := [], alts := [], laidByText := true, laidKinds := [.data, .data, .data], laidTests := true, laidLooks := .later }
def SeriesCalibrateMatchesSpecUptoCardSaid : Prop := Claim7.holds Tryd.pinned (.plain (OpenSpec.upto seriesCalibrateMatchesSpecSpec)) seriesCalibrateMatchesSpecUptoCard

/-- THE SECOND FORM's CARD OF 'orangeboxlaw5.SeriesJoinMatchesSpec'. -/
def seriesJoinMatchesSpecUptoCard : Claim7 := { stood := { row := seriesJoinMatchesSpecUptoRow, standIns := [], harness := (true, "08b404b8fe563c972c225e1fb5c95c40419296853dce2d4f9122c5d9b0e795ca"), looks := false }, kinds := [], alts := [], laidByText := true, laidKinds := [.data, .data, .data], laidTests := true, laidLooks := .later }
def SeriesJoinMatchesSpecUptoCardSaid : Prop := Claim7.holds Tryd.pinned (.plain (OpenSpec.upto seriesJoinMatchesSpecSpec)) seriesJoinMatchesSpecUptoCard

/-- THE SECOND FORM's CARD OF 'orangeboxlaw5.SeriesResampleMatchesSpec'. -/
def seriesResampleMatchesSpecUptoCard : Claim7 := { stood := { row := seriesResampleMatchesSpecUptoRow, standIns := [], harness := (true, "08b404b8fe563c972c225e1fb5c95c40419296853dce2d4f9122c5d9b0e795ca"), looks := false }, kinds := [], alts := [], laidByText := true, laidKinds := [.data, .data, .data], laidTests := true, laidLooks := .later }
def SeriesResampleMatchesSpecUptoCardSaid : Prop := Claim7.holds Tryd.pinned (.plain (OpenSpec.upto seriesResampleMatchesSpecSpec)) seriesResampleMatchesSpecUptoCard

/-- THE SECOND FORM's CARD OF 'orangeboxlaw5.SeriesSpikesMatchSpec'. -/
def seriesSpikesMatchSpecUptoCard : Claim7 := { stood := { row := seriesSpikesMatchSpecUptoRow, standIns := [], harness := (true, "08b404b8fe563c972c225e1fb5c95c40419296853dce2d4f9122c5d9b0e795ca"), looks := false }, kinds := [], alts := [], laidByText := true, laidKinds := [.data, .data, .data], laidTests := true, laidLooks := .later }
def SeriesSpikesMatchSpecUptoCardSaid : Prop := Claim7.holds Tryd.pinned (.plain (OpenSpec.upto seriesSpikesMatchSpecSpec)) seriesSpikesMatchSpecUptoCard

/-- THE SECOND FORM's CARD OF 'orangeboxlaw5.SeriesMedianMatchesSpec'. -/
def seriesMedianMatchesSpecUptoCard : Claim7 := { stood := { row := seriesMedianMatchesSpecUptoRow, standIns := [], harness := (true, "08b404b8fe563c972c225e1fb5c95c40419296853dce2d4f9122c5d9b0e795ca"), looks := false }, kinds := [], alts := [], laidByText := true, laidKinds := [.data, .data, .data], laidTests := true, laidLooks := .later }
def SeriesMedianMatchesSpecUptoCardSaid : Prop := Claim7.holds Tryd.pinned (.plain (OpenSpec.upto seriesMedianMatchesSpecSpec)) seriesMedianMatchesSpecUptoCard

/-- THE SECOND FORM's CARD OF 'orangeboxlaw5.SeriesCombineMatchesSpec'. -/
def seriesCombineMatchesSpecUptoCard : Claim7 := { stood := { row := seriesCombineMatchesSpecUptoRow, standIns := [], harness := (true, "08b404b8fe563c972c225e1fb5c95c40419296853dce2d4f9122c5d9b0e795ca"), looks := false }, kinds := [], alts := [], laidByText := true, laidKinds := [.data, .data, .data], laidTests := true, laidLooks := .later }
def SeriesCombineMatchesSpecUptoCardSaid : Prop := Claim7.holds Tryd.pinned (.plain (OpenSpec.upto seriesCombineMatchesSpecSpec)) seriesCombineMatchesSpecUptoCard
end Rows
end Go.Proofs.YtjlokobgdkkppaaDoor
