/-
  DERIVED. GIVEN WITH THE SEED: THE CARDS: each row of YthkccbeffonaaaaGreatDoorRows.lean that lists a variable, with what it lists TIED to the program's text (the seventh form; the later family's looks); each row that meets fmt, with fmt's text TOLD by the authors' own Lean function (tested against real Go, not proved from fmt's source: count such statements apart). THE CARD IS WHAT COUNTS. Prove the row's statement (the work); the ties are given (YthkccbeffonaaaaGreatDoorTie.lean); close each card by the builder's one call (the guide's Derived/Test/ToyasCard.lean, 'card_holds'). Laid BY PROGRAM, IN A SANDBOX (cutbox-door.mjs). By AI agents, Wed Nov 11 2026. No macro, syntax, notation, axiom, sorry.
-/
import Derived.Test.YthkccbeffonaaaaGreatDoorRows
import GoSem.ClaimSeven
namespace Go.Proofs.YthkccbeffonaaaaGreatDoor
namespace Rows

/-- THE TIED CARD OF 'orangeboxlaw3.RingNewMatchesSpec'. -/
def ringNewMatchesSpecCard : Claim7 := { stood := { row := ringNewMatchesSpecRow, standIns := [], harness := (true, "7d993f9dec1c1cd308d01494087a6235e10ead4063d3b851c9309804c52b9416"), looks := false }, kinds := [], alts := [], laidByText := true, laidKinds := [.data], laidTests := true, laidLooks := .later }
def RingNewMatchesSpecCardSaid : Prop := Claim7.holds Tryz.pinned (.plain (OpenSpec.ofChange ringNewMatchesSpecSpec)) ringNewMatchesSpecCard

/-- THE TIED CARD OF 'orangeboxlaw3.RingCheckMatchesSpec'. -/
def ringCheckMatchesSpecCard : Claim7 := { stood := { row := ringCheckMatchesSpecRow, standIns := [], harness := (true, "7d993f9dec1c1cd308d01494087a6235e10ead4063d3b851c9309804c52b9416"), looks := false }, kinds := [], alts := [], laidByText := true, laidKinds := [.data], laidTests := true, laidLooks := .later }
def RingCheckMatchesSpecCardSaid : Prop := Claim7.holds Tryz.pinned (.plain (OpenSpec.ofChange ringCheckMatchesSpecSpec)) ringCheckMatchesSpecCard

/-- THE TIED CARD OF 'orangeboxlaw3.RingPutMatchesSpec'. -/
def ringPutMatchesSpecCard : Claim7 := { stood := { row := ringPutMatchesSpecRow, standIns := [], harness := (true, "7d993f9dec1c1cd308d01494087a6235e10ead4063d3b851c9309804c52b9416"), looks := false }, kinds := [], alts := [], laidByText := true, laidKinds := [.data], laidTests := true, laidLooks := .later }
def RingPutMatchesSpecCardSaid : Prop := Claim7.holds Tryz.pinned (.plain (OpenSpec.ofChange ringPutMatchesSpecSpec)) ringPutMatchesSpecCard

/-- THE TIED CARD OF 'orangeboxlaw3.RingBitsGoOneWay'. -/
def ringBitsGoOneWayCard : Claim7 := { stood := { row := ringBitsGoOneWayRow, standIns := [], harness := (true, "7d993f9dec1c1cd308d01494087a6235e10ead4063d3b851c9309804c52b9416"), looks := false }, kinds := [], alts := [], laidByText := true, laidKinds := [.data], laidTests := true, laidLooks := .later }
def RingBitsGoOneWayCardSaid : Prop := Claim7.holds Tryz.pinned (.plain (OpenSpec.ofChange ringBitsGoOneWaySpec)) ringBitsGoOneWayCard

/-- THE TIED CARD OF 'orangeboxlaw3.RingSectorMatchesSpec'. -/
def ringSectorMatchesSpecCard : Claim7 := { stood := { row := ringSectorMatchesSpecRow, standIns := [], harness := (true, "7d993f9dec1c1cd308d01494087a6235e10ead4063d3b851c9309804c52b9416"), looks := false }, kinds := [], alts := [], laidByText := true, laidKinds := [.data], laidTests := true, laidLooks := .later }
def RingSectorMatchesSpecCardSaid : Prop := Claim7.holds Tryz.pinned (.plain (OpenSpec.ofChange ringSectorMatchesSpecSpec)) ringSectorMatchesSpecCard

/-- THE TIED CARD OF 'orangeboxlaw3.RingRecoverMatchesSpec'. -/
def ringRecoverMatchesSpecCard : Claim7 := { stood := { row := ringRecoverMatchesSpecRow, standIns := [], harness := (true, "7d993f9dec1c1cd308d01494087a6235e10ead4063d3b851c9309804c52b9416"), looks := false }, kinds := [], alts := [], laidByText := true, laidKinds := [.data], laidTests := true, laidLooks := .later }
def RingRecoverMatchesSpecCardSaid : Prop := Claim7.holds Tryz.pinned (.plain (OpenSpec.ofChange ringRecoverMatchesSpecSpec)) ringRecoverMatchesSpecCard

/-- THE TIED CARD OF 'orangeboxlaw3.RingTargetsMatchSpec'. -/
def ringTargetsMatchSpecCard : Claim7 := { stood := { row := ringTargetsMatchSpecRow, standIns := [], harness := (true, "7d993f9dec1c1cd308d01494087a6235e10ead4063d3b851c9309804c52b9416"), looks := false }, kinds := [], alts := [], laidByText := true, laidKinds := [.data], laidTests := true, laidLooks := .later }
def RingTargetsMatchSpecCardSaid : Prop := Claim7.holds Tryz.pinned (.plain (OpenSpec.ofChange ringTargetsMatchSpecSpec)) ringTargetsMatchSpecCard

/-- THE TIED CARD OF 'orangeboxlaw3.RingRecorderMatchesSpec'. -/
def ringRecorderMatchesSpecCard : Claim7 := { stood := { row := ringRecorderMatchesSpecRow, standIns := [], harness := (true, "7d993f9dec1c1cd308d01494087a6235e10ead4063d3b851c9309804c52b9416"), looks := false }, kinds := [], alts := [], laidByText := true, laidKinds := [.data], laidTests := true, laidLooks := .later }
def RingRecorderMatchesSpecCardSaid : Prop := Claim7.holds Tryz.pinned (.plain (OpenSpec.ofChange ringRecorderMatchesSpecSpec)) ringRecorderMatchesSpecCard

/-- THE TIED CARD OF 'orangeboxlaw3.RingMemoriesAreCopies'. -/
def ringMemoriesAreCopiesCard : Claim7 := { stood := { row := ringMemoriesAreCopiesRow, standIns := [], harness := (true, "7d993f9dec1c1cd308d01494087a6235e10ead4063d3b851c9309804c52b9416"), looks := false }, kinds := [], alts := [], laidByText := true, laidKinds := [.data], laidTests := true, laidLooks := .later }
def RingMemoriesAreCopiesCardSaid : Prop := Claim7.holds Tryz.pinned (.plain (OpenSpec.ofChange ringMemoriesAreCopiesSpec)) ringMemoriesAreCopiesCard

/-- THE TIED CARD OF 'orangeboxlaw3.RingWritesWholeFrames'. -/
def ringWritesWholeFramesCard : Claim7 := { stood := { row := ringWritesWholeFramesRow, standIns := [], harness := (true, "7d993f9dec1c1cd308d01494087a6235e10ead4063d3b851c9309804c52b9416"), looks := false }, kinds := [], alts := [], laidByText := true, laidKinds := [.data], laidTests := true, laidLooks := .later }
def RingWritesWholeFramesCardSaid : Prop := Claim7.holds Tryz.pinned (.plain (OpenSpec.ofChange ringWritesWholeFramesSpec)) ringWritesWholeFramesCard

/-- THE TIED CARD OF 'orangeboxtop.TopPowerFailsAnywhere'. -/
def topPowerFailsAnywhereCard : Claim7 := { stood := { row := topPowerFailsAnywhereRow, standIns := [], harness := (true, "7d993f9dec1c1cd308d01494087a6235e10ead4063d3b851c9309804c52b9416"), looks := false }, kinds := [], alts := [], laidByText := true, laidKinds := [.data], laidTests := true, laidLooks := .later }
def TopPowerFailsAnywhereCardSaid : Prop := Claim7.holds Tryz.pinned (.plain (OpenSpec.ofChange topPowerFailsAnywhereSpec)) topPowerFailsAnywhereCard

/-- THE TIED CARD OF 'orangeboxtop.TopRingsKeepTheLatest'. -/
def topRingsKeepTheLatestCard : Claim7 := { stood := { row := topRingsKeepTheLatestRow, standIns := [], harness := (true, "7d993f9dec1c1cd308d01494087a6235e10ead4063d3b851c9309804c52b9416"), looks := false }, kinds := [], alts := [], laidByText := true, laidKinds := [.data], laidTests := true, laidLooks := .later }
def TopRingsKeepTheLatestCardSaid : Prop := Claim7.holds Tryz.pinned (.plain (OpenSpec.ofChange topRingsKeepTheLatestSpec)) topRingsKeepTheLatestCard

/-- THE SECOND FORM's CARD OF 'orangeboxlaw3.RingNewMatchesSpec'. -/
def ringNewMatchesSpecUptoCard : Claim7 := { stood := { row := ringNewMatchesSpecUptoRow, standIns := [], harness := (true, "7d993f9dec1c1cd308d01494087a6235e10ead4063d3b851c9309804c52b9416"), looks := false }, kinds := [], alts := [], laidByText := true, laidKinds := [.data], laidTests := true, laidLooks := .later }
def RingNewMatchesSpecUptoCardSaid : Prop := Claim7.holds Tryz.pinned (.plain (OpenSpec.upto ringNewMatchesSpecSpec)) ringNewMatchesSpecUptoCard

/-- THE SECOND FORM's CARD OF 'orangeboxlaw3.RingCheckMatchesSpec'. -/
def ringCheckMatchesSpecUptoCard : Claim7 := { stood := { row := ringCheckMatchesSpecUptoRow, standIns := [], harness := (true, "7d993f9dec1c1cd308d01494087a6235e10ead4063d3b851c9309804c52b9416"), looks := false }, kinds := [], alts := [], laidByText := true, laidKinds := [.data], laidTests := true, laidLooks := .later }
def RingCheckMatchesSpecUptoCardSaid : Prop := Claim7.holds Tryz.pinned (.plain (OpenSpec.upto ringCheckMatchesSpecSpec)) ringCheckMatchesSpecUptoCard

/-- THE SECOND FORM's CARD OF 'orangeboxlaw3.RingPutMatchesSpec'. -/
def ringPutMatchesSpecUptoCard : Claim7 := { stood := { row := ringPutMatchesSpecUptoRow, standIns := [], harness := (true, "7d993f9dec1c1cd308d01494087a6235e10ead4063d3b851c9309804c52b9416"), looks := false }, kinds := [], alts := [], laidByText := true, laidKinds := [.data], laidTests := true, laidLooks := .later }
def RingPutMatchesSpecUptoCardSaid : Prop := Claim7.holds Tryz.pinned (.plain (OpenSpec.upto ringPutMatchesSpecSpec)) ringPutMatchesSpecUptoCard

/-- THE SECOND FORM's CARD OF 'orangeboxlaw3.RingBitsGoOneWay'. -/
def ringBitsGoOneWayUptoCard : Claim7 := { stood := { row := ringBitsGoOneWayUptoRow, standIns := [], harness := (true, "7d993f9dec1c1cd308d01494087a6235e10ead4063d3b851c9309804c52b9416"), looks := false }, kinds := [], alts := [], laidByText := true, laidKinds := [.data], laidTests := true, laidLooks := .later }
def RingBitsGoOneWayUptoCardSaid : Prop := Claim7.holds Tryz.pinned (.plain (OpenSpec.upto ringBitsGoOneWaySpec)) ringBitsGoOneWayUptoCard

/-- THE SECOND FORM's CARD OF 'orangeboxlaw3.RingSectorMatchesSpec'. -/
def ringSectorMatchesSpecUptoCard : Claim7 := { stood := { row := ringSectorMatchesSpecUptoRow, standIns := [], harness := (true, "7d993f9dec1c1cd308d01494087a6235e10ead4063d3b851c9309804c52b9416"), looks := false }, kinds := [], alts := [], laidByText := true, laidKinds := [.data], laidTests := true, laidLooks := .later }
def RingSectorMatchesSpecUptoCardSaid : Prop := Claim7.holds Tryz.pinned (.plain (OpenSpec.upto ringSectorMatchesSpecSpec)) ringSectorMatchesSpecUptoCard

/-- THE SECOND FORM's CARD OF 'orangeboxlaw3.RingRecoverMatchesSpec'. -/
def ringRecoverMatchesSpecUptoCard : Claim7 := { stood := { row := ringRecoverMatchesSpecUptoRow, standIns := [], harness := (true, "7d993f9dec1c1cd308d01494087a6235e10ead4063d3b851c9309804c52b9416"), looks := false }, kinds := [], alts := [], laidByText := true, laidKinds := [.data], laidTests := true, laidLooks := .later }
def RingRecoverMatchesSpecUptoCardSaid : Prop := Claim7.holds Tryz.pinned (.plain (OpenSpec.upto ringRecoverMatchesSpecSpec)) ringRecoverMatchesSpecUptoCard

/-- THE SECOND FORM's CARD OF 'orangeboxlaw3.RingTargetsMatchSpec'. -/
def ringTargetsMatchSpecUptoCard : Claim7 := { stood := { row := ringTargetsMatchSpecUptoRow, standIns := [], harness := (true, "7d993f9dec1c1cd308d01494087a6235e10ead4063d3b851c9309804c52b9416"), looks := false }, kinds := [], alts := [], laidByText := true, laidKinds := [.data], laidTests := true, laidLooks := .later }
def RingTargetsMatchSpecUptoCardSaid : Prop := Claim7.holds Tryz.pinned (.plain (OpenSpec.upto ringTargetsMatchSpecSpec)) ringTargetsMatchSpecUptoCard

/-- THE SECOND FORM's CARD OF 'orangeboxlaw3.RingRecorderMatchesSpec'. -/
def ringRecorderMatchesSpecUptoCard : Claim7 := { stood := { row := ringRecorderMatchesSpecUptoRow, standIns := [], harness := (true, "7d993f9dec1c1cd308d01494087a6235e10ead4063d3b851c9309804c52b9416"), looks := false }, kinds := [], alts := [], laidByText := true, laidKinds := [.data], laidTests := true, laidLooks := .later }
def RingRecorderMatchesSpecUptoCardSaid : Prop := Claim7.holds Tryz.pinned (.plain (OpenSpec.upto ringRecorderMatchesSpecSpec)) ringRecorderMatchesSpecUptoCard

/-- THE SECOND FORM's CARD OF 'orangeboxlaw3.RingMemoriesAreCopies'. -/
def ringMemoriesAreCopiesUptoCard : Claim7 := { stood := { row := ringMemoriesAreCopiesUptoRow, standIns := [], harness := (true, "7d993f9dec1c1cd308d01494087a6235e10ead4063d3b851c9309804c52b9416"), looks := false }, kinds := [], alts := [], laidByText := true, laidKinds := [.data], laidTests := true, laidLooks := .later }
def RingMemoriesAreCopiesUptoCardSaid : Prop := Claim7.holds Tryz.pinned (.plain (OpenSpec.upto ringMemoriesAreCopiesSpec)) ringMemoriesAreCopiesUptoCard

/-- THE SECOND FORM's CARD OF 'orangeboxlaw3.RingWritesWholeFrames'. -/
def ringWritesWholeFramesUptoCard : Claim7 := { stood := { row := ringWritesWholeFramesUptoRow, standIns := [], harness := (true, "7d993f9dec1c1cd308d01494087a6235e10ead4063d3b851c9309804c52b9416"), looks := false }, kinds := [], alts := [], laidByText := true, laidKinds := [.data], laidTests := true, laidLooks := .later }
def RingWritesWholeFramesUptoCardSaid : Prop := Claim7.holds Tryz.pinned (.plain (OpenSpec.upto ringWritesWholeFramesSpec)) ringWritesWholeFramesUptoCard

/-- THE SECOND FORM's CARD OF 'orangeboxtop.TopPowerFailsAnywhere'. -/
def topPowerFailsAnywhereUptoCard : Claim7 := { stood := { row := topPowerFailsAnywhereUptoRow, standIns := [], harness := (true, "7d993f9dec1c1cd308d01494087a6235e10ead4063d3b851c9309804c52b9416"), looks := false }, kinds := [], alts := [], laidByText := true, laidKinds := [.data], laidTests := true, laidLooks := .later }
def TopPowerFailsAnywhereUptoCardSaid : Prop := Claim7.holds Tryz.pinned (.plain (OpenSpec.upto topPowerFailsAnywhereSpec)) topPowerFailsAnywhereUptoCard

/-- THE SECOND FORM's CARD OF 'orangeboxtop.TopRingsKeepTheLatest'. -/
def topRingsKeepTheLatestUptoCard : Claim7 := { stood := { row := topRingsKeepTheLatestUptoRow, standIns := [], harness := (true, "7d993f9dec1c1cd308d01494087a6235e10ead4063d3b851c9309804c52b9416"), looks := false }, kinds := [], alts := [], laidByText := true, laidKinds := [.data], laidTests := true, laidLooks := .later }
def TopRingsKeepTheLatestUptoCardSaid : Prop := Claim7.holds Tryz.pinned (.plain (OpenSpec.upto topRingsKeepTheLatestSpec)) topRingsKeepTheLatestUptoCard
end Rows
end Go.Proofs.YthkccbeffonaaaaGreatDoor
