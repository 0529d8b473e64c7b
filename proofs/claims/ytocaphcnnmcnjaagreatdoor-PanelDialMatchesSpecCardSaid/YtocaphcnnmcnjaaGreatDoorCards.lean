/-
  DERIVED. GIVEN WITH THE SEED: THE CARDS: each row of YtocaphcnnmcnjaaGreatDoorRows.lean that lists a variable, with what it lists TIED to the program's text (the seventh form; the later family's looks); each row that meets fmt, with fmt's text TOLD by the authors' own Lean function (tested against real Go, not proved from fmt's source: count such statements apart). THE CARD IS WHAT COUNTS. Prove the row's statement (the work); the ties are given (YtocaphcnnmcnjaaGreatDoorTie.lean); close each card by the builder's one call (the guide's Derived/Test/ToyasCard.lean, 'card_holds'). Laid BY PROGRAM, IN A SANDBOX (cutbox-door.mjs). By AI agents, Wed Nov 11 2026. No macro, syntax, notation, axiom, sorry.
-/
import Derived.Test.YtocaphcnnmcnjaaGreatDoorRows
import GoSem.ClaimSeven
namespace Go.Proofs.YtocaphcnnmcnjaaGreatDoor
namespace Rows

/-- THE TIED CARD OF 'orangeboxlaw8.PanelCheckMatchesSpec'. -/
def panelCheckMatchesSpecCard : Claim7 := { stood := { row := panelCheckMatchesSpecRow, standIns := [], harness := (true, "c33597941bbfe9f9af1cee3b899a0667130d289c46fa06bff7e37906845b6f00"), looks := false }, kinds := [], alts := [], laidByText := true, laidKinds := [.data, .data, .data, .data, .pinned], laidTests := true, laidLooks := .later }
def PanelCheckMatchesSpecCardSaid : Prop := Claim7.holds Tryz.pinned (.plain (OpenSpec.ofChange panelCheckMatchesSpecSpec)) panelCheckMatchesSpecCard

/-- THE TIED CARD OF 'orangeboxlaw8.PanelValueMatchesSpec'. -/
def panelValueMatchesSpecCard : Claim7 := { stood := { row := panelValueMatchesSpecRow, standIns := [], harness := (true, "c33597941bbfe9f9af1cee3b899a0667130d289c46fa06bff7e37906845b6f00"), looks := false }, kinds := [], alts := [], laidByText := true, laidKinds := [.data, .data, .data, .data, .pinned], laidTests := true, laidLooks := .later }
def PanelValueMatchesSpecCardSaid : Prop := Claim7.holds Tryz.pinned (.plain (OpenSpec.ofChange panelValueMatchesSpecSpec)) panelValueMatchesSpecCard

/-- THE TIED CARD OF 'orangeboxlaw8.PanelDialMatchesSpec'. -/
def panelDialMatchesSpecCard : Claim7 := { stood := { row := panelDialMatchesSpecRow, standIns := [], harness := (true, "c33597941bbfe9f9af1cee3b899a0667130d289c46fa06bff7e37906845b6f00"), looks := false }, kinds := [], alts := [], laidByText := true, laidKinds := [.data, .data, .data, .data, .pinned], laidTests := true, laidLooks := .later }
def PanelDialMatchesSpecCardSaid : Prop := Claim7.holds Tryz.pinned (.plain (OpenSpec.ofChange panelDialMatchesSpecSpec)) panelDialMatchesSpecCard

/-- THE TIED CARD OF 'orangeboxlaw8.PanelDigitsMatchSpec'. -/
def panelDigitsMatchSpecCard : Claim7 := { stood := { row := panelDigitsMatchSpecRow, standIns := [], harness := (true, "c33597941bbfe9f9af1cee3b899a0667130d289c46fa06bff7e37906845b6f00"), looks := false }, kinds := [], alts := [], laidByText := true, laidKinds := [.data, .data, .data, .data, .pinned], laidTests := true, laidLooks := .later }
def PanelDigitsMatchSpecCardSaid : Prop := Claim7.holds Tryz.pinned (.plain (OpenSpec.ofChange panelDigitsMatchSpecSpec)) panelDigitsMatchSpecCard

/-- THE SECOND FORM's CARD OF 'orangeboxlaw8.PanelCheckMatchesSpec'. -/
def panelCheckMatchesSpecUptoCard : Claim7 := { stood := { row := panelCheckMatchesSpecUptoRow, standIns := [], harness := (true, "c33597941bbfe9f9af1cee3b899a0667130d289c46fa06bff7e37906845b6f00"), looks := false }, kinds := [], alts := [], laidByText := true, laidKinds := [.data, .data, .data, .data, .pinned], laidTests := true, laidLooks := .later }
def PanelCheckMatchesSpecUptoCardSaid : Prop := Claim7.holds Tryz.pinned (.plain (OpenSpec.upto panelCheckMatchesSpecSpec)) panelCheckMatchesSpecUptoCard

/-- THE SECOND FORM's CARD OF 'orangeboxlaw8.PanelValueMatchesSpec'. -/
def panelValueMatchesSpecUptoCard : Claim7 := { stood := { row := panelValueMatchesSpecUptoRow, standIns := [], harness := (true, "c33597941bbfe9f9af1cee3b899a0667130d289c46fa06bff7e37906845b6f00"), looks := false }, kinds := [], alts := [], laidByText := true, laidKinds := [.data, .data, .data, .data, .pinned], laidTests := true, laidLooks := .later }
def PanelValueMatchesSpecUptoCardSaid : Prop := Claim7.holds Tryz.pinned (.plain (OpenSpec.upto panelValueMatchesSpecSpec)) panelValueMatchesSpecUptoCard

/-- THE SECOND FORM's CARD OF 'orangeboxlaw8.PanelDialMatchesSpec'. -/
def panelDialMatchesSpecUptoCard : Claim7 := { stood := { row := panelDialMatchesSpecUptoRow, standIns := [], harness := (true, "c33597941bbfe9f9af1cee3b899a0667130d289c46fa06bff7e37906845b6f00"), looks := false }, kinds := [], alts := [], laidByText := true, laidKinds := [.data, .data, .data, .data, .pinned], laidTests := true, laidLooks := .later }
def PanelDialMatchesSpecUptoCardSaid : Prop := Claim7.holds Tryz.pinned (.plain (OpenSpec.upto panelDialMatchesSpecSpec)) panelDialMatchesSpecUptoCard

/-- THE SECOND FORM's CARD OF 'orangeboxlaw8.PanelDigitsMatchSpec'. -/
def panelDigitsMatchSpecUptoCard : Claim7 := { stood := { row := panelDigitsMatchSpecUptoRow, standIns := [], harness := (true, "c33597941bbfe9f9af1cee3b899a0667130d289c46fa06bff7e37906845b6f00"), looks := false }, kinds := [], alts := [], laidByText := true, laidKinds := [.data, .data, .data, .data, .pinned], laidTests := true, laidLooks := .later }
def PanelDigitsMatchSpecUptoCardSaid : Prop := Claim7.holds Tryz.pinned (.plain (OpenSpec.upto panelDigitsMatchSpecSpec)) panelDigitsMatchSpecUptoCard
end Rows
end Go.Proofs.YtocaphcnnmcnjaaGreatDoor
