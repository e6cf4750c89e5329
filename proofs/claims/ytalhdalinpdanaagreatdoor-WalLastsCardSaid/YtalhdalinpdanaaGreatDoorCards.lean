/-
  DERIVED. GIVEN WITH THE SEED: THE CARDS: each row of YtalhdalinpdanaaGreatDoorRows.lean that lists a variable, with what it lists TIED to the program's text (the seventh form; the later family's looks); each row that meets fmt, with fmt's text TOLD by the authors' own Lean function (tested against real Go, not proved from fmt's source: count such statements apart). THE CARD IS WHAT COUNTS. Prove the row's statement (the work); the ties are given (YtalhdalinpdanaaGreatDoorTie.lean); close each card by the builder's one call (the guide's Derived/Test/ToyasCard.lean, 'card_holds'). Laid BY PROGRAM, IN A SANDBOX (cutbox-door.mjs). By AI agents, Wed Nov 11 2026. No macro, syntax, notation, axiom, sorry.
-/
import Derived.Test.YtalhdalinpdanaaGreatDoorRows
import GoSem.ClaimSeven
namespace Go.Proofs.YtalhdalinpdanaaGreatDoor
namespace Rows

/-- THE TIED CARD OF 'snafflelaw12.WalRight'. -/
def walRightCard : Claim7 := { stood := { row := walRightRow, standIns := [], harness := (true, "bffce2084e64c89fdb8d03069c41890e2c35e26d29b7c35a5ad9c5fd8878d9ca"), looks := true }, kinds := [], alts := [], laidByText := true, laidKinds := [.data, .data, .data, .sentinel, .sentinel], laidTests := true, laidLooks := .later }
def WalRightCardSaid : Prop := Claim7.holds Tryz.pinned (.plain (OpenSpec.ofChange walRightSpec)) walRightCard

/-- THE TIED CARD OF 'snafflelaw12.WalOpened'. -/
def walOpenedCard : Claim7 := { stood := { row := walOpenedRow, standIns := [], harness := (true, "bffce2084e64c89fdb8d03069c41890e2c35e26d29b7c35a5ad9c5fd8878d9ca"), looks := true }, kinds := [], alts := [], laidByText := true, laidKinds := [.data, .data, .data, .sentinel, .sentinel], laidTests := true, laidLooks := .later }
def WalOpenedCardSaid : Prop := Claim7.holds Tryz.pinned (.plain (OpenSpec.ofChange walOpenedSpec)) walOpenedCard

/-- THE TIED CARD OF 'snafflelaw12.WalAgain'. -/
def walAgainCard : Claim7 := { stood := { row := walAgainRow, standIns := [], harness := (true, "bffce2084e64c89fdb8d03069c41890e2c35e26d29b7c35a5ad9c5fd8878d9ca"), looks := true }, kinds := [], alts := [], laidByText := true, laidKinds := [.data, .data, .data, .sentinel, .sentinel], laidTests := true, laidLooks := .later }
def WalAgainCardSaid : Prop := Claim7.holds Tryz.pinned (.plain (OpenSpec.ofChange walAgainSpec)) walAgainCard

/-- THE TIED CARD OF 'snafflelaw12.WalLasts'. -/
def walLastsCard : Claim7 := { stood := { row := walLastsRow, standIns := [], harness := (true, "bffce2084e64c89fdb8d03069c41890e2c35e26d29b7c35a5ad9c5fd8878d9ca"), looks := true }, kinds := [], alts := [], laidByText := true, laidKinds := [.data, .data, .data, .sentinel, .sentinel], laidTests := true, laidLooks := .later }
def WalLastsCardSaid : Prop := Claim7.holds Tryz.pinned (.plain (OpenSpec.ofChange walLastsSpec)) walLastsCard

/-- THE TIED CARD OF 'snafflelaw12.WalDrops'. -/
def walDropsCard : Claim7 := { stood := { row := walDropsRow, standIns := [], harness := (true, "bffce2084e64c89fdb8d03069c41890e2c35e26d29b7c35a5ad9c5fd8878d9ca"), looks := true }, kinds := [], alts := [], laidByText := true, laidKinds := [.data, .data, .data, .sentinel, .sentinel], laidTests := true, laidLooks := .later }
def WalDropsCardSaid : Prop := Claim7.holds Tryz.pinned (.plain (OpenSpec.ofChange walDropsSpec)) walDropsCard

/-- THE TIED CARD OF 'snafflelaw12.WalParts'. -/
def walPartsCard : Claim7 := { stood := { row := walPartsRow, standIns := [], harness := (true, "bffce2084e64c89fdb8d03069c41890e2c35e26d29b7c35a5ad9c5fd8878d9ca"), looks := true }, kinds := [], alts := [], laidByText := true, laidKinds := [.data, .data, .data, .sentinel, .sentinel], laidTests := true, laidLooks := .later }
def WalPartsCardSaid : Prop := Claim7.holds Tryz.pinned (.plain (OpenSpec.ofChange walPartsSpec)) walPartsCard

/-- THE SECOND FORM's CARD OF 'snafflelaw12.WalRight'. -/
def walRightUptoCard : Claim7 := { stood := { row := walRightUptoRow, standIns := [], harness := (true, "bffce2084e64c89fdb8d03069c41890e2c35e26d29b7c35a5ad9c5fd8878d9ca"), looks := true }, kinds := [], alts := [], laidByText := true, laidKinds := [.data, .data, .data, .sentinel, .sentinel], laidTests := true, laidLooks := .later }
def WalRightUptoCardSaid : Prop := Claim7.holds Tryz.pinned (.plain (OpenSpec.upto walRightSpec)) walRightUptoCard

/-- THE SECOND FORM's CARD OF 'snafflelaw12.WalOpened'. -/
def walOpenedUptoCard : Claim7 := { stood := { row := walOpenedUptoRow, standIns := [], harness := (true, "bffce2084e64c89fdb8d03069c41890e2c35e26d29b7c35a5ad9c5fd8878d9ca"), looks := true }, kinds := [], alts := [], laidByText := true, laidKinds := [.data, .data, .data, .sentinel, .sentinel], laidTests := true, laidLooks := .later }
def WalOpenedUptoCardSaid : Prop := Claim7.holds Tryz.pinned (.plain (OpenSpec.upto walOpenedSpec)) walOpenedUptoCard

/-- THE SECOND FORM's CARD OF 'snafflelaw12.WalAgain'. -/
def walAgainUptoCard : Claim7 := { stood := { row := walAgainUptoRow, standIns := [], harness := (true, "bffce2084e64c89fdb8d03069c41890e2c35e26d29b7c35a5ad9c5fd8878d9ca"), looks := true }, kinds := [], alts := [], laidByText := true, laidKinds := [.data, .data, .data, .sentinel, .sentinel], laidTests := true, laidLooks := .later }
def WalAgainUptoCardSaid : Prop := Claim7.holds Tryz.pinned (.plain (OpenSpec.upto walAgainSpec)) walAgainUptoCard

/-- THE SECOND FORM's CARD OF 'snafflelaw12.WalLasts'. -/
def walLastsUptoCard : Claim7 := { stood := { row := walLastsUptoRow, standIns := [], harness := (true, "bffce2084e64c89fdb8d03069c41890e2c35e26d29b7c35a5ad9c5fd8878d9ca"), looks := true }, kinds := [], alts := [], laidByText := true, laidKinds := [.data, .data, .data, .sentinel, .sentinel], laidTests := true, laidLooks := .later }
def WalLastsUptoCardSaid : Prop := Claim7.holds Tryz.pinned (.plain (OpenSpec.upto walLastsSpec)) walLastsUptoCard

/-- THE SECOND FORM's CARD OF 'snafflelaw12.WalDrops'. -/
def walDropsUptoCard : Claim7 := { stood := { row := walDropsUptoRow, standIns := [], harness := (true, "bffce2084e64c89fdb8d03069c41890e2c35e26d29b7c35a5ad9c5fd8878d9ca"), looks := true }, kinds := [], alts := [], laidByText := true, laidKinds := [.data, .data, .data, .sentinel, .sentinel], laidTests := true, laidLooks := .later }
def WalDropsUptoCardSaid : Prop := Claim7.holds Tryz.pinned (.plain (OpenSpec.upto walDropsSpec)) walDropsUptoCard

/-- THE SECOND FORM's CARD OF 'snafflelaw12.WalParts'. -/
def walPartsUptoCard : Claim7 := { stood := { row := walPartsUptoRow, standIns := [], harness := (true, "bffce2084e64c89fdb8d03069c41890e2c35e26d29b7c35a5ad9c5fd8878d9ca"), looks := true }, kinds := [], alts := [], laidByText := true, laidKinds := [.data, .data, .data, .sentinel, .sentinel], laidTests := true, laidLooks := .later }
def WalPartsUptoCardSaid : Prop := Claim7.holds Tryz.pinned (.plain (OpenSpec.upto walPartsSpec)) walPartsUptoCard
end Rows
end Go.Proofs.YtalhdalinpdanaaGreatDoor
