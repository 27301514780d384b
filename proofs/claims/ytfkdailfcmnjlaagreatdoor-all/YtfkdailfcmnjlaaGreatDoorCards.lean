/-
  DERIVED. GIVEN WITH THE SEED: THE CARDS: each row of YtfkdailfcmnjlaaGreatDoorRows.lean that lists a variable, with what it lists TIED to the program's text (the seventh form; the later family's looks); each row that meets fmt, with fmt's text TOLD by the authors' own Lean function (tested against real Go, not proved from fmt's source: count such statements apart). THE CARD IS WHAT COUNTS. Prove the row's statement (the work); the ties are given (YtfkdailfcmnjlaaGreatDoorTie.lean); close each card by the builder's one call (the guide's Derived/Test/ToyasCard.lean, 'card_holds'). Laid BY PROGRAM, IN A SANDBOX (cutbox-door.mjs). By AI agents, Wed Nov 11 2026. No macro, syntax, notation, axiom, sorry.
-/
import Derived.Test.YtfkdailfcmnjlaaGreatDoorRows
import GoSem.ClaimSeven
namespace Go.Proofs.YtfkdailfcmnjlaaGreatDoor
namespace Rows

/-- THE TIED CARD OF 'gavellaw.Checks'. -/
def checksCard : Claim7 := { stood := { row := checksRow, standIns := [], harness := (true, "40ff3d9dad59f5f98b55aa2d57afbf509805ca6e9e570cc5824883c58f705c11"), looks := true }, kinds := [], alts := [], laidByText := true, laidKinds := [.data, .data, .data, .sentinel, .sentinel, .data], laidTests := true, laidLooks := .later }
def ChecksCardSaid : Prop := Claim7.holds Tryz.pinned (.plain (OpenSpec.ofChange checksSpec)) checksCard

/-- THE TIED CARD OF 'gavellaw.Prints'. -/
def printsCard : Claim7 := { stood := { row := printsRow, standIns := [], harness := (true, "40ff3d9dad59f5f98b55aa2d57afbf509805ca6e9e570cc5824883c58f705c11"), looks := true }, kinds := [], alts := [], laidByText := true, laidKinds := [.data, .data, .data, .sentinel, .sentinel, .data], laidTests := true, laidLooks := .later }
def PrintsCardSaid : Prop := Claim7.holds Tryz.pinned (.plain (OpenSpec.ofChange printsSpec)) printsCard

/-- THE TIED CARD OF 'gavelkeep.Plain'. -/
def plainCard : Claim7 := { stood := { row := plainRow, standIns := [], harness := (true, "40ff3d9dad59f5f98b55aa2d57afbf509805ca6e9e570cc5824883c58f705c11"), looks := true }, kinds := [], alts := [], laidByText := true, laidKinds := [.data, .data, .data, .sentinel, .sentinel, .data], laidTests := true, laidLooks := .later }
def PlainCardSaid : Prop := Claim7.holds Tryz.pinned (.plain (OpenSpec.ofChange plainSpec)) plainCard

/-- THE TIED CARD OF 'gavellaw.Means'. -/
def meansCard : Claim7 := { stood := { row := meansRow, standIns := [], harness := (true, "40ff3d9dad59f5f98b55aa2d57afbf509805ca6e9e570cc5824883c58f705c11"), looks := true }, kinds := [], alts := [], laidByText := true, laidKinds := [.data, .data, .data, .sentinel, .sentinel, .data], laidTests := true, laidLooks := .later }
def MeansCardSaid : Prop := Claim7.holds Tryz.pinned (.plain (OpenSpec.ofChange meansSpec)) meansCard

/-- THE TIED CARD OF 'gavelkeep.Tells'. -/
def tellsCard : Claim7 := { stood := { row := tellsRow, standIns := [], harness := (true, "40ff3d9dad59f5f98b55aa2d57afbf509805ca6e9e570cc5824883c58f705c11"), looks := true }, kinds := [], alts := [], laidByText := true, laidKinds := [.data, .data, .data, .sentinel, .sentinel, .data], laidTests := true, laidLooks := .later }
def TellsCardSaid : Prop := Claim7.holds Tryz.pinned (.plain (OpenSpec.ofChange tellsSpec)) tellsCard

/-- THE TIED CARD OF 'gavellaw.Compiles'. -/
def compilesCard : Claim7 := { stood := { row := compilesRow, standIns := [], harness := (true, "40ff3d9dad59f5f98b55aa2d57afbf509805ca6e9e570cc5824883c58f705c11"), looks := true }, kinds := [], alts := [], laidByText := true, laidKinds := [.data, .data, .data, .wider, .sentinel, .sentinel, .data], laidTests := true, laidLooks := .later }
def CompilesCardSaid : Prop := Claim7.holds Tryz.pinned (.plain (OpenSpec.ofChange compilesSpec)) compilesCard

/-- THE TIED CARD OF 'gavelkeep.Meant'. -/
def meantCard : Claim7 := { stood := { row := meantRow, standIns := [], harness := (true, "40ff3d9dad59f5f98b55aa2d57afbf509805ca6e9e570cc5824883c58f705c11"), looks := true }, kinds := [], alts := [], laidByText := true, laidKinds := [.data, .data, .data, .wider, .sentinel, .sentinel, .data], laidTests := true, laidLooks := .later }
def MeantCardSaid : Prop := Claim7.holds Tryz.pinned (.plain (OpenSpec.ofChange meantSpec)) meantCard

/-- THE TIED CARD OF 'gavellaw.All'. -/
def allCard : Claim7 := { stood := { row := allRow, standIns := [], harness := (true, "40ff3d9dad59f5f98b55aa2d57afbf509805ca6e9e570cc5824883c58f705c11"), looks := true }, kinds := [], alts := [], laidByText := true, laidKinds := [.data, .data, .data, .wider, .sentinel, .sentinel, .data], laidTests := true, laidLooks := .later }
def AllCardSaid : Prop := Claim7.holds Tryz.pinned (.plain (OpenSpec.ofChange allSpec)) allCard

/-- THE SECOND FORM's CARD OF 'gavellaw.Checks'. -/
def checksUptoCard : Claim7 := { stood := { row := checksUptoRow, standIns := [], harness := (true, "40ff3d9dad59f5f98b55aa2d57afbf509805ca6e9e570cc5824883c58f705c11"), looks := true }, kinds := [], alts := [], laidByText := true, laidKinds := [.data, .data, .data, .sentinel, .sentinel, .data], laidTests := true, laidLooks := .later }
def ChecksUptoCardSaid : Prop := Claim7.holds Tryz.pinned (.plain (OpenSpec.upto checksSpec)) checksUptoCard

/-- THE SECOND FORM's CARD OF 'gavellaw.Prints'. -/
def printsUptoCard : Claim7 := { stood := { row := printsUptoRow, standIns := [], harness := (true, "40ff3d9dad59f5f98b55aa2d57afbf509805ca6e9e570cc5824883c58f705c11"), looks := true }, kinds := [], alts := [], laidByText := true, laidKinds := [.data, .data, .data, .sentinel, .sentinel, .data], laidTests := true, laidLooks := .later }
def PrintsUptoCardSaid : Prop := Claim7.holds Tryz.pinned (.plain (OpenSpec.upto printsSpec)) printsUptoCard

/-- THE SECOND FORM's CARD OF 'gavelkeep.Plain'. -/
def plainUptoCard : Claim7 := { stood := { row := plainUptoRow, standIns := [], harness := (true, "40ff3d9dad59f5f98b55aa2d57afbf509805ca6e9e570cc5824883c58f705c11"), looks := true }, kinds := [], alts := [], laidByText := true, laidKinds := [.data, .data, .data, .sentinel, .sentinel, .data], laidTests := true, laidLooks := .later }
def PlainUptoCardSaid : Prop := Claim7.holds Tryz.pinned (.plain (OpenSpec.upto plainSpec)) plainUptoCard

/-- THE SECOND FORM's CARD OF 'gavellaw.Means'. -/
def meansUptoCard : Claim7 := { stood := { row := meansUptoRow, standIns := [], harness := (true, "40ff3d9dad59f5f98b55aa2d57afbf509805ca6e9e570cc5824883c58f705c11"), looks := true }, kinds := [], alts := [], laidByText := true, laidKinds := [.data, .data, .data, .sentinel, .sentinel, .data], laidTests := true, laidLooks := .later }
def MeansUptoCardSaid : Prop := Claim7.holds Tryz.pinned (.plain (OpenSpec.upto meansSpec)) meansUptoCard

/-- THE SECOND FORM's CARD OF 'gavelkeep.Tells'. -/
def tellsUptoCard : Claim7 := { stood := { row := tellsUptoRow, standIns := [], harness := (true, "40ff3d9dad59f5f98b55aa2d57afbf509805ca6e9e570cc5824883c58f705c11"), looks := true }, kinds := [], alts := [], laidByText := true, laidKinds := [.data, .data, .data, .sentinel, .sentinel, .data], laidTests := true, laidLooks := .later }
def TellsUptoCardSaid : Prop := Claim7.holds Tryz.pinned (.plain (OpenSpec.upto tellsSpec)) tellsUptoCard

/-- THE SECOND FORM's CARD OF 'gavellaw.Compiles'. -/
def compilesUptoCard : Claim7 := { stood := { row := compilesUptoRow, standIns := [], harness := (true, "40ff3d9dad59f5f98b55aa2d57afbf509805ca6e9e570cc5824883c58f705c11"), looks := true }, kinds := [], alts := [], laidByText := true, laidKinds := [.data, .data, .data, .wider, .sentinel, .sentinel, .data], laidTests := true, laidLooks := .later }
def CompilesUptoCardSaid : Prop := Claim7.holds Tryz.pinned (.plain (OpenSpec.upto compilesSpec)) compilesUptoCard

/-- THE SECOND FORM's CARD OF 'gavelkeep.Meant'. -/
def meantUptoCard : Claim7 := { stood := { row := meantUptoRow, standIns := [], harness := (true, "40ff3d9dad59f5f98b55aa2d57afbf509805ca6e9e570cc5824883c58f705c11"), looks := true }, kinds := [], alts := [], laidByText := true, laidKinds := [.data, .data, .data, .wider, .sentinel, .sentinel, .data], laidTests := true, laidLooks := .later }
def MeantUptoCardSaid : Prop := Claim7.holds Tryz.pinned (.plain (OpenSpec.upto meantSpec)) meantUptoCard

/-- THE SECOND FORM's CARD OF 'gavellaw.All'. -/
def allUptoCard : Claim7 := { stood := { row := allUptoRow, standIns := [], harness := (true, "40ff3d9dad59f5f98b55aa2d57afbf509805ca6e9e570cc5824883c58f705c11"), looks := true }, kinds := [], alts := [], laidByText := true, laidKinds := [.data, .data, .data, .wider, .sentinel, .sentinel, .data], laidTests := true, laidLooks := .later }
def AllUptoCardSaid : Prop := Claim7.holds Tryz.pinned (.plain (OpenSpec.upto allSpec)) allUptoCard
end Rows
end Go.Proofs.YtfkdailfcmnjlaaGreatDoor
