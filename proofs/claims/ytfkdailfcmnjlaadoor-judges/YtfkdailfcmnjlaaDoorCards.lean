/-
  DERIVED. GIVEN WITH THE SEED: THE CARDS: each row of YtfkdailfcmnjlaaDoorRows.lean that lists a variable, with what it lists TIED to the program's text (the seventh form; the later family's looks); each row that meets fmt, with fmt's text TOLD by the authors' own Lean function (tested against real Go, not proved from fmt's source: count such statements apart). THE CARD IS WHAT COUNTS. Prove the row's statement (the work); the ties are given (YtfkdailfcmnjlaaDoorTie.lean); close each card by the builder's one call (the guide's Derived/Test/ToyasCard.lean, 'card_holds'). Laid BY PROGRAM, IN A SANDBOX (cutbox-door.mjs). By AI agents, Wed Nov 11 2026. No macro, syntax, notation, axiom, sorry.
-/
import Derived.Test.YtfkdailfcmnjlaaDoorRows
import GoSem.ClaimSeven
namespace Go.Proofs.YtfkdailfcmnjlaaDoor
namespace Rows

/-- THE TIED CARD OF 'gavellaw.Judges'. -/
def judgesCard : Claim7 := { stood := { row := judgesRow, standIns := [], harness := (true, "cca7b3133f795d42c827912da9140280cc37873220cc4e6fed47efcec7a3d008"), looks := false }, kinds := [], alts := [], laidByText := true, laidKinds := [.wider], laidTests := true, laidLooks := .later }
def JudgesCardSaid : Prop := Claim7.holds Tryd.pinned (.plain (OpenSpec.ofChange judgesSpec)) judgesCard

/-- THE TIED CARD OF 'gavelkeep.Safe'. -/
def safeCard : Claim7 := { stood := { row := safeRow, standIns := [], harness := (true, "cca7b3133f795d42c827912da9140280cc37873220cc4e6fed47efcec7a3d008"), looks := false }, kinds := [], alts := [], laidByText := true, laidKinds := [.wider], laidTests := true, laidLooks := .later }
def SafeCardSaid : Prop := Claim7.holds Tryd.pinned (.plain (OpenSpec.ofChange safeSpec)) safeCard

/-- THE SECOND FORM's CARD OF 'gavellaw.Judges'. -/
def judgesUptoCard : Claim7 := { stood := { row := judgesUptoRow, standIns := [], harness := (true, "cca7b3133f795d42c827912da9140280cc37873220cc4e6fed47efcec7a3d008"), looks := false }, kinds := [], alts := [], laidByText := true, laidKinds := [.wider], laidTests := true, laidLooks := .later }
def JudgesUptoCardSaid : Prop := Claim7.holds Tryd.pinned (.plain (OpenSpec.upto judgesSpec)) judgesUptoCard

/-- THE SECOND FORM's CARD OF 'gavelkeep.Safe'. -/
def safeUptoCard : Claim7 := { stood := { row := safeUptoRow, standIns := [], harness := (true, "cca7b3133f795d42c827912da9140280cc37873220cc4e6fed47efcec7a3d008"), looks := false }, kinds := [], alts := [], laidByText := true, laidKinds := [.wider], laidTests := true, laidLooks := .later }
def SafeUptoCardSaid : Prop := Claim7.holds Tryd.pinned (.plain (OpenSpec.upto safeSpec)) safeUptoCard
end Rows
end Go.Proofs.YtfkdailfcmnjlaaDoor
