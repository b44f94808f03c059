/-
  DERIVED. GIVEN WITH THE SEED: THE CARDS: each row of YtaokifbpakbgdabGreatDoorRows.lean that lists a variable, with what it lists TIED to the program's text (the seventh form; the later family's looks); each row that meets fmt, with fmt's text TOLD by the authors' own Lean function (tested against real Go, not proved from fmt's source: count such statements apart). THE CARD IS WHAT COUNTS. Prove the row's statement (the work); the ties are given (YtaokifbpakbgdabGreatDoorTie.lean); close each card by the builder's one call (the guide's Derived/Test/ToyasCard.lean, 'card_holds'). Laid BY PROGRAM, IN A SANDBOX (cutbox-door.mjs). By AI agents, Wed Nov 11 2026. No macro, syntax, notation, axiom, sorry.
-/
import Derived.Test.YtaokifbpakbgdabGreatDoorRows
import GoSem.ClaimSeven
namespace Go.Proofs.YtaokifbpakbgdabGreatDoor
namespace Rows

/-- THE TIED CARD OF 'foliokeep.Traceless'. -/
def tracelessCard : Claim7 := { stood := { row := tracelessRow, standIns := [], harness := (true, "b7bd030297318badcadaa409d96b0cea9131bf04a728486c95c8c7dd8b71f9bf"), looks := true }, kinds := [], alts := [], laidByText := true, laidKinds := [.data, .data, .data, .data, .sentinel, .sentinel, .data, .data, .data, .pinned, .pinned], laidTests := true, laidLooks := .later }
def TracelessCardSaid : Prop := Claim7.holds Tryz.pinned (.plain (OpenSpec.ofChange tracelessSpec)) tracelessCard

/-- THE SECOND FORM's CARD OF 'foliokeep.Traceless'. -/
def tracelessUptoCard : Claim7 := { stood := { row := tracelessUptoRow, standIns := [], harness := (true, "b7bd030297318badcadaa409d96b0cea9131bf04a728486c95c8c7dd8b71f9bf"), looks := true }, kinds := [], alts := [], laidByText := true, laidKinds := [.data, .data, .data, .data, .sentinel, .sentinel, .data, .data, .data, .pinned, .pinned], laidTests := true, laidLooks := .later }
def TracelessUptoCardSaid : Prop := Claim7.holds Tryz.pinned (.plain (OpenSpec.upto tracelessSpec)) tracelessUptoCard
end Rows
end Go.Proofs.YtaokifbpakbgdabGreatDoor
