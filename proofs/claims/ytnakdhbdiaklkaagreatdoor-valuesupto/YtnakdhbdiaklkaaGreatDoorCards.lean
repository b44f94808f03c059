/-
  DERIVED. GIVEN WITH THE SEED: THE CARDS: each row of YtnakdhbdiaklkaaGreatDoorRows.lean that lists a variable, with what it lists TIED to the program's text (the seventh form; the later family's looks); each row that meets fmt, with fmt's text TOLD by the authors' own Lean function (tested against real Go, not proved from fmt's source: count such statements apart). THE CARD IS WHAT COUNTS. Prove the row's statement (the work); the ties are given (YtnakdhbdiaklkaaGreatDoorTie.lean); close each card by the builder's one call (the guide's Derived/Test/ToyasCard.lean, 'card_holds'). Laid BY PROGRAM, IN A SANDBOX (cutbox-door.mjs). By AI agents, Wed Nov 11 2026. No macro, syntax, notation, axiom, sorry.
-/
import Derived.Test.YtnakdhbdiaklkaaGreatDoorRows
import GoSem.ClaimSeven
namespace Go.Proofs.YtnakdhbdiaklkaaGreatDoor
namespace Rows

/-- THE TIED CARD OF 'foliolaw.Values'. -/
def valuesCard : Claim7 := { stood := { row := valuesRow, standIns := [], harness := (true, "d338c9a9aa201af0d676c485a3b625718ef9fc87785c8b2f267e3037ff853707"), looks := true }, kinds := [], alts := [], laidByText := true, laidKinds := [.data, .data, .data, .data, .sentinel, .sentinel, .pinned, .pinned], laidTests := true, laidLooks := .later }
def ValuesCardSaid : Prop := Claim7.holds Tryz.pinned (.plain (OpenSpec.ofChange valuesSpec)) valuesCard

/-- THE TIED CARD OF 'foliokeep.Ranges'. -/
def rangesCard : Claim7 := { stood := { row := rangesRow, standIns := [], harness := (true, "d338c9a9aa201af0d676c485a3b625718ef9fc87785c8b2f267e3037ff853707"), looks := true }, kinds := [], alts := [], laidByText := true, laidKinds := [.data, .data, .data, .data, .sentinel, .sentinel, .pinned, .pinned], laidTests := true, laidLooks := .later }
def RangesCardSaid : Prop := Claim7.holds Tryz.pinned (.plain (OpenSpec.ofChange rangesSpec)) rangesCard

/-- THE TIED CARD OF 'foliokeep.Wild'. -/
def wildCard : Claim7 := { stood := { row := wildRow, standIns := [], harness := (true, "d338c9a9aa201af0d676c485a3b625718ef9fc87785c8b2f267e3037ff853707"), looks := true }, kinds := [], alts := [], laidByText := true, laidKinds := [.data, .data, .data, .data, .sentinel, .sentinel, .pinned, .pinned], laidTests := true, laidLooks := .later }
def WildCardSaid : Prop := Claim7.holds Tryz.pinned (.plain (OpenSpec.ofChange wildSpec)) wildCard

/-- THE TIED CARD OF 'foliokeep.Known'. -/
def knownCard : Claim7 := { stood := { row := knownRow, standIns := [], harness := (true, "d338c9a9aa201af0d676c485a3b625718ef9fc87785c8b2f267e3037ff853707"), looks := true }, kinds := [], alts := [], laidByText := true, laidKinds := [.data, .data, .data, .data, .sentinel, .sentinel, .pinned, .pinned], laidTests := true, laidLooks := .later }
def KnownCardSaid : Prop := Claim7.holds Tryz.pinned (.plain (OpenSpec.ofChange knownSpec)) knownCard

/-- THE SECOND FORM's CARD OF 'foliolaw.Values'. -/
def valuesUptoCard : Claim7 := { stood := { row := valuesUptoRow, standIns := [], harness := (true, "d338c9a9aa201af0d676c485a3b625718ef9fc87785c8b2f267e3037ff853707"), looks := true }, kinds := [], alts := [], laidByText := true, laidKinds := [.data, .data, .data, .data, .sentinel, .sentinel, .pinned, .pinned], laidTests := true, laidLooks := .later }
def ValuesUptoCardSaid : Prop := Claim7.holds Tryz.pinned (.plain (OpenSpec.upto valuesSpec)) valuesUptoCard

/-- THE SECOND FORM's CARD OF 'foliokeep.Ranges'. -/
def rangesUptoCard : Claim7 := { stood := { row := rangesUptoRow, standIns := [], harness := (true, "d338c9a9aa201af0d676c485a3b625718ef9fc87785c8b2f267e3037ff853707"), looks := true }, kinds := [], alts := [], laidByText := true, laidKinds := [.data, .data, .data, .data, .sentinel, .sentinel, .pinned, .pinned], laidTests := true, laidLooks := .later }
def RangesUptoCardSaid : Prop := Claim7.holds Tryz.pinned (.plain (OpenSpec.upto rangesSpec)) rangesUptoCard

/-- THE SECOND FORM's CARD OF 'foliokeep.Wild'. -/
def wildUptoCard : Claim7 := { stood := { row := wildUptoRow, standIns := [], harness := (true, "d338c9a9aa201af0d676c485a3b625718ef9fc87785c8b2f267e3037ff853707"), looks := true }, kinds := [], alts := [], laidByText := true, laidKinds := [.data, .data, .data, .data, .sentinel, .sentinel, .pinned, .pinned], laidTests := true, laidLooks := .later }
def WildUptoCardSaid : Prop := Claim7.holds Tryz.pinned (.plain (OpenSpec.upto wildSpec)) wildUptoCard

/-- THE SECOND FORM's CARD OF 'foliokeep.Known'. -/
def knownUptoCard : Claim7 := { stood := { row := knownUptoRow, standIns := [], harness := (true, "d338c9a9aa201af0d676c485a3b625718ef9fc87785c8b2f267e3037ff853707"), looks := true }, kinds := [], alts := [], laidByText := true, laidKinds := [.data, .data, .data, .data, .sentinel, .sentinel, .pinned, .pinned], laidTests := true, laidLooks := .later }
def KnownUptoCardSaid : Prop := Claim7.holds Tryz.pinned (.plain (OpenSpec.upto knownSpec)) knownUptoCard
end Rows
end Go.Proofs.YtnakdhbdiaklkaaGreatDoor
