/-
  DERIVED. GIVEN WITH THE SEED: THE CARDS: each row of YtaokifbpakbgdaaGreatDoorRows.lean that lists a variable, with what it lists TIED to the program's text (the seventh form; the later family's looks); each row that meets fmt, with fmt's text TOLD by the authors' own Lean function (tested against real Go, not proved from fmt's source: count such statements apart). THE CARD IS WHAT COUNTS. Prove the row's statement (the work); the ties are given (YtaokifbpakbgdaaGreatDoorTie.lean); close each card by the builder's one call (the guide's Derived/Test/ToyasCard.lean, 'card_holds'). Laid BY PROGRAM, IN A SANDBOX (cutbox-door.mjs). By AI agents, Wed Nov 11 2026. No macro, syntax, notation, axiom, sorry.
-/
import Derived.Test.YtaokifbpakbgdaaGreatDoorRows
import GoSem.ClaimSeven
namespace Go.Proofs.YtaokifbpakbgdaaGreatDoor
namespace Rows

/-- THE TIED CARD OF 'foliolaw.Values'. -/
def valuesCard : Claim7 := { stood := { row := valuesRow, standIns := [], harness := (true, "279bddb7e87f9029efd5d1bb0f576c92c6201e3b932830676ac803505128f47e"), looks := true }, kinds := [], alts := [], laidByText := true, laidKinds := [.data, .data, .data, .data, .sentinel, .sentinel, .pinned, .pinned], laidTests := true, laidLooks := .later }
def ValuesCardSaid : Prop := Claim7.holds Tryz.pinned (.plain (OpenSpec.ofChange valuesSpec)) valuesCard

/-- THE TIED CARD OF 'foliolaw.Shelves'. -/
def shelvesCard : Claim7 := { stood := { row := shelvesRow, standIns := [], harness := (true, "279bddb7e87f9029efd5d1bb0f576c92c6201e3b932830676ac803505128f47e"), looks := true }, kinds := [], alts := [], laidByText := true, laidKinds := [.data, .data, .data, .data, .sentinel, .sentinel, .data, .data, .data, .pinned, .pinned], laidTests := true, laidLooks := .later }
def ShelvesCardSaid : Prop := Claim7.holds Tryz.pinned (.plain (OpenSpec.ofChange shelvesSpec)) shelvesCard

/-- THE TIED CARD OF 'foliolaw.All'. -/
def allCard : Claim7 := { stood := { row := allRow, standIns := [], harness := (true, "279bddb7e87f9029efd5d1bb0f576c92c6201e3b932830676ac803505128f47e"), looks := true }, kinds := [], alts := [], laidByText := true, laidKinds := [.data, .data, .data, .data, .sentinel, .sentinel, .data, .data, .data, .pinned, .pinned], laidTests := true, laidLooks := .later }
def AllCardSaid : Prop := Claim7.holds Tryz.pinned (.plain (OpenSpec.ofChange allSpec)) allCard

/-- THE TIED CARD OF 'foliokeep.Ranges'. -/
def rangesCard : Claim7 := { stood := { row := rangesRow, standIns := [], harness := (true, "279bddb7e87f9029efd5d1bb0f576c92c6201e3b932830676ac803505128f47e"), looks := true }, kinds := [], alts := [], laidByText := true, laidKinds := [.data, .data, .data, .data, .sentinel, .sentinel, .pinned, .pinned], laidTests := true, laidLooks := .later }
def RangesCardSaid : Prop := Claim7.holds Tryz.pinned (.plain (OpenSpec.ofChange rangesSpec)) rangesCard

/-- THE TIED CARD OF 'foliokeep.Wild'. -/
def wildCard : Claim7 := { stood := { row := wildRow, standIns := [], harness := (true, "279bddb7e87f9029efd5d1bb0f576c92c6201e3b932830676ac803505128f47e"), looks := true }, kinds := [], alts := [], laidByText := true, laidKinds := [.data, .data, .data, .data, .sentinel, .sentinel, .pinned, .pinned], laidTests := true, laidLooks := .later }
def WildCardSaid : Prop := Claim7.holds Tryz.pinned (.plain (OpenSpec.ofChange wildSpec)) wildCard

/-- THE TIED CARD OF 'foliokeep.Known'. -/
def knownCard : Claim7 := { stood := { row := knownRow, standIns := [], harness := (true, "279bddb7e87f9029efd5d1bb0f576c92c6201e3b932830676ac803505128f47e"), looks := true }, kinds := [], alts := [], laidByText := true, laidKinds := [.data, .data, .data, .data, .sentinel, .sentinel, .pinned, .pinned], laidTests := true, laidLooks := .later }
def KnownCardSaid : Prop := Claim7.holds Tryz.pinned (.plain (OpenSpec.ofChange knownSpec)) knownCard

/-- THE TIED CARD OF 'foliokeep.Told'. -/
def toldCard : Claim7 := { stood := { row := toldRow, standIns := [], harness := (true, "279bddb7e87f9029efd5d1bb0f576c92c6201e3b932830676ac803505128f47e"), looks := true }, kinds := [], alts := [], laidByText := true, laidKinds := [.data, .data, .data, .data, .sentinel, .sentinel, .data, .data, .data, .pinned, .pinned], laidTests := true, laidLooks := .later }
def ToldCardSaid : Prop := Claim7.holds Tryz.pinned (.plain (OpenSpec.ofChange toldSpec)) toldCard

/-- THE TIED CARD OF 'foliokeep.Filtered'. -/
def filteredCard : Claim7 := { stood := { row := filteredRow, standIns := [], harness := (true, "279bddb7e87f9029efd5d1bb0f576c92c6201e3b932830676ac803505128f47e"), looks := true }, kinds := [], alts := [], laidByText := true, laidKinds := [.data, .data, .data, .data, .sentinel, .sentinel, .data, .data, .data, .pinned, .pinned], laidTests := true, laidLooks := .later }
def FilteredCardSaid : Prop := Claim7.holds Tryz.pinned (.plain (OpenSpec.ofChange filteredSpec)) filteredCard

/-- THE TIED CARD OF 'foliokeep.Counts'. -/
def countsCard : Claim7 := { stood := { row := countsRow, standIns := [], harness := (true, "279bddb7e87f9029efd5d1bb0f576c92c6201e3b932830676ac803505128f47e"), looks := true }, kinds := [], alts := [], laidByText := true, laidKinds := [.data, .data, .data, .data, .sentinel, .sentinel, .data, .data, .data, .pinned, .pinned], laidTests := true, laidLooks := .later }
def CountsCardSaid : Prop := Claim7.holds Tryz.pinned (.plain (OpenSpec.ofChange countsSpec)) countsCard

/-- THE SECOND FORM's CARD OF 'foliolaw.Values'. -/
def valuesUptoCard : Claim7 := { stood := { row := valuesUptoRow, standIns := [], harness := (true, "279bddb7e87f9029efd5d1bb0f576c92c6201e3b932830676ac803505128f47e"), looks := true }, kinds := [], alts := [], laidByText := true, laidKinds := [.data, .data, .data, .data, .sentinel, .sentinel, .pinned, .pinned], laidTests := true, laidLooks := .later }
def ValuesUptoCardSaid : Prop := Claim7.holds Tryz.pinned (.plain (OpenSpec.upto valuesSpec)) valuesUptoCard

/-- THE SECOND FORM's CARD OF 'foliolaw.Shelves'. -/
def shelvesUptoCard : Claim7 := { stood := { row := shelvesUptoRow, standIns := [], harness := (true, "279bddb7e87f9029efd5d1bb0f576c92c6201e3b932830676ac803505128f47e"), looks := true }, kinds := [], alts := [], laidByText := true, laidKinds := [.data, .data, .data, .data, .sentinel, .sentinel, .data, .data, .data, .pinned, .pinned], laidTests := true, laidLooks := .later }
def ShelvesUptoCardSaid : Prop := Claim7.holds Tryz.pinned (.plain (OpenSpec.upto shelvesSpec)) shelvesUptoCard

/-- THE SECOND FORM's CARD OF 'foliolaw.All'. -/
def allUptoCard : Claim7 := { stood := { row := allUptoRow, standIns := [], harness := (true, "279bddb7e87f9029efd5d1bb0f576c92c6201e3b932830676ac803505128f47e"), looks := true }, kinds := [], alts := [], laidByText := true, laidKinds := [.data, .data, .data, .data, .sentinel, .sentinel, .data, .data, .data, .pinned, .pinned], laidTests := true, laidLooks := .later }
def AllUptoCardSaid : Prop := Claim7.holds Tryz.pinned (.plain (OpenSpec.upto allSpec)) allUptoCard

/-- THE SECOND FORM's CARD OF 'foliokeep.Ranges'. -/
def rangesUptoCard : Claim7 := { stood := { row := rangesUptoRow, standIns := [], harness := (true, "279bddb7e87f9029efd5d1bb0f576c92c6201e3b932830676ac803505128f47e"), looks := true }, kinds := [], alts := [], laidByText := true, laidKinds := [.data, .data, .data, .data, .sentinel, .sentinel, .pinned, .pinned], laidTests := true, laidLooks := .later }
def RangesUptoCardSaid : Prop := Claim7.holds Tryz.pinned (.plain (OpenSpec.upto rangesSpec)) rangesUptoCard

/-- THE SECOND FORM's CARD OF 'foliokeep.Wild'. -/
def wildUptoCard : Claim7 := { stood := { row := wildUptoRow, standIns := [], harness := (true, "279bddb7e87f9029efd5d1bb0f576c92c6201e3b932830676ac803505128f47e"), looks := true }, kinds := [], alts := [], laidByText := true, laidKinds := [.data, .data, .data, .data, .sentinel, .sentinel, .pinned, .pinned], laidTests := true, laidLooks := .later }
def WildUptoCardSaid : Prop := Claim7.holds Tryz.pinned (.plain (OpenSpec.upto wildSpec)) wildUptoCard

/-- THE SECOND FORM's CARD OF 'foliokeep.Known'. -/
def knownUptoCard : Claim7 := { stood := { row := knownUptoRow, standIns := [], harness := (true, "279bddb7e87f9029efd5d1bb0f576c92c6201e3b932830676ac803505128f47e"), looks := true }, kinds := [], alts := [], laidByText := true, laidKinds := [.data, .data, .data, .data, .sentinel, .sentinel, .pinned, .pinned], laidTests := true, laidLooks := .later }
def KnownUptoCardSaid : Prop := Claim7.holds Tryz.pinned (.plain (OpenSpec.upto knownSpec)) knownUptoCard

/-- THE SECOND FORM's CARD OF 'foliokeep.Told'. -/
def toldUptoCard : Claim7 := { stood := { row := toldUptoRow, standIns := [], harness := (true, "279bddb7e87f9029efd5d1bb0f576c92c6201e3b932830676ac803505128f47e"), looks := true }, kinds := [], alts := [], laidByText := true, laidKinds := [.data, .data, .data, .data, .sentinel, .sentinel, .data, .data, .data, .pinned, .pinned], laidTests := true, laidLooks := .later }
def ToldUptoCardSaid : Prop := Claim7.holds Tryz.pinned (.plain (OpenSpec.upto toldSpec)) toldUptoCard

/-- THE SECOND FORM's CARD OF 'foliokeep.Filtered'. -/
def filteredUptoCard : Claim7 := { stood := { row := filteredUptoRow, standIns := [], harness := (true, "279bddb7e87f9029efd5d1bb0f576c92c6201e3b932830676ac803505128f47e"), looks := true }, kinds := [], alts := [], laidByText := true, laidKinds := [.data, .data, .data, .data, .sentinel, .sentinel, .data, .data, .data, .pinned, .pinned], laidTests := true, laidLooks := .later }
def FilteredUptoCardSaid : Prop := Claim7.holds Tryz.pinned (.plain (OpenSpec.upto filteredSpec)) filteredUptoCard

/-- THE SECOND FORM's CARD OF 'foliokeep.Counts'. -/
def countsUptoCard : Claim7 := { stood := { row := countsUptoRow, standIns := [], harness := (true, "279bddb7e87f9029efd5d1bb0f576c92c6201e3b932830676ac803505128f47e"), looks := true }, kinds := [], alts := [], laidByText := true, laidKinds := [.data, .data, .data, .data, .sentinel, .sentinel, .data, .data, .data, .pinned, .pinned], laidTests := true, laidLooks := .later }
def CountsUptoCardSaid : Prop := Claim7.holds Tryz.pinned (.plain (OpenSpec.upto countsSpec)) countsUptoCard
end Rows
end Go.Proofs.YtaokifbpakbgdaaGreatDoor
