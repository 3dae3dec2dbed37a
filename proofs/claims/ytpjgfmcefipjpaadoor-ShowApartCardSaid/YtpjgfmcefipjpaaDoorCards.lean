/-
  DERIVED. GIVEN WITH THE SEED: THE CARDS: each row of YtpjgfmcefipjpaaDoorRows.lean that lists a variable, with what it lists TIED to the program's text (the seventh form; the later family's looks); each row that meets fmt, with fmt's text TOLD by the authors' own Lean function (tested against real Go, not proved from fmt's source: count such statements apart). THE CARD IS WHAT COUNTS. Prove the row's statement (the work); the ties are given (YtpjgfmcefipjpaaDoorTie.lean); close each card by the builder's one call (the guide's Derived/Test/ToyasCard.lean, 'card_holds'). Laid BY PROGRAM, IN A SANDBOX (cutbox-door.mjs). By AI agents, Wed Nov 11 2026. No macro, syntax, notation, axiom, sorry.
-/
import Derived.Test.YtpjgfmcefipjpaaDoorRows
import GoSem.ClaimSeven
namespace Go.Proofs.YtpjgfmcefipjpaaDoor
namespace Rows

/-- THE TIED CARD OF 'davitlaw03.ShowRight'. -/
def showRightCard : Claim7 := { stood := { row := showRightRow, standIns := [], harness := (true, "0901d2f80f33a1dced56c84846a3d9ebbb69ce72e1be38978180e656b7874c07"), looks := true }, kinds := [], alts := [], laidByText := true, laidKinds := [.data, .data, .data], laidTests := true, laidLooks := .later }
def ShowRightCardSaid : Prop := Claim7.holds Tryd.pinned (.plain (OpenSpec.ofChange showRightSpec)) showRightCard

/-- THE TIED CARD OF 'davitlaw03.ShowApart'. -/
def showApartCard : Claim7 := { stood := { row := showApartRow, standIns := [], harness := (true, "0901d2f80f33a1dced56c84846a3d9ebbb69ce72e1be38978180e656b7874c07"), looks := true }, kinds := [], alts := [], laidByText := true, laidKinds := [.data, .data, .data], laidTests := true, laidLooks := .later }
def ShowApartCardSaid : Prop := Claim7.holds Tryd.pinned (.plain (OpenSpec.ofChange showApartSpec)) showApartCard

/-- THE TIED CARD OF 'davitlaw03.ShowLines'. -/
def showLinesCard : Claim7 := { stood := { row := showLinesRow, standIns := [], harness := (true, "0901d2f80f33a1dced56c84846a3d9ebbb69ce72e1be38978180e656b7874c07"), looks := true }, kinds := [], alts := [], laidByText := true, laidKinds := [.data, .data, .data], laidTests := true, laidLooks := .later }
def ShowLinesCardSaid : Prop := Claim7.holds Tryd.pinned (.plain (OpenSpec.ofChange showLinesSpec)) showLinesCard

/-- THE TIED CARD OF 'davitlaw04.ReadShows'. -/
def readShowsCard : Claim7 := { stood := { row := readShowsRow, standIns := [], harness := (true, "0901d2f80f33a1dced56c84846a3d9ebbb69ce72e1be38978180e656b7874c07"), looks := true }, kinds := [], alts := [], laidByText := true, laidKinds := [.data, .data, .data, .data, .sentinel, .sentinel, .pinned], laidTests := true, laidLooks := .later }
def ReadShowsCardSaid : Prop := Claim7.holds Tryd.pinned (.plain (OpenSpec.ofChange readShowsSpec)) readShowsCard

/-- THE SECOND FORM's CARD OF 'davitlaw03.ShowRight'. -/
def showRightUptoCard : Claim7 := { stood := { row := showRightUptoRow, standIns := [], harness := (true, "0901d2f80f33a1dced56c84846a3d9ebbb69ce72e1be38978180e656b7874c07"), looks := true }, kinds := [], alts := [], laidByText := true, laidKinds := [.data, .data, .data], laidTests := true, laidLooks := .later }
def ShowRightUptoCardSaid : Prop := Claim7.holds Tryd.pinned (.plain (OpenSpec.upto showRightSpec)) showRightUptoCard

/-- THE SECOND FORM's CARD OF 'davitlaw03.ShowApart'. -/
def showApartUptoCard : Claim7 := { stood := { row := showApartUptoRow, standIns := [], harness := (true, "0901d2f80f33a1dced56c84846a3d9ebbb69ce72e1be38978180e656b7874c07"), looks := true }, kinds := [], alts := [], laidByText := true, laidKinds := [.data, .data, .data], laidTests := true, laidLooks := .later }
def ShowApartUptoCardSaid : Prop := Claim7.holds Tryd.pinned (.plain (OpenSpec.upto showApartSpec)) showApartUptoCard

/-- THE SECOND FORM's CARD OF 'davitlaw03.ShowLines'. -/
def showLinesUptoCard : Claim7 := { stood := { row := showLinesUptoRow, standIns := [], harness := (true, "0901d2f80f33a1dced56c84846a3d9ebbb69ce72e1be38978180e656b7874c07"), looks := true }, kinds := [], alts := [], laidByText := true, laidKinds := [.data, .data, .data], laidTests := true, laidLooks := .later }
def ShowLinesUptoCardSaid : Prop := Claim7.holds Tryd.pinned (.plain (OpenSpec.upto showLinesSpec)) showLinesUptoCard

/-- THE SECOND FORM's CARD OF 'davitlaw04.ReadShows'. -/
def readShowsUptoCard : Claim7 := { stood := { row := readShowsUptoRow, standIns := [], harness := (true, "0901d2f80f33a1dced56c84846a3d9ebbb69ce72e1be38978180e656b7874c07"), looks := true }, kinds := [], alts := [], laidByText := true, laidKinds := [.data, .data, .data, .data, .sentinel, .sentinel, .pinned], laidTests := true, laidLooks := .later }
def ReadShowsUptoCardSaid : Prop := Claim7.holds Tryd.pinned (.plain (OpenSpec.upto readShowsSpec)) readShowsUptoCard
end Rows
end Go.Proofs.YtpjgfmcefipjpaaDoor
