/-
  DERIVED. GIVEN WITH THE SEED: THE CARDS: each row of YtaokcbfenabbgaaGreatDoorRows.lean that lists a variable, with what it lists TIED to the program's text (the seventh form; the later family's looks); each row that meets fmt, with fmt's text TOLD by the authors' own Lean function (tested against real Go, not proved from fmt's source: count such statements apart). THE CARD IS WHAT COUNTS. Prove the row's statement (the work); the ties are given (YtaokcbfenabbgaaGreatDoorTie.lean); close each card by the builder's one call (the guide's Derived/Test/ToyasCard.lean, 'card_holds'). Laid BY PROGRAM, IN A SANDBOX (cutbox-door.mjs). By AI agents, Wed Nov 11 2026. No macro, syntax, notation, axiom, sorry.
-/
import Derived.Test.YtaokcbfenabbgaaGreatDoorRows
import GoSem.ClaimSeven
namespace Go.Proofs.YtaokcbfenabbgaaGreatDoor
namespace Rows

/-- THE TIED CARD OF 'davitlaw04.ReadLines'. -/
def readLinesCard : Claim7 := { stood := { row := readLinesRow, standIns := [], harness := (true, "27e60ce8bf9cd9fb29ef05898d69f63232b23a29573782d13faf29a8df38d78a"), looks := true }, kinds := [], alts := [], laidByText := true, laidKinds := [.data, .data, .data, .data, .sentinel, .sentinel, .pinned], laidTests := true, laidLooks := .later }
def ReadLinesCardSaid : Prop := Claim7.holds Tryz.pinned (.plain (OpenSpec.ofChange readLinesSpec)) readLinesCard

/-- THE TIED CARD OF 'davitlaw04.ReadBack'. -/
def readBackCard : Claim7 := { stood := { row := readBackRow, standIns := [], harness := (true, "27e60ce8bf9cd9fb29ef05898d69f63232b23a29573782d13faf29a8df38d78a"), looks := true }, kinds := [], alts := [], laidByText := true, laidKinds := [.data, .data, .data, .data, .sentinel, .sentinel, .pinned], laidTests := true, laidLooks := .later }
def ReadBackCardSaid : Prop := Claim7.holds Tryz.pinned (.plain (OpenSpec.ofChange readBackSpec)) readBackCard

/-- THE SECOND FORM's CARD OF 'davitlaw04.ReadLines'. -/
def readLinesUptoCard : Claim7 := { stood := { row := readLinesUptoRow, standIns := [], harness := (true, "27e60ce8bf9cd9fb29ef05898d69f63232b23a29573782d13faf29a8df38d78a"), looks := true }, kinds := [], alts := [], laidByText := true, laidKinds := [.data, .data, .data, .data, .sentinel, .sentinel, .pinned], laidTests := true, laidLooks := .later }
def ReadLinesUptoCardSaid : Prop := Claim7.holds Tryz.pinned (.plain (OpenSpec.upto readLinesSpec)) readLinesUptoCard

/-- THE SECOND FORM's CARD OF 'davitlaw04.ReadBack'. -/
def readBackUptoCard : Claim7 := { stood := { row := readBackUptoRow, standIns := [], harness := (true, "27e60ce8bf9cd9fb29ef05898d69f63232b23a29573782d13faf29a8df38d78a"), looks := true }, kinds := [], alts := [], laidByText := true, laidKinds := [.data, .data, .data, .data, .sentinel, .sentinel, .pinned], laidTests := true, laidLooks := .later }
def ReadBackUptoCardSaid : Prop := Claim7.holds Tryz.pinned (.plain (OpenSpec.upto readBackSpec)) readBackUptoCard
end Rows
end Go.Proofs.YtaokcbfenabbgaaGreatDoor
