/-
  DERIVED. GIVEN WITH THE SEED: THE CARDS: each row of YtkbpocecbcaiiabGreatDoorRows.lean that lists a variable, with what it lists TIED to the program's text (the seventh form; the later family's looks); each row that meets fmt, with fmt's text TOLD by the authors' own Lean function (tested against real Go, not proved from fmt's source: count such statements apart). THE CARD IS WHAT COUNTS. Prove the row's statement (the work); the ties are given (YtkbpocecbcaiiabGreatDoorTie.lean); close each card by the builder's one call (the guide's Derived/Test/ToyasCard.lean, 'card_holds'). Laid BY PROGRAM, IN A SANDBOX (cutbox-door.mjs). By AI agents, Wed Nov 11 2026. No macro, syntax, notation, axiom, sorry.
-/
import Derived.Test.YtkbpocecbcaiiabGreatDoorRows
import GoSem.ClaimSeven
namespace Go.Proofs.YtkbpocecbcaiiabGreatDoor
namespace Rows

/-- THE TIED CARD OF 'railskeep.Deaf'. -/
def deafCard : Claim7 := { stood := { row := deafRow, standIns := [], harness := (true, "d83eeba982decea2a9750b8f9d442e9d8cbf3f873387f13fd4f45f88060f8c87"), looks := false }, kinds := [], alts := [], laidByText := true, laidKinds := [.data, .data, .data], laidTests := true, laidLooks := .later }
def DeafCardSaid : Prop := Claim7.holds Tryz.pinned (.plain (OpenSpec.ofChange deafSpec)) deafCard

/-- THE TIED CARD OF 'railskeep.Books'. -/
def booksCard : Claim7 := { stood := { row := booksRow, standIns := [], harness := (true, "d83eeba982decea2a9750b8f9d442e9d8cbf3f873387f13fd4f45f88060f8c87"), looks := false }, kinds := [], alts := [], laidByText := true, laidKinds := [.data, .data, .data], laidTests := true, laidLooks := .later }
def BooksCardSaid : Prop := Claim7.holds Tryz.pinned (.plain (OpenSpec.ofChange booksSpec)) booksCard

/-- THE TIED CARD OF 'railskeep.Sure'. -/
def sureCard : Claim7 := { stood := { row := sureRow, standIns := [], harness := (true, "d83eeba982decea2a9750b8f9d442e9d8cbf3f873387f13fd4f45f88060f8c87"), looks := false }, kinds := [], alts := [], laidByText := true, laidKinds := [.data, .data, .data], laidTests := true, laidLooks := .later }
def SureCardSaid : Prop := Claim7.holds Tryz.pinned (.plain (OpenSpec.ofChange sureSpec)) sureCard

/-- THE TIED CARD OF 'railskeep.Held'. -/
def heldCard : Claim7 := { stood := { row := heldRow, standIns := [], harness := (true, "d83eeba982decea2a9750b8f9d442e9d8cbf3f873387f13fd4f45f88060f8c87"), looks := false }, kinds := [], alts := [], laidByText := true, laidKinds := [.data, .data, .data], laidTests := true, laidLooks := .later }
def HeldCardSaid : Prop := Claim7.holds Tryz.pinned (.plain (OpenSpec.ofChange heldSpec)) heldCard

/-- THE TIED CARD OF 'railskeep.Latched'. -/
def latchedCard : Claim7 := { stood := { row := latchedRow, standIns := [], harness := (true, "d83eeba982decea2a9750b8f9d442e9d8cbf3f873387f13fd4f45f88060f8c87"), looks := false }, kinds := [], alts := [], laidByText := true, laidKinds := [.data, .data, .data], laidTests := true, laidLooks := .later }
def LatchedCardSaid : Prop := Claim7.holds Tryz.pinned (.plain (OpenSpec.ofChange latchedSpec)) latchedCard

/-- THE TIED CARD OF 'railskeep.Through'. -/
def throughCard : Claim7 := { stood := { row := throughRow, standIns := [], harness := (true, "d83eeba982decea2a9750b8f9d442e9d8cbf3f873387f13fd4f45f88060f8c87"), looks := false }, kinds := [], alts := [], laidByText := true, laidKinds := [.data, .data, .data], laidTests := true, laidLooks := .later }
def ThroughCardSaid : Prop := Claim7.holds Tryz.pinned (.plain (OpenSpec.ofChange throughSpec)) throughCard

/-- THE SECOND FORM's CARD OF 'railskeep.Deaf'. -/
def deafUptoCard : Claim7 := { stood := { row := deafUptoRow, standIns := [], harness := (true, "d83eeba982decea2a9750b8f9d442e9d8cbf3f873387f13fd4f45f88060f8c87"), looks := false }, kinds := [], alts := [], laidByText := true, laidKinds := [.data, .data, .data], laidTests := true, laidLooks := .later }
def DeafUptoCardSaid : Prop := Claim7.holds Tryz.pinned (.plain (OpenSpec.upto deafSpec)) deafUptoCard

/-- THE SECOND FORM's CARD OF 'railskeep.Books'. -/
def booksUptoCard : Claim7 := { stood := { row := booksUptoRow, standIns := [], harness := (true, "d83eeba982decea2a9750b8f9d442e9d8cbf3f873387f13fd4f45f88060f8c87"), looks := false }, kinds := [], alts := [], laidByText := true, laidKinds := [.data, .data, .data], laidTests := true, laidLooks := .later }
def BooksUptoCardSaid : Prop := Claim7.holds Tryz.pinned (.plain (OpenSpec.upto booksSpec)) booksUptoCard

/-- THE SECOND FORM's CARD OF 'railskeep.Sure'. -/
def sureUptoCard : Claim7 := { stood := { row := sureUptoRow, standIns := [], harness := (true, "d83eeba982decea2a9750b8f9d442e9d8cbf3f873387f13fd4f45f88060f8c87"), looks := false }, kinds := [], alts := [], laidByText := true, laidKinds := [.data, .data, .data], laidTests := true, laidLooks := .later }
def SureUptoCardSaid : Prop := Claim7.holds Tryz.pinned (.plain (OpenSpec.upto sureSpec)) sureUptoCard

/-- THE SECOND FORM's CARD OF 'railskeep.Held'. -/
def heldUptoCard : Claim7 := { stood := { row := heldUptoRow, standIns := [], harness := (true, "d83eeba982decea2a9750b8f9d442e9d8cbf3f873387f13fd4f45f88060f8c87"), looks := false }, kinds := [], alts := [], laidByText := true, laidKinds := [.data, .data, .data], laidTests := true, laidLooks := .later }
def HeldUptoCardSaid : Prop := Claim7.holds Tryz.pinned (.plain (OpenSpec.upto heldSpec)) heldUptoCard

/-- THE SECOND FORM's CARD OF 'railskeep.Latched'. -/
def latchedUptoCard : Claim7 := { stood := { row := latchedUptoRow, standIns := [], harness := (true, "d83eeba982decea2a9750b8f9d442e9d8cbf3f873387f13fd4f45f88060f8c87"), looks := false }, kinds := [], alts := [], laidByText := true, laidKinds := [.data, .data, .data], laidTests := true, laidLooks := .later }
def LatchedUptoCardSaid : Prop := Claim7.holds Tryz.pinned (.plain (OpenSpec.upto latchedSpec)) latchedUptoCard

/-- THE SECOND FORM's CARD OF 'railskeep.Through'. -/
def throughUptoCard : Claim7 := { stood := { row := throughUptoRow, standIns := [], harness := (true, "d83eeba982decea2a9750b8f9d442e9d8cbf3f873387f13fd4f45f88060f8c87"), looks := false }, kinds := [], alts := [], laidByText := true, laidKinds := [.data, .data, .data], laidTests := true, laidLooks := .later }
def ThroughUptoCardSaid : Prop := Claim7.holds Tryz.pinned (.plain (OpenSpec.upto throughSpec)) throughUptoCard
end Rows
end Go.Proofs.YtkbpocecbcaiiabGreatDoor
