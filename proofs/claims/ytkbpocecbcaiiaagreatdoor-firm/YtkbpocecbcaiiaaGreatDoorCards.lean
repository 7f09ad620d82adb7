/-
  DERIVED. GIVEN WITH THE SEED: THE CARDS: each row of YtkbpocecbcaiiaaGreatDoorRows.lean that lists a variable, with what it lists TIED to the program's text (the seventh form; the later family's looks); each row that meets fmt, with fmt's text TOLD by the authors' own Lean function (tested against real Go, not proved from fmt's source: count such statements apart). THE CARD IS WHAT COUNTS. Prove the row's statement (the work); the ties are given (YtkbpocecbcaiiaaGreatDoorTie.lean); close each card by the builder's one call (the guide's Derived/Test/ToyasCard.lean, 'card_holds'). Laid BY PROGRAM, IN A SANDBOX (cutbox-door.mjs). By AI agents, Wed Nov 11 2026. No macro, syntax, notation, axiom, sorry.
-/
import Derived.Test.YtkbpocecbcaiiaaGreatDoorRows
import GoSem.ClaimSeven
namespace Go.Proofs.YtkbpocecbcaiiaaGreatDoor
namespace Rows

/-- THE TIED CARD OF 'railslaw.News'. -/
def newsCard : Claim7 := { stood := { row := newsRow, standIns := [], harness := (true, "0ba80cd97ed6ed877fc845b97e17d5012715213036a3e6953f263e54bf106b24"), looks := false }, kinds := [], alts := [], laidByText := true, laidKinds := [.data, .data, .data], laidTests := true, laidLooks := .later }
def NewsCardSaid : Prop := Claim7.holds Tryz.pinned (.plain (OpenSpec.ofChange newsSpec)) newsCard

/-- THE TIED CARD OF 'railslaw.Answers'. -/
def answersCard : Claim7 := { stood := { row := answersRow, standIns := [], harness := (true, "0ba80cd97ed6ed877fc845b97e17d5012715213036a3e6953f263e54bf106b24"), looks := false }, kinds := [], alts := [], laidByText := true, laidKinds := [.data, .data, .data], laidTests := true, laidLooks := .later }
def AnswersCardSaid : Prop := Claim7.holds Tryz.pinned (.plain (OpenSpec.ofChange answersSpec)) answersCard

/-- THE TIED CARD OF 'railslaw.Locked'. -/
def lockedCard : Claim7 := { stood := { row := lockedRow, standIns := [], harness := (true, "0ba80cd97ed6ed877fc845b97e17d5012715213036a3e6953f263e54bf106b24"), looks := false }, kinds := [], alts := [], laidByText := true, laidKinds := [.data, .data, .data], laidTests := true, laidLooks := .later }
def LockedCardSaid : Prop := Claim7.holds Tryz.pinned (.plain (OpenSpec.ofChange lockedSpec)) lockedCard

/-- THE TIED CARD OF 'railslaw.Lying'. -/
def lyingCard : Claim7 := { stood := { row := lyingRow, standIns := [], harness := (true, "0ba80cd97ed6ed877fc845b97e17d5012715213036a3e6953f263e54bf106b24"), looks := false }, kinds := [], alts := [], laidByText := true, laidKinds := [.data, .data, .data], laidTests := true, laidLooks := .later }
def LyingCardSaid : Prop := Claim7.holds Tryz.pinned (.plain (OpenSpec.ofChange lyingSpec)) lyingCard

/-- THE TIED CARD OF 'railslaw.Queued'. -/
def queuedCard : Claim7 := { stood := { row := queuedRow, standIns := [], harness := (true, "0ba80cd97ed6ed877fc845b97e17d5012715213036a3e6953f263e54bf106b24"), looks := false }, kinds := [], alts := [], laidByText := true, laidKinds := [.data, .data, .data], laidTests := true, laidLooks := .later }
def QueuedCardSaid : Prop := Claim7.holds Tryz.pinned (.plain (OpenSpec.ofChange queuedSpec)) queuedCard

/-- THE TIED CARD OF 'railslaw.All'. -/
def allCard : Claim7 := { stood := { row := allRow, standIns := [], harness := (true, "0ba80cd97ed6ed877fc845b97e17d5012715213036a3e6953f263e54bf106b24"), looks := false }, kinds := [], alts := [], laidByText := true, laidKinds := [.data, .data, .data], laidTests := true, laidLooks := .later }
def AllCardSaid : Prop := Claim7.holds Tryz.pinned (.plain (OpenSpec.ofChange allSpec)) allCard

/-- THE TIED CARD OF 'railskeep.Clear'. -/
def clearCard : Claim7 := { stood := { row := clearRow, standIns := [], harness := (true, "0ba80cd97ed6ed877fc845b97e17d5012715213036a3e6953f263e54bf106b24"), looks := false }, kinds := [], alts := [], laidByText := true, laidKinds := [.data, .data, .data], laidTests := true, laidLooks := .later }
def ClearCardSaid : Prop := Claim7.holds Tryz.pinned (.plain (OpenSpec.ofChange clearSpec)) clearCard

/-- THE TIED CARD OF 'railskeep.Apart'. -/
def apartCard : Claim7 := { stood := { row := apartRow, standIns := [], harness := (true, "0ba80cd97ed6ed877fc845b97e17d5012715213036a3e6953f263e54bf106b24"), looks := false }, kinds := [], alts := [], laidByText := true, laidKinds := [.data, .data, .data], laidTests := true, laidLooks := .later }
def ApartCardSaid : Prop := Claim7.holds Tryz.pinned (.plain (OpenSpec.ofChange apartSpec)) apartCard

/-- THE TIED CARD OF 'railskeep.Firm'. -/
def firmCard : Claim7 := { stood := { row := firmRow, standIns := [], harness := (true, "0ba80cd97ed6ed877fc845b97e17d5012715213036a3e6953f263e54bf106b24"), looks := false }, kinds := [], alts := [], laidByText := true, laidKinds := [.data, .data, .data], laidTests := true, laidLooks := .later }
def FirmCardSaid : Prop := Claim7.holds Tryz.pinned (.plain (OpenSpec.ofChange firmSpec)) firmCard

/-- THE SECOND FORM's CARD OF 'railslaw.News'. -/
def newsUptoCard : Claim7 := { stood := { row := newsUptoRow, standIns := [], harness := (true, "0ba80cd97ed6ed877fc845b97e17d5012715213036a3e6953f263e54bf106b24"), looks := false }, kinds := [], alts := [], laidByText := true, laidKinds := [.data, .data, .data], laidTests := true, laidLooks := .later }
def NewsUptoCardSaid : Prop := Claim7.holds Tryz.pinned (.plain (OpenSpec.upto newsSpec)) newsUptoCard

/-- THE SECOND FORM's CARD OF 'railslaw.Answers'. -/
def answersUptoCard : Claim7 := { stood := { row := answersUptoRow, standIns := [], harness := (true, "0ba80cd97ed6ed877fc845b97e17d5012715213036a3e6953f263e54bf106b24"), looks := false }, kinds := [], alts := [], laidByText := true, laidKinds := [.data, .data, .data], laidTests := true, laidLooks := .later }
def AnswersUptoCardSaid : Prop := Claim7.holds Tryz.pinned (.plain (OpenSpec.upto answersSpec)) answersUptoCard

/-- THE SECOND FORM's CARD OF 'railslaw.Locked'. -/
def lockedUptoCard : Claim7 := { stood := { row := lockedUptoRow, standIns := [], harness := (true, "0ba80cd97ed6ed877fc845b97e17d5012715213036a3e6953f263e54bf106b24"), looks := false }, kinds := [], alts := [], laidByText := true, laidKinds := [.data, .data, .data], laidTests := true, laidLooks := .later }
def LockedUptoCardSaid : Prop := Claim7.holds Tryz.pinned (.plain (OpenSpec.upto lockedSpec)) lockedUptoCard

/-- THE SECOND FORM's CARD OF 'railslaw.Lying'. -/
def lyingUptoCard : Claim7 := { stood := { row := lyingUptoRow, standIns := [], harness := (true, "0ba80cd97ed6ed877fc845b97e17d5012715213036a3e6953f263e54bf106b24"), looks := false }, kinds := [], alts := [], laidByText := true, laidKinds := [.data, .data, .data], laidTests := true, laidLooks := .later }
def LyingUptoCardSaid : Prop := Claim7.holds Tryz.pinned (.plain (OpenSpec.upto lyingSpec)) lyingUptoCard

/-- THE SECOND FORM's CARD OF 'railslaw.Queued'. -/
def queuedUptoCard : Claim7 := { stood := { row := queuedUptoRow, standIns := [], harness := (true, "0ba80cd97ed6ed877fc845b97e17d5012715213036a3e6953f263e54bf106b24"), looks := false }, kinds := [], alts := [], laidByText := true, laidKinds := [.data, .data, .data], laidTests := true, laidLooks := .later }
def QueuedUptoCardSaid : Prop := Claim7.holds Tryz.pinned (.plain (OpenSpec.upto queuedSpec)) queuedUptoCard

/-- THE SECOND FORM's CARD OF 'railslaw.All'. -/
def allUptoCard : Claim7 := { stood := { row := allUptoRow, standIns := [], harness := (true, "0ba80cd97ed6ed877fc845b97e17d5012715213036a3e6953f263e54bf106b24"), looks := false }, kinds := [], alts := [], laidByText := true, laidKinds := [.data, .data, .data], laidTests := true, laidLooks := .later }
def AllUptoCardSaid : Prop := Claim7.holds Tryz.pinned (.plain (OpenSpec.upto allSpec)) allUptoCard

/-- THE SECOND FORM's CARD OF 'railskeep.Clear'. -/
def clearUptoCard : Claim7 := { stood := { row := clearUptoRow, standIns := [], harness := (true, "0ba80cd97ed6ed877fc845b97e17d5012715213036a3e6953f263e54bf106b24"), looks := false }, kinds := [], alts := [], laidByText := true, laidKinds := [.data, .data, .data], laidTests := true, laidLooks := .later }
def ClearUptoCardSaid : Prop := Claim7.holds Tryz.pinned (.plain (OpenSpec.upto clearSpec)) clearUptoCard

/-- THE SECOND FORM's CARD OF 'railskeep.Apart'. -/
def apartUptoCard : Claim7 := { stood := { row := apartUptoRow, standIns := [], harness := (true, "0ba80cd97ed6ed877fc845b97e17d5012715213036a3e6953f263e54bf106b24"), looks := false }, kinds := [], alts := [], laidByText := true, laidKinds := [.data, .data, .data], laidTests := true, laidLooks := .later }
def ApartUptoCardSaid : Prop := Claim7.holds Tryz.pinned (.plain (OpenSpec.upto apartSpec)) apartUptoCard

/-- THE SECOND FORM's CARD OF 'railskeep.Firm'. -/
def firmUptoCard : Claim7 := { stood := { row := firmUptoRow, standIns := [], harness := (true, "0ba80cd97ed6ed877fc845b97e17d5012715213036a3e6953f263e54bf106b24"), looks := false }, kinds := [], alts := [], laidByText := true, laidKinds := [.data, .data, .data], laidTests := true, laidLooks := .later }
def FirmUptoCardSaid : Prop := Claim7.holds Tryz.pinned (.plain (OpenSpec.upto firmSpec)) firmUptoCard
end Rows
end Go.Proofs.YtkbpocecbcaiiaaGreatDoor
