/-
  DERIVED. GIVEN WITH THE SEED: THE CARDS: each row of YtkbpocecbcaiiaaDoorRows.lean that lists a variable, with what it lists TIED to the program's text (the seventh form; the later family's looks); each row that meets fmt, with fmt's text TOLD by the authors' own Lean function (tested against real Go, not proved from fmt's source: count such statements apart). THE CARD IS WHAT COUNTS. Prove the row's statement (the work); the ties are given (YtkbpocecbcaiiaaDoorTie.lean); close each card by the builder's one call (the guide's Derived/Test/ToyasCard.lean, 'card_holds'). Laid BY PROGRAM, IN A SANDBOX (cutbox-door.mjs). By AI agents, Wed Nov 11 2026. No macro, syntax, notation, axiom, sorry.
-/
import Derived.Test.YtkbpocecbcaiiaaDoorRows
import GoSem.ClaimSeven
namespace Go.Proofs.YtkbpocecbcaiiaaDoor
namespace Rows

/-- THE TIED CARD OF 'railslaw.Orders'. -/
def ordersCard : Claim7 := { stood := { row := ordersRow, standIns := [], harness := (true, "142b77f50f6af5e30fcc3c4ae8dca5377a70ea3abf54e01ca30f17e1c1690455"), looks := false }, kinds := [], alts := [], laidByText := true, laidKinds := [.data, .data, .data], laidTests := true, laidLooks := .later }
def OrdersCardSaid : Prop := Claim7.holds Tryd.pinned (.plain (OpenSpec.ofChange ordersSpec)) ordersCard

/-- THE SECOND FORM's CARD OF 'railslaw.Orders'. -/
def ordersUptoCard : Claim7 := { stood := { row := ordersUptoRow, standIns := [], harness := (true, "142b77f50f6af5e30fcc3c4ae8dca5377a70ea3abf54e01ca30f17e1c1690455"), looks := false }, kinds := [], alts := [], laidByText := true, laidKinds := [.data, .data, .data], laidTests := true, laidLooks := .later }
def OrdersUptoCardSaid : Prop := Claim7.holds Tryd.pinned (.plain (OpenSpec.upto ordersSpec)) ordersUptoCard
end Rows
end Go.Proofs.YtkbpocecbcaiiaaDoor
