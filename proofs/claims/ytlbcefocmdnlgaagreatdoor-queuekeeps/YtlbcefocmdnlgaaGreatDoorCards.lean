/-
  DERIVED. GIVEN WITH THE SEED: THE CARDS: each row of YtlbcefocmdnlgaaGreatDoorRows.lean that lists a variable, with what it lists TIED to the program's text (the seventh form; the later family's looks); each row that meets fmt, with fmt's text TOLD by the authors' own Lean function (tested against real Go, not proved from fmt's source: count such statements apart). THE CARD IS WHAT COUNTS. Prove the row's statement (the work); the ties are given (YtlbcefocmdnlgaaGreatDoorTie.lean); close each card by the builder's one call (the guide's Derived/Test/ToyasCard.lean, 'card_holds'). Laid BY PROGRAM, IN A SANDBOX (cutbox-door.mjs). By AI agents, Wed Nov 11 2026. No macro, syntax, notation, axiom, sorry.
-/
import Derived.Test.YtlbcefocmdnlgaaGreatDoorRows
import GoSem.ClaimSeven
namespace Go.Proofs.YtlbcefocmdnlgaaGreatDoor
namespace Rows

/-- THE TIED CARD OF 'trivetlaw10.QueueCan'. -/
def queueCanCard : Claim7 := { stood := { row := queueCanRow, standIns := [], harness := (true, "e3316597b48b911485576a4ab5e65ef44e4937b24155ac583fcc7ee91b013ed4"), looks := false }, kinds := [], alts := [], laidByText := true, laidKinds := [.data, .pinned], laidTests := true, laidLooks := .later }
def QueueCanCardSaid : Prop := Claim7.holds Tryz.pinned (.plain (OpenSpec.ofChange queueCanSpec)) queueCanCard

/-- THE TIED CARD OF 'trivetlaw10.QueueDoes'. -/
def queueDoesCard : Claim7 := { stood := { row := queueDoesRow, standIns := [], harness := (true, "e3316597b48b911485576a4ab5e65ef44e4937b24155ac583fcc7ee91b013ed4"), looks := false }, kinds := [], alts := [], laidByText := true, laidKinds := [.data, .pinned], laidTests := true, laidLooks := .later }
def QueueDoesCardSaid : Prop := Claim7.holds Tryz.pinned (.plain (OpenSpec.ofChange queueDoesSpec)) queueDoesCard

/-- THE TIED CARD OF 'trivetlaw10.QueueKeeps'. -/
def queueKeepsCard : Claim7 := { stood := { row := queueKeepsRow, standIns := [], harness := (true, "e3316597b48b911485576a4ab5e65ef44e4937b24155ac583fcc7ee91b013ed4"), looks := false }, kinds := [], alts := [], laidByText := true, laidKinds := [.data, .pinned], laidTests := true, laidLooks := .later }
def QueueKeepsCardSaid : Prop := Claim7.holds Tryz.pinned (.plain (OpenSpec.ofChange queueKeepsSpec)) queueKeepsCard

/-- THE SECOND FORM's CARD OF 'trivetlaw10.QueueCan'. -/
def queueCanUptoCard : Claim7 := { stood := { row := queueCanUptoRow, standIns := [], harness := (true, "e3316597b48b911485576a4ab5e65ef44e4937b24155ac583fcc7ee91b013ed4"), looks := false }, kinds := [], alts := [], laidByText := true, laidKinds := [.data, .pinned], laidTests := true, laidLooks := .later }
def QueueCanUptoCardSaid : Prop := Claim7.holds Tryz.pinned (.plain (OpenSpec.upto queueCanSpec)) queueCanUptoCard

/-- THE SECOND FORM's CARD OF 'trivetlaw10.QueueDoes'. -/
def queueDoesUptoCard : Claim7 := { stood := { row := queueDoesUptoRow, standIns := [], harness := (true, "e3316597b48b911485576a4ab5e65ef44e4937b24155ac583fcc7ee91b013ed4"), looks := false }, kinds := [], alts := [], laidByText := true, laidKinds := [.data, .pinned], laidTests := true, laidLooks := .later }
def QueueDoesUptoCardSaid : Prop := Claim7.holds Tryz.pinned (.plain (OpenSpec.upto queueDoesSpec)) queueDoesUptoCard

/-- THE SECOND FORM's CARD OF 'trivetlaw10.QueueKeeps'. -/
def queueKeepsUptoCard : Claim7 := { stood := { row := queueKeepsUptoRow, standIns := [], harness := (true, "e3316597b48b911485576a4ab5e65ef44e4937b24155ac583fcc7ee91b013ed4"), looks := false }, kinds := [], alts := [], laidByText := true, laidKinds := [.data, .pinned], laidTests := true, laidLooks := .later }
def QueueKeepsUptoCardSaid : Prop := Claim7.holds Tryz.pinned (.plain (OpenSpec.upto queueKeepsSpec)) queueKeepsUptoCard
end Rows
end Go.Proofs.YtlbcefocmdnlgaaGreatDoor
