/-
  DERIVED. GIVEN WITH THE SEED: THE CARDS: each row of YtbdfhmffdnlbfabDoorRows.lean that lists a variable, with what it lists TIED to the program's text (the seventh form; the later family's looks); each row that meets fmt, with fmt's text TOLD by the authors' own Lean function (tested against real Go, not proved from fmt's source: count such statements apart). THE CARD IS WHAT COUNTS. Prove the row's statement (the work); the ties are given (YtbdfhmffdnlbfabDoorTie.lean); close each card by the builder's one call (the guide's Derived/Test/ToyasCard.lean, 'card_holds'). Laid BY PROGRAM, IN A SANDBOX (cutbox-door.mjs). By AI agents, Wed Nov 11 2026. No macro, syntax, notation, axiom, sorry.
-/
import Derived.Test.YtbdfhmffdnlbfabDoorRows
import GoSem.ClaimSeven
namespace Go.Proofs.YtbdfhmffdnlbfabDoor
namespace Rows

/-- THE TIED CARD OF 'trivetlaw01.CordRows'. -/
def cordRowsCard : Claim7 := { stood := { row := cordRowsRow, standIns := [], harness := (true, "4484472a20fd45dd675f9e80ee7a8f61d4125fde28ee56ad155a4a47a8df1660"), looks := true }, kinds := [], alts := [], laidByText := true, laidKinds := [.data, .data, .data, .sentinel, .sentinel], laidTests := true, laidLooks := .later }
def CordRowsCardSaid : Prop := Claim7.holds Tryd.pinned (.plain (OpenSpec.ofChange cordRowsSpec)) cordRowsCard

/-- THE SECOND FORM's CARD OF 'trivetlaw01.CordRows'. -/
def cordRowsUptoCard : Claim7 := { stood := { row := cordRowsUptoRow, standIns := [], harness := (true, "4484472a20fd45dd675f9e80ee7a8f61d4125fde28ee56ad155a4a47a8df1660"), looks := true }, kinds := [], alts := [], laidByText := true, laidKinds := [.data, .data, .data, .sentinel, .sentinel], laidTests := true, laidLooks := .later }
def CordRowsUptoCardSaid : Prop := Claim7.holds Tryd.pinned (.plain (OpenSpec.upto cordRowsSpec)) cordRowsUptoCard
end Rows
end Go.Proofs.YtbdfhmffdnlbfabDoor
