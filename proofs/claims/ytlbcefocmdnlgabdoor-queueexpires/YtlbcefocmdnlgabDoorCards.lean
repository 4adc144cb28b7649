/-
  DERIVED. GIVEN WITH THE SEED: THE CARDS: each row of YtlbcefocmdnlgabDoorRows.lean that lists a variable, with what it lists TIED to the program's text (the seventh form; the later family's looks); each row that meets fmt, with fmt's text TOLD by the authors' own Lean function (tested against real Go, not proved from fmt's source: count such statements apart). THE CARD IS WHAT COUNTS. Prove the row's statement (the work); the ties are given (YtlbcefocmdnlgabDoorTie.lean); close each card by the builder's one call (the guide's Derived/Test/ToyasCard.lean, 'card_holds'). Laid BY PROGRAM, IN A SANDBOX (cutbox-door.mjs). By AI agents, Wed Nov 11 2026. No macro, syntax, notation, axiom, sorry.
-/
import Derived.Test.YtlbcefocmdnlgabDoorRows
import GoSem.ClaimSeven
namespace Go.Proofs.YtlbcefocmdnlgabDoor
namespace Rows

/-- THE TIED CARD OF 'trivetlaw10.QueueExpires'. -/
def queueExpiresCard : Claim7 := { stood := { row := queueExpiresRow, standIns := [], harness := (true, "cae9c107eb5039427e9ec5e3efeaacdfb16c0456cc52c7914a86df905291cc18"), looks := false }, kinds := [], alts := [], laidByText := true, laidKinds := [.data, .pinned], laidTests := true, laidLooks := .later }
def QueueExpiresCardSaid : Prop := Claim7.holds Tryd.pinned (.plain (OpenSpec.ofChange queueExpiresSpec)) queueExpiresCard

/-- THE SECOND FORM's CARD OF 'trivetlaw10.QueueExpires'. -/
def queueExpiresUptoCard : Claim7 := { stood := { row := queueExpiresUptoRow, standIns := [], harness := (true, "cae9c107eb5039427e9ec5e3efeaacdfb16c0456cc52c7914a86df905291cc18"), looks := false }, kinds := [], alts := [], laidByText := true, laidKinds := [.data, .pinned], laidTests := true, laidLooks := .later }
def QueueExpiresUptoCardSaid : Prop := Claim7.holds Tryd.pinned (.plain (OpenSpec.upto queueExpiresSpec)) queueExpiresUptoCard
end Rows
end Go.Proofs.YtlbcefocmdnlgabDoor
