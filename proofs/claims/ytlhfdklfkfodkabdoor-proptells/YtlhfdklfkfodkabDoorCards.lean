/-
  DERIVED. GIVEN WITH THE SEED: THE CARDS: each row of YtlhfdklfkfodkabDoorRows.lean that lists a variable, with what it lists TIED to the program's text (the seventh form; the later family's looks); each row that meets fmt, with fmt's text TOLD by the authors' own Lean function (tested against real Go, not proved from fmt's source: count such statements apart). THE CARD IS WHAT COUNTS. Prove the row's statement (the work); the ties are given (YtlhfdklfkfodkabDoorTie.lean); close each card by the builder's one call (the guide's Derived/Test/ToyasCard.lean, 'card_holds'). Laid BY PROGRAM, IN A SANDBOX (cutbox-door.mjs). By AI agents, Wed Nov 11 2026. No macro, syntax, notation, axiom, sorry.
-/
import Derived.Test.YtlhfdklfkfodkabDoorRows
import GoSem.ClaimSeven
namespace Go.Proofs.YtlhfdklfkfodkabDoor
namespace Rows

/-- THE TIED CARD OF 'trivetlaw07.PropTells'. -/
def propTellsCard : Claim7 := { stood := { row := propTellsRow, standIns := [], harness := (true, "3dd8e59b54aba4a89cf26563a5affb8bb6c9721d2219bd138134fca6eda82925"), looks := false }, kinds := [], alts := [], laidByText := true, laidKinds := [.data, .data, .data, .data, .pinned, .pinned], laidTests := true, laidLooks := .later }
def PropTellsCardSaid : Prop := Claim7.holds Tryd.pinned (.plain (OpenSpec.ofChange propTellsSpec)) propTellsCard

/-- THE SECOND FORM's CARD OF 'trivetlaw07.PropTells'. -/
def propTellsUptoCard : Claim7 := { stood := { row := propTellsUptoRow, standIns := [], harness := (true, "3dd8e59b54aba4a89cf26563a5affb8bb6c9721d2219bd138134fca6eda82925"), looks := false }, kinds := [], alts := [], laidByText := true, laidKinds := [.data, .data, .data, .data, .pinned, .pinned], laidTests := true, laidLooks := .later }
def PropTellsUptoCardSaid : Prop := Claim7.holds Tryd.pinned (.plain (OpenSpec.upto propTellsSpec)) propTellsUptoCard
end Rows
end Go.Proofs.YtlhfdklfkfodkabDoor
