/-
  DERIVED. GIVEN WITH THE SEED: THE CARDS: each row of YtlhfdklfkfodkaaDoorRows.lean that lists a variable, with what it lists TIED to the program's text (the seventh form; the later family's looks); each row that meets fmt, with fmt's text TOLD by the authors' own Lean function (tested against real Go, not proved from fmt's source: count such statements apart). THE CARD IS WHAT COUNTS. Prove the row's statement (the work); the ties are given (YtlhfdklfkfodkaaDoorTie.lean); close each card by the builder's one call (the guide's Derived/Test/ToyasCard.lean, 'card_holds'). Laid BY PROGRAM, IN A SANDBOX (cutbox-door.mjs). By AI agents, Wed Nov 11 2026. No macro, syntax, notation, axiom, sorry.
-/
import Derived.Test.YtlhfdklfkfodkaaDoorRows
import GoSem.ClaimSeven
namespace Go.Proofs.YtlhfdklfkfodkaaDoor
namespace Rows

/-- THE TIED CARD OF 'trivetlaw07.PropOrders'. -/
def propOrdersCard : Claim7 := { stood := { row := propOrdersRow, standIns := [], harness := (true, "1fc1b8861f4c4a98bceb5be78f9410064f07c6532b7b36a3fd37b93982242f73"), looks := false }, kinds := [], alts := [], laidByText := true, laidKinds := [.data, .data, .data, .data, .pinned, .pinned], laidTests := true, laidLooks := .later }
def PropOrdersCardSaid : Prop := Claim7.holds Tryd.pinned (.plain (OpenSpec.ofChange propOrdersSpec)) propOrdersCard

/-- THE TIED CARD OF 'trivetlaw07.PropSets'. -/
def propSetsCard : Claim7 := { stood := { row := propSetsRow, standIns := [], harness := (true, "1fc1b8861f4c4a98bceb5be78f9410064f07c6532b7b36a3fd37b93982242f73"), looks := false }, kinds := [], alts := [], laidByText := true, laidKinds := [.data, .data, .data, .data, .pinned, .pinned], laidTests := true, laidLooks := .later }
def PropSetsCardSaid : Prop := Claim7.holds Tryd.pinned (.plain (OpenSpec.ofChange propSetsSpec)) propSetsCard

/-- THE TIED CARD OF 'trivetlaw07.PropKeeps'. -/
def propKeepsCard : Claim7 := { stood := { row := propKeepsRow, standIns := [], harness := (true, "1fc1b8861f4c4a98bceb5be78f9410064f07c6532b7b36a3fd37b93982242f73"), looks := false }, kinds := [], alts := [], laidByText := true, laidKinds := [.data, .data, .data, .data, .pinned, .pinned], laidTests := true, laidLooks := .later }
def PropKeepsCardSaid : Prop := Claim7.holds Tryd.pinned (.plain (OpenSpec.ofChange propKeepsSpec)) propKeepsCard

/-- THE SECOND FORM's CARD OF 'trivetlaw07.PropOrders'. -/
def propOrdersUptoCard : Claim7 := { stood := { row := propOrdersUptoRow, standIns := [], harness := (true, "1fc1b8861f4c4a98bceb5be78f9410064f07c6532b7b36a3fd37b93982242f73"), looks := false }, kinds := [], alts := [], laidByText := true, laidKinds := [.data, .data, .data, .data, .pinned, .pinned], laidTests := true, laidLooks := .later }
def PropOrdersUptoCardSaid : Prop := Claim7.holds Tryd.pinned (.plain (OpenSpec.upto propOrdersSpec)) propOrdersUptoCard

/-- THE SECOND FORM's CARD OF 'trivetlaw07.PropSets'. -/
def propSetsUptoCard : Claim7 := { stood := { row := propSetsUptoRow, standIns := [], harness := (true, "1fc1b8861f4c4a98bceb5be78f9410064f07c6532b7b36a3fd37b93982242f73"), looks := false }, kinds := [], alts := [], laidByText := true, laidKinds := [.data, .data, .data, .data, .pinned, .pinned], laidTests := true, laidLooks := .later }
def PropSetsUptoCardSaid : Prop := Claim7.holds Tryd.pinned (.plain (OpenSpec.upto propSetsSpec)) propSetsUptoCard

/-- THE SECOND FORM's CARD OF 'trivetlaw07.PropKeeps'. -/
def propKeepsUptoCard : Claim7 := { stood := { row := propKeepsUptoRow, standIns := [], harness := (true, "1fc1b8861f4c4a98bceb5be78f9410064f07c6532b7b36a3fd37b93982242f73"), looks := false }, kinds := [], alts := [], laidByText := true, laidKinds := [.data, .data, .data, .data, .pinned, .pinned], laidTests := true, laidLooks := .later }
def PropKeepsUptoCardSaid : Prop := Claim7.holds Tryd.pinned (.plain (OpenSpec.upto propKeepsSpec)) propKeepsUptoCard
end Rows
end Go.Proofs.YtlhfdklfkfodkaaDoor
