/-
  DERIVED. GIVEN WITH THE SEED: THE CARDS: each row of YtlbcefocmdnlgaaDoorRows.lean that lists a variable, with what it lists TIED to the program's text (the seventh form; the later family's looks); each row that meets fmt, with fmt's text TOLD by the authors' own Lean function (tested against real Go, not proved from fmt's source: count such statements apart). THE CARD IS WHAT COUNTS. Prove the row's statement (the work); the ties are given (YtlbcefocmdnlgaaDoorTie.lean); close each card by the builder's one call (the guide's Derived/Test/ToyasCard.lean, 'card_holds'). Laid BY PROGRAM, IN A SANDBOX (cutbox-door.mjs). By AI agents, Wed Nov 11 2026. No macro, syntax, notation, axiom, sorry.
-/
import Derived.Test.YtlbcefocmdnlgaaDoorRows
import GoSem.ClaimSeven
namespace Go.Proofs.YtlbcefocmdnlgaaDoor
namespace Rows

/-- THE TIED CARD OF 'trivetlaw10.QueueStays'. -/
def queueStaysCard : Claim7 := { stood := { row := queueStaysRow, standIns := [], harness := (true, "ce4bc7af2a4bbabf80f55cf37cee85a128ee2d620ae31606838b14f6b0f05dea"), looks := false }, kinds := [], alts := [], laidByText := true, laidKinds := [.data, .pinned], laidTests := true, laidLooks := .later }
def QueueStaysCardSaid : Prop := Claim7.holds Tryd.pinned (.plain (OpenSpec.ofChange queueStaysSpec)) queueStaysCard

/-- THE TIED CARD OF 'trivetlaw10.QueueTells'. -/
def queueTellsCard : Claim7 := { stood := { row := queueTellsRow, standIns := [], harness := (true, "ce4bc7af2a4bbabf80f55cf37cee85a128ee2d620ae31606838b14f6b0f05dea"), looks := false }, kinds := [], alts := [], laidByText := true, laidKinds := [.data, .pinned], laidTests := true, laidLooks := .later }
def QueueTellsCardSaid : Prop := Claim7.holds Tryd.pinned (.plain (OpenSpec.ofChange queueTellsSpec)) queueTellsCard

/-- THE TIED CARD OF 'trivetlaw10.QueueReleases'. -/
def queueReleasesCard : Claim7 := { stood := { row := queueReleasesRow, standIns := [], harness := (true, "ce4bc7af2a4bbabf80f55cf37cee85a128ee2d620ae31606838b14f6b0f05dea"), looks := false }, kinds := [], alts := [], laidByText := true, laidKinds := [.data, .pinned], laidTests := true, laidLooks := .later }
def QueueReleasesCardSaid : Prop := Claim7.holds Tryd.pinned (.plain (OpenSpec.ofChange queueReleasesSpec)) queueReleasesCard

/-- THE SECOND FORM's CARD OF 'trivetlaw10.QueueStays'. -/
def queueStaysUptoCard : Claim7 := { stood := { row := queueStaysUptoRow, standIns := [], harness := (true, "ce4bc7af2a4bbabf80f55cf37cee85a128ee2d620ae31606838b14f6b0f05dea"), looks := false }, kinds := [], alts := [], laidByText := true, laidKinds := [.data, .pinned], laidTests := true, laidLooks := .later }
def QueueStaysUptoCardSaid : Prop := Claim7.holds Tryd.pinned (.plain (OpenSpec.upto queueStaysSpec)) queueStaysUptoCard

/-- THE SECOND FORM's CARD OF 'trivetlaw10.QueueTells'. -/
def queueTellsUptoCard : Claim7 := { stood := { row := queueTellsUptoRow, standIns := [], harness := (true, "ce4bc7af2a4bbabf80f55cf37cee85a128ee2d620ae31606838b14f6b0f05dea"), looks := false }, kinds := [], alts := [], laidByText := true, laidKinds := [.data, .pinned], laidTests := true, laidLooks := .later }
def QueueTellsUptoCardSaid : Prop := Claim7.holds Tryd.pinned (.plain (OpenSpec.upto queueTellsSpec)) queueTellsUptoCard

/-- THE SECOND FORM's CARD OF 'trivetlaw10.QueueReleases'. -/
def queueReleasesUptoCard : Claim7 := { stood := { row := queueReleasesUptoRow, standIns := [], harness := (true, "ce4bc7af2a4bbabf80f55cf37cee85a128ee2d620ae31606838b14f6b0f05dea"), looks := false }, kinds := [], alts := [], laidByText := true, laidKinds := [.data, .pinned], laidTests := true, laidLooks := .later }
def QueueReleasesUptoCardSaid : Prop := Claim7.holds Tryd.pinned (.plain (OpenSpec.upto queueReleasesSpec)) queueReleasesUptoCard
end Rows
end Go.Proofs.YtlbcefocmdnlgaaDoor
