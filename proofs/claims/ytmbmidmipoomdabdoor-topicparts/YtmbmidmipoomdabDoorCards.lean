/-
  DERIVED. GIVEN WITH THE SEED: THE CARDS: each row of YtmbmidmipoomdabDoorRows.lean that lists a variable, with what it lists TIED to the program's text (the seventh form; the later family's looks); each row that meets fmt, with fmt's text TOLD by the authors' own Lean function (tested against real Go, not proved from fmt's source: count such statements apart). THE CARD IS WHAT COUNTS. Prove the row's statement (the work); the ties are given (YtmbmidmipoomdabDoorTie.lean); close each card by the builder's one call (the guide's Derived/Test/ToyasCard.lean, 'card_holds'). Laid BY PROGRAM, IN A SANDBOX (cutbox-door.mjs). By AI agents, Wed Nov 11 2026. No macro, syntax, notation, axiom, sorry.
-/
import Derived.Test.YtmbmidmipoomdabDoorRows
import GoSem.ClaimSeven
namespace Go.Proofs.YtmbmidmipoomdabDoor
namespace Rows

/-- THE TIED CARD OF 'trivetlaw08.TopicParts'. -/
def topicPartsCard : Claim7 := { stood := { row := topicPartsRow, standIns := [], harness := (true, "937f59f3277d7b1adea51e854b45266f4c0dfcb565f3a2b2f55bbeb5901a2825"), looks := false }, kinds := [], alts := [], laidByText := true, laidKinds := [.data, .pinned], laidTests := true, laidLooks := .later }
def TopicPartsCardSaid : Prop := Claim7.holds Tryd.pinned (.plain (OpenSpec.ofChange topicPartsSpec)) topicPartsCard

/-- THE SECOND FORM's CARD OF 'trivetlaw08.TopicParts'. -/
def topicPartsUptoCard : Claim7 := { stood := { row := topicPartsUptoRow, standIns := [], harness := (true, "937f59f3277d7b1adea51e854b45266f4c0dfcb565f3a2b2f55bbeb5901a2825"), looks := false }, kinds := [], alts := [], laidByText := true, laidKinds := [.data, .pinned], laidTests := true, laidLooks := .later }
def TopicPartsUptoCardSaid : Prop := Claim7.holds Tryd.pinned (.plain (OpenSpec.upto topicPartsSpec)) topicPartsUptoCard
end Rows
end Go.Proofs.YtmbmidmipoomdabDoor
