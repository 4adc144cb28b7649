/-
  DERIVED. GIVEN WITH THE SEED: THE CARDS: each row of YtmaaacaifpgpaaaGreatDoorRows.lean that lists a variable, with what it lists TIED to the program's text (the seventh form; the later family's looks); each row that meets fmt, with fmt's text TOLD by the authors' own Lean function (tested against real Go, not proved from fmt's source: count such statements apart). THE CARD IS WHAT COUNTS. Prove the row's statement (the work); the ties are given (YtmaaacaifpgpaaaGreatDoorTie.lean); close each card by the builder's one call (the guide's Derived/Test/ToyasCard.lean, 'card_holds'). Laid BY PROGRAM, IN A SANDBOX (cutbox-door.mjs). By AI agents, Wed Nov 11 2026. No macro, syntax, notation, axiom, sorry.
-/
import Derived.Test.YtmaaacaifpgpaaaGreatDoorRows
import GoSem.ClaimSeven
namespace Go.Proofs.YtmaaacaifpgpaaaGreatDoor
namespace Rows

/-- THE TIED CARD OF 'trivetlaw15.TableMethods'. -/
def tableMethodsCard : Claim7 := { stood := { row := tableMethodsRow, standIns := [], harness := (true, "9be5041017b4383f1d9b4dd093b736415ee7d447f932ca52a17b3b6b541fd55c"), looks := true }, kinds := [], alts := [], laidByText := true, laidKinds := [.data], laidTests := true, laidLooks := .later }
def TableMethodsCardSaid : Prop := Claim7.holds Tryz.pinned (.plain (OpenSpec.ofChange tableMethodsSpec)) tableMethodsCard

/-- THE SECOND FORM's CARD OF 'trivetlaw15.TableMethods'. -/
def tableMethodsUptoCard : Claim7 := { stood := { row := tableMethodsUptoRow, standIns := [], harness := (true, "9be5041017b4383f1d9b4dd093b736415ee7d447f932ca52a17b3b6b541fd55c"), looks := true }, kinds := [], alts := [], laidByText := true, laidKinds := [.data], laidTests := true, laidLooks := .later }
def TableMethodsUptoCardSaid : Prop := Claim7.holds Tryz.pinned (.plain (OpenSpec.upto tableMethodsSpec)) tableMethodsUptoCard
end Rows
end Go.Proofs.YtmaaacaifpgpaaaGreatDoor
