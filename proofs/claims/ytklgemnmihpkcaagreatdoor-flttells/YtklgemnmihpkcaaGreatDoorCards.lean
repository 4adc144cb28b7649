/-
  DERIVED. GIVEN WITH THE SEED: THE CARDS: each row of YtklgemnmihpkcaaGreatDoorRows.lean that lists a variable, with what it lists TIED to the program's text (the seventh form; the later family's looks); each row that meets fmt, with fmt's text TOLD by the authors' own Lean function (tested against real Go, not proved from fmt's source: count such statements apart). THE CARD IS WHAT COUNTS. Prove the row's statement (the work); the ties are given (YtklgemnmihpkcaaGreatDoorTie.lean); close each card by the builder's one call (the guide's Derived/Test/ToyasCard.lean, 'card_holds'). Laid BY PROGRAM, IN A SANDBOX (cutbox-door.mjs). By AI agents, Wed Nov 11 2026. No macro, syntax, notation, axiom, sorry.
-/
import Derived.Test.YtklgemnmihpkcaaGreatDoorRows
import GoSem.ClaimSeven
namespace Go.Proofs.YtklgemnmihpkcaaGreatDoor
namespace Rows

/-- THE TIED CARD OF 'trivetlaw06.FltKeys'. -/
def fltKeysCard : Claim7 := { stood := { row := fltKeysRow, standIns := [], harness := (true, "e6cf6a8b7d81b81182e4d7b095ef71e4988d32578d2f7e7af7d563ebfe499a06"), looks := true }, kinds := [], alts := [], laidByText := true, laidKinds := [.data, .data, .widerDeep, .widerDeep, .data, .data, .data, .data, .data, .sentinel, .sentinel, .pinned, .pinned], laidTests := true, laidLooks := .later }
def FltKeysCardSaid : Prop := Claim7.holds Tryz.pinned (.plain (OpenSpec.ofChange fltKeysSpec)) fltKeysCard

/-- THE TIED CARD OF 'trivetlaw06.FltTexts'. -/
def fltTextsCard : Claim7 := { stood := { row := fltTextsRow, standIns := [], harness := (true, "e6cf6a8b7d81b81182e4d7b095ef71e4988d32578d2f7e7af7d563ebfe499a06"), looks := true }, kinds := [], alts := [], laidByText := true, laidKinds := [.data, .data, .widerDeep, .widerDeep, .data, .data, .data, .data, .data, .sentinel, .sentinel, .pinned, .pinned], laidTests := true, laidLooks := .later }
def FltTextsCardSaid : Prop := Claim7.holds Tryz.pinned (.plain (OpenSpec.ofChange fltTextsSpec)) fltTextsCard

/-- THE TIED CARD OF 'trivetlaw06.FltNarrows'. -/
def fltNarrowsCard : Claim7 := { stood := { row := fltNarrowsRow, standIns := [], harness := (true, "e6cf6a8b7d81b81182e4d7b095ef71e4988d32578d2f7e7af7d563ebfe499a06"), looks := true }, kinds := [], alts := [], laidByText := true, laidKinds := [.data, .data, .widerDeep, .widerDeep, .data, .data, .data, .data, .data, .sentinel, .sentinel, .pinned, .pinned], laidTests := true, laidLooks := .later }
def FltNarrowsCardSaid : Prop := Claim7.holds Tryz.pinned (.plain (OpenSpec.ofChange fltNarrowsSpec)) fltNarrowsCard

/-- THE TIED CARD OF 'trivetlaw06.FltOrders'. -/
def fltOrdersCard : Claim7 := { stood := { row := fltOrdersRow, standIns := [], harness := (true, "e6cf6a8b7d81b81182e4d7b095ef71e4988d32578d2f7e7af7d563ebfe499a06"), looks := true }, kinds := [], alts := [], laidByText := true, laidKinds := [.data, .data, .widerDeep, .widerDeep, .data, .data, .data, .data, .data, .sentinel, .sentinel, .pinned, .pinned], laidTests := true, laidLooks := .later }
def FltOrdersCardSaid : Prop := Claim7.holds Tryz.pinned (.plain (OpenSpec.ofChange fltOrdersSpec)) fltOrdersCard

/-- THE TIED CARD OF 'trivetlaw06.FltBack'. -/
def fltBackCard : Claim7 := { stood := { row := fltBackRow, standIns := [], harness := (true, "e6cf6a8b7d81b81182e4d7b095ef71e4988d32578d2f7e7af7d563ebfe499a06"), looks := true }, kinds := [], alts := [], laidByText := true, laidKinds := [.data, .data, .widerDeep, .widerDeep, .data, .data, .data, .data, .data, .sentinel, .sentinel, .pinned, .pinned], laidTests := true, laidLooks := .later }
def FltBackCardSaid : Prop := Claim7.holds Tryz.pinned (.plain (OpenSpec.ofChange fltBackSpec)) fltBackCard

/-- THE TIED CARD OF 'trivetlaw06.FltTells'. -/
def fltTellsCard : Claim7 := { stood := { row := fltTellsRow, standIns := [], harness := (true, "e6cf6a8b7d81b81182e4d7b095ef71e4988d32578d2f7e7af7d563ebfe499a06"), looks := true }, kinds := [], alts := [], laidByText := true, laidKinds := [.data, .data, .widerDeep, .widerDeep, .data, .data, .data, .data, .data, .sentinel, .sentinel, .pinned, .pinned], laidTests := true, laidLooks := .later }
def FltTellsCardSaid : Prop := Claim7.holds Tryz.pinned (.plain (OpenSpec.ofChange fltTellsSpec)) fltTellsCard

/-- THE SECOND FORM's CARD OF 'trivetlaw06.FltKeys'. -/
def fltKeysUptoCard : Claim7 := { stood := { row := fltKeysUptoRow, standIns := [], harness := (true, "e6cf6a8b7d81b81182e4d7b095ef71e4988d32578d2f7e7af7d563ebfe499a06"), looks := true }, kinds := [], alts := [], laidByText := true, laidKinds := [.data, .data, .widerDeep, .widerDeep, .data, .data, .data, .data, .data, .sentinel, .sentinel, .pinned, .pinned], laidTests := true, laidLooks := .later }
def FltKeysUptoCardSaid : Prop := Claim7.holds Tryz.pinned (.plain (OpenSpec.upto fltKeysSpec)) fltKeysUptoCard

/-- THE SECOND FORM's CARD OF 'trivetlaw06.FltTexts'. -/
def fltTextsUptoCard : Claim7 := { stood := { row := fltTextsUptoRow, standIns := [], harness := (true, "e6cf6a8b7d81b81182e4d7b095ef71e4988d32578d2f7e7af7d563ebfe499a06"), looks := true }, kinds := [], alts := [], laidByText := true, laidKinds := [.data, .data, .widerDeep, .widerDeep, .data, .data, .data, .data, .data, .sentinel, .sentinel, .pinned, .pinned], laidTests := true, laidLooks := .later }
def FltTextsUptoCardSaid : Prop := Claim7.holds Tryz.pinned (.plain (OpenSpec.upto fltTextsSpec)) fltTextsUptoCard

/-- THE SECOND FORM's CARD OF 'trivetlaw06.FltNarrows'. -/
def fltNarrowsUptoCard : Claim7 := { stood := { row := fltNarrowsUptoRow, standIns := [], harness := (true, "e6cf6a8b7d81b81182e4d7b095ef71e4988d32578d2f7e7af7d563ebfe499a06"), looks := true }, kinds := [], alts := [], laidByText := true, laidKinds := [.data, .data, .widerDeep, .widerDeep, .data, .data, .data, .data, .data, .sentinel, .sentinel, .pinned, .pinned], laidTests := true, laidLooks := .later }
def FltNarrowsUptoCardSaid : Prop := Claim7.holds Tryz.pinned (.plain (OpenSpec.upto fltNarrowsSpec)) fltNarrowsUptoCard

/-- THE SECOND FORM's CARD OF 'trivetlaw06.FltOrders'. -/
def fltOrdersUptoCard : Claim7 := { stood := { row := fltOrdersUptoRow, standIns := [], harness := (true, "e6cf6a8b7d81b81182e4d7b095ef71e4988d32578d2f7e7af7d563ebfe499a06"), looks := true }, kinds := [], alts := [], laidByText := true, laidKinds := [.data, .data, .widerDeep, .widerDeep, .data, .data, .data, .data, .data, .sentinel, .sentinel, .pinned, .pinned], laidTests := true, laidLooks := .later }
def FltOrdersUptoCardSaid : Prop := Claim7.holds Tryz.pinned (.plain (OpenSpec.upto fltOrdersSpec)) fltOrdersUptoCard

/-- THE SECOND FORM's CARD OF 'trivetlaw06.FltBack'. -/
def fltBackUptoCard : Claim7 := { stood := { row := fltBackUptoRow, standIns := [], harness := (true, "e6cf6a8b7d81b81182e4d7b095ef71e4988d32578d2f7e7af7d563ebfe499a06"), looks := true }, kinds := [], alts := [], laidByText := true, laidKinds := [.data, .data, .widerDeep, .widerDeep, .data, .data, .data, .data, .data, .sentinel, .sentinel, .pinned, .pinned], laidTests := true, laidLooks := .later }
def FltBackUptoCardSaid : Prop := Claim7.holds Tryz.pinned (.plain (OpenSpec.upto fltBackSpec)) fltBackUptoCard

/-- THE SECOND FORM's CARD OF 'trivetlaw06.FltTells'. -/
def fltTellsUptoCard : Claim7 := { stood := { row := fltTellsUptoRow, standIns := [], harness := (true, "e6cf6a8b7d81b81182e4d7b095ef71e4988d32578d2f7e7af7d563ebfe499a06"), looks := true }, kinds := [], alts := [], laidByText := true, laidKinds := [.data, .data, .widerDeep, .widerDeep, .data, .data, .data, .data, .data, .sentinel, .sentinel, .pinned, .pinned], laidTests := true, laidLooks := .later }
def FltTellsUptoCardSaid : Prop := Claim7.holds Tryz.pinned (.plain (OpenSpec.upto fltTellsSpec)) fltTellsUptoCard
end Rows
end Go.Proofs.YtklgemnmihpkcaaGreatDoor
