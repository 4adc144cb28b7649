/-
  DERIVED. GIVEN WITH THE SEED: THE CARDS: each row of YtcicnbbnkeellaaGreatDoorRows.lean that lists a variable, with what it lists TIED to the program's text (the seventh form; the later family's looks); each row that meets fmt, with fmt's text TOLD by the authors' own Lean function (tested against real Go, not proved from fmt's source: count such statements apart). THE CARD IS WHAT COUNTS. Prove the row's statement (the work); the ties are given (YtcicnbbnkeellaaGreatDoorTie.lean); close each card by the builder's one call (the guide's Derived/Test/ToyasCard.lean, 'card_holds'). Laid BY PROGRAM, IN A SANDBOX (cutbox-door.mjs). By AI agents, Wed Nov 11 2026. No macro, syntax, notation, axiom, sorry.
-/
import Derived.Test.YtcicnbbnkeellaaGreatDoorRows
import GoSem.ClaimSeven
namespace Go.Proofs.YtcicnbbnkeellaaGreatDoor
namespace Rows

/-- THE TIED CARD OF 'trivetlaw09.TrieDoes'. -/
def trieDoesCard : Claim7 := { stood := { row := trieDoesRow, standIns := [], harness := (true, "2e73e21966c87e5522813fc861c7e837f605ae29e637fc867c75511a661cfe44"), looks := false }, kinds := [], alts := [], laidByText := true, laidKinds := [.data, .pinned], laidTests := true, laidLooks := .later }
def TrieDoesCardSaid : Prop := Claim7.holds Tryz.pinned (.plain (OpenSpec.ofChange trieDoesSpec)) trieDoesCard

/-- THE TIED CARD OF 'trivetlaw09.TrieFinds'. -/
def trieFindsCard : Claim7 := { stood := { row := trieFindsRow, standIns := [], harness := (true, "2e73e21966c87e5522813fc861c7e837f605ae29e637fc867c75511a661cfe44"), looks := false }, kinds := [], alts := [], laidByText := true, laidKinds := [.data, .pinned], laidTests := true, laidLooks := .later }
def TrieFindsCardSaid : Prop := Claim7.holds Tryz.pinned (.plain (OpenSpec.ofChange trieFindsSpec)) trieFindsCard

/-- THE TIED CARD OF 'trivetlaw09.TrieKeeps'. -/
def trieKeepsCard : Claim7 := { stood := { row := trieKeepsRow, standIns := [], harness := (true, "2e73e21966c87e5522813fc861c7e837f605ae29e637fc867c75511a661cfe44"), looks := false }, kinds := [], alts := [], laidByText := true, laidKinds := [.data, .pinned], laidTests := true, laidLooks := .later }
def TrieKeepsCardSaid : Prop := Claim7.holds Tryz.pinned (.plain (OpenSpec.ofChange trieKeepsSpec)) trieKeepsCard

/-- THE TIED CARD OF 'trivetlaw09.TrieMatches'. -/
def trieMatchesCard : Claim7 := { stood := { row := trieMatchesRow, standIns := [], harness := (true, "2e73e21966c87e5522813fc861c7e837f605ae29e637fc867c75511a661cfe44"), looks := false }, kinds := [], alts := [], laidByText := true, laidKinds := [.data, .pinned], laidTests := true, laidLooks := .later }
def TrieMatchesCardSaid : Prop := Claim7.holds Tryz.pinned (.plain (OpenSpec.ofChange trieMatchesSpec)) trieMatchesCard

/-- THE TIED CARD OF 'trivetlaw09.TrieUndoes'. -/
def trieUndoesCard : Claim7 := { stood := { row := trieUndoesRow, standIns := [], harness := (true, "2e73e21966c87e5522813fc861c7e837f605ae29e637fc867c75511a661cfe44"), looks := false }, kinds := [], alts := [], laidByText := true, laidKinds := [.data, .pinned], laidTests := true, laidLooks := .later }
def TrieUndoesCardSaid : Prop := Claim7.holds Tryz.pinned (.plain (OpenSpec.ofChange trieUndoesSpec)) trieUndoesCard

/-- THE SECOND FORM's CARD OF 'trivetlaw09.TrieDoes'. -/
def trieDoesUptoCard : Claim7 := { stood := { row := trieDoesUptoRow, standIns := [], harness := (true, "2e73e21966c87e5522813fc861c7e837f605ae29e637fc867c75511a661cfe44"), looks := false }, kinds := [], alts := [], laidByText := true, laidKinds := [.data, .pinned], laidTests := true, laidLooks := .later }
def TrieDoesUptoCardSaid : Prop := Claim7.holds Tryz.pinned (.plain (OpenSpec.upto trieDoesSpec)) trieDoesUptoCard

/-- THE SECOND FORM's CARD OF 'trivetlaw09.TrieFinds'. -/
def trieFindsUptoCard : Claim7 := { stood := { row := trieFindsUptoRow, standIns := [], harness := (true, "2e73e21966c87e5522813fc861c7e837f605ae29e637fc867c75511a661cfe44"), looks := false }, kinds := [], alts := [], laidByText := true, laidKinds := [.data, .pinned], laidTests := true, laidLooks := .later }
def TrieFindsUptoCardSaid : Prop := Claim7.holds Tryz.pinned (.plain (OpenSpec.upto trieFindsSpec)) trieFindsUptoCard

/-- THE SECOND FORM's CARD OF 'trivetlaw09.TrieKeeps'. -/
def trieKeepsUptoCard : Claim7 := { stood := { row := trieKeepsUptoRow, standIns := [], harness := (true, "2e73e21966c87e5522813fc861c7e837f605ae29e637fc867c75511a661cfe44"), looks := false }, kinds := [], alts := [], laidByText := true, laidKinds := [.data, .pinned], laidTests := true, laidLooks := .later }
def TrieKeepsUptoCardSaid : Prop := Claim7.holds Tryz.pinned (.plain (OpenSpec.upto trieKeepsSpec)) trieKeepsUptoCard

/-- THE SECOND FORM's CARD OF 'trivetlaw09.TrieMatches'. -/
def trieMatchesUptoCard : Claim7 := { stood := { row := trieMatchesUptoRow, standIns := [], harness := (true, "2e73e21966c87e5522813fc861c7e837f605ae29e637fc867c75511a661cfe44"), looks := false }, kinds := [], alts := [], laidByText := true, laidKinds := [.data, .pinned], laidTests := true, laidLooks := .later }
def TrieMatchesUptoCardSaid : Prop := Claim7.holds Tryz.pinned (.plain (OpenSpec.upto trieMatchesSpec)) trieMatchesUptoCard

/-- THE SECOND FORM's CARD OF 'trivetlaw09.TrieUndoes'. -/
def trieUndoesUptoCard : Claim7 := { stood := { row := trieUndoesUptoRow, standIns := [], harness := (true, "2e73e21966c87e5522813fc861c7e837f605ae29e637fc867c75511a661cfe44"), looks := false }, kinds := [], alts := [], laidByText := true, laidKinds := [.data, .pinned], laidTests := true, laidLooks := .later }
def TrieUndoesUptoCardSaid : Prop := Claim7.holds Tryz.pinned (.plain (OpenSpec.upto trieUndoesSpec)) trieUndoesUptoCard
end Rows
end Go.Proofs.YtcicnbbnkeellaaGreatDoor
