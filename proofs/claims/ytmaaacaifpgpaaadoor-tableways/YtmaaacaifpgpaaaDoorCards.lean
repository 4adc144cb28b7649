/-
  DERIVED. GIVEN WITH THE SEED: THE CARDS: each row of YtmaaacaifpgpaaaDoorRows.lean that lists a variable, with what it lists TIED to the program's text (the seventh form; the later family's looks); each row that meets fmt, with fmt's text TOLD by the authors' own Lean function (tested against real Go, not proved from fmt's source: count such statements apart). THE CARD IS WHAT COUNTS. Prove the row's statement (the work); the ties are given (YtmaaacaifpgpaaaDoorTie.lean); close each card by the builder's one call (the guide's Derived/Test/ToyasCard.lean, 'card_holds'). Laid BY PROGRAM, IN A SANDBOX (cutbox-door.mjs). By AI agents, Wed Nov 11 2026. No macro, syntax, notation, axiom, sorry.
-/
import Derived.Test.YtmaaacaifpgpaaaDoorRows
import GoSem.ClaimSeven
namespace Go.Proofs.YtmaaacaifpgpaaaDoor
namespace Rows

/-- THE TIED CARD OF 'trivetlaw15.TableTables'. -/
def tableTablesCard : Claim7 := { stood := { row := tableTablesRow, standIns := [], harness := (true, "3cbcda7955a89044f44391df0b07e7f4cfeb824ec9e7de055bb3da4d68b0e3dc"), looks := true }, kinds := [], alts := [], laidByText := true, laidKinds := [.data], laidTests := true, laidLooks := .later }
def TableTablesCardSaid : Prop := Claim7.holds Tryd.pinned (.plain (OpenSpec.ofChange tableTablesSpec)) tableTablesCard

/-- THE TIED CARD OF 'trivetlaw15.TableBack'. -/
def tableBackCard : Claim7 := { stood := { row := tableBackRow, standIns := [], harness := (true, "3cbcda7955a89044f44391df0b07e7f4cfeb824ec9e7de055bb3da4d68b0e3dc"), looks := true }, kinds := [], alts := [], laidByText := true, laidKinds := [.data], laidTests := true, laidLooks := .later }
def TableBackCardSaid : Prop := Claim7.holds Tryd.pinned (.plain (OpenSpec.ofChange tableBackSpec)) tableBackCard

/-- THE TIED CARD OF 'trivetlaw15.TableWays'. -/
def tableWaysCard : Claim7 := { stood := { row := tableWaysRow, standIns := [], harness := (true, "3cbcda7955a89044f44391df0b07e7f4cfeb824ec9e7de055bb3da4d68b0e3dc"), looks := true }, kinds := [], alts := [], laidByText := true, laidKinds := [.data], laidTests := true, laidLooks := .later }
def TableWaysCardSaid : Prop := Claim7.holds Tryd.pinned (.plain (OpenSpec.ofChange tableWaysSpec)) tableWaysCard

/-- THE TIED CARD OF 'trivetlaw15.TableKeeps'. -/
def tableKeepsCard : Claim7 := { stood := { row := tableKeepsRow, standIns := [], harness := (true, "3cbcda7955a89044f44391df0b07e7f4cfeb824ec9e7de055bb3da4d68b0e3dc"), looks := true }, kinds := [], alts := [], laidByText := true, laidKinds := [.data], laidTests := true, laidLooks := .later }
def TableKeepsCardSaid : Prop := Claim7.holds Tryd.pinned (.plain (OpenSpec.ofChange tableKeepsSpec)) tableKeepsCard

/-- THE TIED CARD OF 'trivetlaw15.TableTells'. -/
def tableTellsCard : Claim7 := { stood := { row := tableTellsRow, standIns := [], harness := (true, "3cbcda7955a89044f44391df0b07e7f4cfeb824ec9e7de055bb3da4d68b0e3dc"), looks := true }, kinds := [], alts := [], laidByText := true, laidKinds := [.data], laidTests := true, laidLooks := .later }
def TableTellsCardSaid : Prop := Claim7.holds Tryd.pinned (.plain (OpenSpec.ofChange tableTellsSpec)) tableTellsCard

/-- THE SECOND FORM's CARD OF 'trivetlaw15.TableTables'. -/
def tableTablesUptoCard : Claim7 := { stood := { row := tableTablesUptoRow, standIns := [], harness := (true, "3cbcda7955a89044f44391df0b07e7f4cfeb824ec9e7de055bb3da4d68b0e3dc"), looks := true }, kinds := [], alts := [], laidByText := true, laidKinds := [.data], laidTests := true, laidLooks := .later }
def TableTablesUptoCardSaid : Prop := Claim7.holds Tryd.pinned (.plain (OpenSpec.upto tableTablesSpec)) tableTablesUptoCard

/-- THE SECOND FORM's CARD OF 'trivetlaw15.TableBack'. -/
def tableBackUptoCard : Claim7 := { stood := { row := tableBackUptoRow, standIns := [], harness := (true, "3cbcda7955a89044f44391df0b07e7f4cfeb824ec9e7de055bb3da4d68b0e3dc"), looks := true }, kinds := [], alts := [], laidByText := true, laidKinds := [.data], laidTests := true, laidLooks := .later }
def TableBackUptoCardSaid : Prop := Claim7.holds Tryd.pinned (.plain (OpenSpec.upto tableBackSpec)) tableBackUptoCard

/-- THE SECOND FORM's CARD OF 'trivetlaw15.TableWays'. -/
def tableWaysUptoCard : Claim7 := { stood := { row := tableWaysUptoRow, standIns := [], harness := (true, "3cbcda7955a89044f44391df0b07e7f4cfeb824ec9e7de055bb3da4d68b0e3dc"), looks := true }, kinds := [], alts := [], laidByText := true, laidKinds := [.data], laidTests := true, laidLooks := .later }
def TableWaysUptoCardSaid : Prop := Claim7.holds Tryd.pinned (.plain (OpenSpec.upto tableWaysSpec)) tableWaysUptoCard

/-- THE SECOND FORM's CARD OF 'trivetlaw15.TableKeeps'. -/
def tableKeepsUptoCard : Claim7 := { stood := { row := tableKeepsUptoRow, standIns := [], harness := (true, "3cbcda7955a89044f44391df0b07e7f4cfeb824ec9e7de055bb3da4d68b0e3dc"), looks := true }, kinds := [], alts := [], laidByText := true, laidKinds := [.data], laidTests := true, laidLooks := .later }
def TableKeepsUptoCardSaid : Prop := Claim7.holds Tryd.pinned (.plain (OpenSpec.upto tableKeepsSpec)) tableKeepsUptoCard

/-- THE SECOND FORM's CARD OF 'trivetlaw15.TableTells'. -/
def tableTellsUptoCard : Claim7 := { stood := { row := tableTellsUptoRow, standIns := [], harness := (true, "3cbcda7955a89044f44391df0b07e7f4cfeb824ec9e7de055bb3da4d68b0e3dc"), looks := true }, kinds := [], alts := [], laidByText := true, laidKinds := [.data], laidTests := true, laidLooks := .later }
def TableTellsUptoCardSaid : Prop := Claim7.holds Tryd.pinned (.plain (OpenSpec.upto tableTellsSpec)) tableTellsUptoCard
end Rows
end Go.Proofs.YtmaaacaifpgpaaaDoor
