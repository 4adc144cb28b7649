/-
  DERIVED. GIVEN WITH THE SEED: THE CARDS: each row of YtnpikgakpmkipabGreatDoorRows.lean that lists a variable, with what it lists TIED to the program's text (the seventh form; the later family's looks); each row that meets fmt, with fmt's text TOLD by the authors' own Lean function (tested against real Go, not proved from fmt's source: count such statements apart). THE CARD IS WHAT COUNTS. Prove the row's statement (the work); the ties are given (YtnpikgakpmkipabGreatDoorTie.lean); close each card by the builder's one call (the guide's Derived/Test/ToyasCard.lean, 'card_holds'). Laid BY PROGRAM, IN A SANDBOX (cutbox-door.mjs). By AI agents, Wed Nov 11 2026. No macro, syntax, notation, axiom, sorry.
-/
import Derived.Test.YtnpikgakpmkipabGreatDoorRows
import GoSem.ClaimSeven
namespace Go.Proofs.YtnpikgakpmkipabGreatDoor
namespace Rows

/-- THE TIED CARD OF 'trivetlaw11.CoreUndoes'. -/
def coreUndoesCard : Claim7 := { stood := { row := coreUndoesRow, standIns := [], harness := (true, "c272c0792bbd5512eb2f6c51a51245509a8f4ce286a79be5f90037a840b34473"), looks := true }, kinds := [], alts := [], laidByText := true, laidKinds := [.data, .pinned], laidTests := true, laidLooks := .later }
def CoreUndoesCardSaid : Prop := Claim7.holds Tryz.pinned (.plain (OpenSpec.ofChange coreUndoesSpec)) coreUndoesCard

/-- THE TIED CARD OF 'trivetlaw11.CoreTicks'. -/
def coreTicksCard : Claim7 := { stood := { row := coreTicksRow, standIns := [], harness := (true, "c272c0792bbd5512eb2f6c51a51245509a8f4ce286a79be5f90037a840b34473"), looks := true }, kinds := [], alts := [], laidByText := true, laidKinds := [.data, .pinned], laidTests := true, laidLooks := .later }
def CoreTicksCardSaid : Prop := Claim7.holds Tryz.pinned (.plain (OpenSpec.ofChange coreTicksSpec)) coreTicksCard

/-- THE TIED CARD OF 'trivetlaw12.TxRuns'. -/
def txRunsCard : Claim7 := { stood := { row := txRunsRow, standIns := [], harness := (true, "c272c0792bbd5512eb2f6c51a51245509a8f4ce286a79be5f90037a840b34473"), looks := true }, kinds := [], alts := [], laidByText := true, laidKinds := [.data, .pinned], laidTests := true, laidLooks := .later }
def TxRunsCardSaid : Prop := Claim7.holds Tryz.pinned (.plain (OpenSpec.ofChange txRunsSpec)) txRunsCard

/-- THE TIED CARD OF 'trivetlaw12.TxWhole'. -/
def txWholeCard : Claim7 := { stood := { row := txWholeRow, standIns := [], harness := (true, "c272c0792bbd5512eb2f6c51a51245509a8f4ce286a79be5f90037a840b34473"), looks := true }, kinds := [], alts := [], laidByText := true, laidKinds := [.data, .pinned], laidTests := true, laidLooks := .later }
def TxWholeCardSaid : Prop := Claim7.holds Tryz.pinned (.plain (OpenSpec.ofChange txWholeSpec)) txWholeCard

/-- THE TIED CARD OF 'trivetlaw12.TxKeeps'. -/
def txKeepsCard : Claim7 := { stood := { row := txKeepsRow, standIns := [], harness := (true, "c272c0792bbd5512eb2f6c51a51245509a8f4ce286a79be5f90037a840b34473"), looks := true }, kinds := [], alts := [], laidByText := true, laidKinds := [.data, .pinned], laidTests := true, laidLooks := .later }
def TxKeepsCardSaid : Prop := Claim7.holds Tryz.pinned (.plain (OpenSpec.ofChange txKeepsSpec)) txKeepsCard

/-- THE TIED CARD OF 'trivetlaw12.TxOne'. -/
def txOneCard : Claim7 := { stood := { row := txOneRow, standIns := [], harness := (true, "c272c0792bbd5512eb2f6c51a51245509a8f4ce286a79be5f90037a840b34473"), looks := true }, kinds := [], alts := [], laidByText := true, laidKinds := [.data, .pinned], laidTests := true, laidLooks := .later }
def TxOneCardSaid : Prop := Claim7.holds Tryz.pinned (.plain (OpenSpec.ofChange txOneSpec)) txOneCard

/-- THE SECOND FORM's CARD OF 'trivetlaw11.CoreUndoes'. -/
def coreUndoesUptoCard : Claim7 := { stood := { row := coreUndoesUptoRow, standIns := [], harness := (true, "c272c0792bbd5512eb2f6c51a51245509a8f4ce286a79be5f90037a840b34473"), looks := true }, kinds := [], alts := [], laidByText := true, laidKinds := [.data, .pinned], laidTests := true, laidLooks := .later }
def CoreUndoesUptoCardSaid : Prop := Claim7.holds Tryz.pinned (.plain (OpenSpec.upto coreUndoesSpec)) coreUndoesUptoCard

/-- THE SECOND FORM's CARD OF 'trivetlaw11.CoreTicks'. -/
def coreTicksUptoCard : Claim7 := { stood := { row := coreTicksUptoRow, standIns := [], harness := (true, "c272c0792bbd5512eb2f6c51a51245509a8f4ce286a79be5f90037a840b34473"), looks := true }, kinds := [], alts := [], laidByText := true, laidKinds := [.data, .pinned], laidTests := true, laidLooks := .later }
def CoreTicksUptoCardSaid : Prop := Claim7.holds Tryz.pinned (.plain (OpenSpec.upto coreTicksSpec)) coreTicksUptoCard

/-- THE SECOND FORM's CARD OF 'trivetlaw12.TxRuns'. -/
def txRunsUptoCard : Claim7 := { stood := { row := txRunsUptoRow, standIns := [], harness := (true, "c272c0792bbd5512eb2f6c51a51245509a8f4ce286a79be5f90037a840b34473"), looks := true }, kinds := [], alts := [], laidByText := true, laidKinds := [.data, .pinned], laidTests := true, laidLooks := .later }
def TxRunsUptoCardSaid : Prop := Claim7.holds Tryz.pinned (.plain (OpenSpec.upto txRunsSpec)) txRunsUptoCard

/-- THE SECOND FORM's CARD OF 'trivetlaw12.TxWhole'. -/
def txWholeUptoCard : Claim7 := { stood := { row := txWholeUptoRow, standIns := [], harness := (true, "c272c0792bbd5512eb2f6c51a51245509a8f4ce286a79be5f90037a840b34473"), looks := true }, kinds := [], alts := [], laidByText := true, laidKinds := [.data, .pinned], laidTests := true, laidLooks := .later }
def TxWholeUptoCardSaid : Prop := Claim7.holds Tryz.pinned (.plain (OpenSpec.upto txWholeSpec)) txWholeUptoCard

/-- THE SECOND FORM's CARD OF 'trivetlaw12.TxKeeps'. -/
def txKeepsUptoCard : Claim7 := { stood := { row := txKeepsUptoRow, standIns := [], harness := (true, "c272c0792bbd5512eb2f6c51a51245509a8f4ce286a79be5f90037a840b34473"), looks := true }, kinds := [], alts := [], laidByText := true, laidKinds := [.data, .pinned], laidTests := true, laidLooks := .later }
def TxKeepsUptoCardSaid : Prop := Claim7.holds Tryz.pinned (.plain (OpenSpec.upto txKeepsSpec)) txKeepsUptoCard

/-- THE SECOND FORM's CARD OF 'trivetlaw12.TxOne'. -/
def txOneUptoCard : Claim7 := { stood := { row := txOneUptoRow, standIns := [], harness := (true, "c272c0792bbd5512eb2f6c51a51245509a8f4ce286a79be5f90037a840b34473"), looks := true }, kinds := [], alts := [], laidByText := true, laidKinds := [.data, .pinned], laidTests := true, laidLooks := .later }
def TxOneUptoCardSaid : Prop := Claim7.holds Tryz.pinned (.plain (OpenSpec.upto txOneSpec)) txOneUptoCard
end Rows
end Go.Proofs.YtnpikgakpmkipabGreatDoor
