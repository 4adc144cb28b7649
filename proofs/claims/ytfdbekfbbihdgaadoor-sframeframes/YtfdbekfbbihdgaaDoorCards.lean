/-
  DERIVED. GIVEN WITH THE SEED: THE CARDS: each row of YtfdbekfbbihdgaaDoorRows.lean that lists a variable, with what it lists TIED to the program's text (the seventh form; the later family's looks); each row that meets fmt, with fmt's text TOLD by the authors' own Lean function (tested against real Go, not proved from fmt's source: count such statements apart). THE CARD IS WHAT COUNTS. Prove the row's statement (the work); the ties are given (YtfdbekfbbihdgaaDoorTie.lean); close each card by the builder's one call (the guide's Derived/Test/ToyasCard.lean, 'card_holds'). Laid BY PROGRAM, IN A SANDBOX (cutbox-door.mjs). By AI agents, Wed Nov 11 2026. No macro, syntax, notation, axiom, sorry.
-/
import Derived.Test.YtfdbekfbbihdgaaDoorRows
import GoSem.ClaimSeven
namespace Go.Proofs.YtfdbekfbbihdgaaDoor
namespace Rows

/-- THE TIED CARD OF 'trivetlaw18.SframeFrames'. -/
def sframeFramesCard : Claim7 := { stood := { row := sframeFramesRow, standIns := [], harness := (true, "44497d2f4d9b459fc06329c0f4be520b5a5448088333158712de81ba887ab2a1"), looks := true }, kinds := [], alts := [], laidByText := true, laidKinds := [.data, .data, .data, .sentinel, .sentinel], laidTests := true, laidLooks := .later }
def SframeFramesCardSaid : Prop := Claim7.holds Tryd.pinned (.plain (OpenSpec.ofChange sframeFramesSpec)) sframeFramesCard

/-- THE TIED CARD OF 'trivetlaw18.SframeBack'. -/
def sframeBackCard : Claim7 := { stood := { row := sframeBackRow, standIns := [], harness := (true, "44497d2f4d9b459fc06329c0f4be520b5a5448088333158712de81ba887ab2a1"), looks := true }, kinds := [], alts := [], laidByText := true, laidKinds := [.data, .data, .data, .sentinel, .sentinel], laidTests := true, laidLooks := .later }
def SframeBackCardSaid : Prop := Claim7.holds Tryd.pinned (.plain (OpenSpec.ofChange sframeBackSpec)) sframeBackCard

/-- THE TIED CARD OF 'trivetlaw18.SframeOnce'. -/
def sframeOnceCard : Claim7 := { stood := { row := sframeOnceRow, standIns := [], harness := (true, "44497d2f4d9b459fc06329c0f4be520b5a5448088333158712de81ba887ab2a1"), looks := true }, kinds := [], alts := [], laidByText := true, laidKinds := [.data, .data, .data, .sentinel, .sentinel], laidTests := true, laidLooks := .later }
def SframeOnceCardSaid : Prop := Claim7.holds Tryd.pinned (.plain (OpenSpec.ofChange sframeOnceSpec)) sframeOnceCard

/-- THE TIED CARD OF 'trivetlaw18.SframeLines'. -/
def sframeLinesCard : Claim7 := { stood := { row := sframeLinesRow, standIns := [], harness := (true, "44497d2f4d9b459fc06329c0f4be520b5a5448088333158712de81ba887ab2a1"), looks := true }, kinds := [], alts := [], laidByText := true, laidKinds := [.data, .data, .data, .sentinel, .sentinel], laidTests := true, laidLooks := .later }
def SframeLinesCardSaid : Prop := Claim7.holds Tryd.pinned (.plain (OpenSpec.ofChange sframeLinesSpec)) sframeLinesCard

/-- THE TIED CARD OF 'trivetlaw18.SframeGets'. -/
def sframeGetsCard : Claim7 := { stood := { row := sframeGetsRow, standIns := [], harness := (true, "44497d2f4d9b459fc06329c0f4be520b5a5448088333158712de81ba887ab2a1"), looks := true }, kinds := [], alts := [], laidByText := true, laidKinds := [.data, .data, .data, .sentinel, .sentinel], laidTests := true, laidLooks := .later }
def SframeGetsCardSaid : Prop := Claim7.holds Tryd.pinned (.plain (OpenSpec.ofChange sframeGetsSpec)) sframeGetsCard

/-- THE SECOND FORM's CARD OF 'trivetlaw18.SframeFrames'. -/
def sframeFramesUptoCard : Claim7 := { stood := { row := sframeFramesUptoRow, standIns := [], harness := (true, "44497d2f4d9b459fc06329c0f4be520b5a5448088333158712de81ba887ab2a1"), looks := true }, kinds := [], alts := [], laidByText := true, laidKinds := [.data, .data, .data, .sentinel, .sentinel], laidTests := true, laidLooks := .later }
def SframeFramesUptoCardSaid : Prop := Claim7.holds Tryd.pinned (.plain (OpenSpec.upto sframeFramesSpec)) sframeFramesUptoCard

/-- THE SECOND FORM's CARD OF 'trivetlaw18.SframeBack'. -/
def sframeBackUptoCard : Claim7 := { stood := { row := sframeBackUptoRow, standIns := [], harness := (true, "44497d2f4d9b459fc06329c0f4be520b5a5448088333158712de81ba887ab2a1"), looks := true }, kinds := [], alts := [], laidByText := true, laidKinds := [.data, .data, .data, .sentinel, .sentinel], laidTests := true, laidLooks := .later }
def SframeBackUptoCardSaid : Prop := Claim7.holds Tryd.pinned (.plain (OpenSpec.upto sframeBackSpec)) sframeBackUptoCard

/-- THE SECOND FORM's CARD OF 'trivetlaw18.SframeOnce'. -/
def sframeOnceUptoCard : Claim7 := { stood := { row := sframeOnceUptoRow, standIns := [], harness := (true, "44497d2f4d9b459fc06329c0f4be520b5a5448088333158712de81ba887ab2a1"), looks := true }, kinds := [], alts := [], laidByText := true, laidKinds := [.data, .data, .data, .sentinel, .sentinel], laidTests := true, laidLooks := .later }
def SframeOnceUptoCardSaid : Prop := Claim7.holds Tryd.pinned (.plain (OpenSpec.upto sframeOnceSpec)) sframeOnceUptoCard

/-- THE SECOND FORM's CARD OF 'trivetlaw18.SframeLines'. -/
def sframeLinesUptoCard : Claim7 := { stood := { row := sframeLinesUptoRow, standIns := [], harness := (true, "44497d2f4d9b459fc06329c0f4be520b5a5448088333158712de81ba887ab2a1"), looks := true }, kinds := [], alts := [], laidByText := true, laidKinds := [.data, .data, .data, .sentinel, .sentinel], laidTests := true, laidLooks := .later }
def SframeLinesUptoCardSaid : Prop := Claim7.holds Tryd.pinned (.plain (OpenSpec.upto sframeLinesSpec)) sframeLinesUptoCard

/-- THE SECOND FORM's CARD OF 'trivetlaw18.SframeGets'. -/
def sframeGetsUptoCard : Claim7 := { stood := { row := sframeGetsUptoRow, standIns := [], harness := (true, "44497d2f4d9b459fc06329c0f4be520b5a5448088333158712de81ba887ab2a1"), looks := true }, kinds := [], alts := [], laidByText := true, laidKinds := [.data, .data, .data, .sentinel, .sentinel], laidTests := true, laidLooks := .later }
def SframeGetsUptoCardSaid : Prop := Claim7.holds Tryd.pinned (.plain (OpenSpec.upto sframeGetsSpec)) sframeGetsUptoCard
end Rows
end Go.Proofs.YtfdbekfbbihdgaaDoor
