/-
  No cell of these rows narrows 'for every input' (looked for: loops, veiled, ifaces, maps, wideKeys, modest, calm, conditions, laid).
  DERIVED. THE GIVEN ROWS OF THIS SEAT. 6 by the template 'for every input the law returns true; each argument reads behind the call as it read before'; 0 by the template 'total and deterministic' (their statements: YtpbpcefcnkfbpaaTotals.lean).
  GIVEN WITH THE SEED: the statements are not yours to turn. If you find one false, say at which input.
  Laid BY PROGRAM, IN A SANDBOX (cutbox-rows.mjs): the forced cells as the released guide's own fill.sh prints them over the translation 496ba6c4b721f04a… (all of the seat's roots in one cut). By AI agents, Wed Nov 11 2026. No macro, syntax, notation, axiom, sorry.
-/
import Derived.Test.YtpbpcefcnkfbpaaChecked
import GoSem.Claim
import GoSem.ClaimJoined
import GoSem.ClaimMapViews
import Derived.JoinedTies
import Derived.KernelRfl
namespace Go.Proofs.Ytpbpcefcnkfbpaa
/- THE CELL 'sum', in the pinned program and in every row, IS THE sha256 OF THE DUMP (.gsa) THAT YtpbpcefcnkfbpaaProg.lean LOADS. Nothing in Lean hashes anything: it is a label: what it is worth is what the hold of that sum in a sandbox is worth. -/
noncomputable def Try.pinned : Pinned := { name := "ytpbpcefcnkfbpaa", sum := "496ba6c4b721f04a46b170e9df893bacd8e27c86bb8f7597fe57b04edea0d1ad", checked := Try.checked }
namespace Rows
def none {H : Type} : Left H := { results := [], args := [] }

/-- 'trivetlaw04.TapeDoes': WHATEVER THE INPUT: true; the input reads as it did. -/
def tapeDoesSpec : ChangeSpec := { name := "tapeDoes", fn := fun _ => fun
  | [d1, d2] => { results := [.lit (.bool true)], args := [d1, d2] }
  | _ => none }
def tapeDoesRow : OpenClaim := { program := "ytpbpcefcnkfbpaa", sum := "496ba6c4b721f04a46b170e9df893bacd8e27c86bb8f7597fe57b04edea0d1ad", func := "trivet/trivetlaw04.TapeDoes", spec := "tapeDoes", unfollowed := true, recurses := true, apart := false }
def TapeDoesSaid : Prop := tapeDoesRow.holds Try.pinned (OpenSpec.ofChange tapeDoesSpec)

/-- ITS FALSE NEIGHBOUR: 'it returns false'. Refute it at one input. -/
def tapeDoesWrong : ChangeSpec := { name := "tapeDoes", fn := fun _ => fun
  | [d1, d2] => { results := [.lit (.bool false)], args := [d1, d2] }
  | _ => none }
def TapeDoesWrongFalsely : Prop := tapeDoesRow.holds Try.pinned (OpenSpec.ofChange tapeDoesWrong)

/-- 'trivetlaw04.TapeLoses': WHATEVER THE INPUT: true; the input reads as it did. -/
def tapeLosesSpec : ChangeSpec := { name := "tapeLoses", fn := fun _ => fun
  | [d1, d2, d3] => { results := [.lit (.bool true)], args := [d1, d2, d3] }
  | _ => none }
def tapeLosesRow : OpenClaim := { program := "ytpbpcefcnkfbpaa", sum := "496ba6c4b721f04a46b170e9df893bacd8e27c86bb8f7597fe57b04edea0d1ad", func := "trivet/trivetlaw04.TapeLoses", spec := "tapeLoses", unfollowed := true, recurses := true, apart := false }
def TapeLosesSaid : Prop := tapeLosesRow.holds Try.pinned (OpenSpec.ofChange tapeLosesSpec)

/-- ITS FALSE NEIGHBOUR: 'it returns false'. Refute it at one input. -/
def tapeLosesWrong : ChangeSpec := { name := "tapeLoses", fn := fun _ => fun
  | [d1, d2, d3] => { results := [.lit (.bool false)], args := [d1, d2, d3] }
  | _ => none }
def TapeLosesWrongFalsely : Prop := tapeLosesRow.holds Try.pinned (OpenSpec.ofChange tapeLosesWrong)

/-- 'trivetlaw04.TapeTwice': WHATEVER THE INPUT: true; the input reads as it did. -/
def tapeTwiceSpec : ChangeSpec := { name := "tapeTwice", fn := fun _ => fun
  | [d1, d2, d3] => { results := [.lit (.bool true)], args := [d1, d2, d3] }
  | _ => none }
def tapeTwiceRow : OpenClaim := { program := "ytpbpcefcnkfbpaa", sum := "496ba6c4b721f04a46b170e9df893bacd8e27c86bb8f7597fe57b04edea0d1ad", func := "trivet/trivetlaw04.TapeTwice", spec := "tapeTwice", unfollowed := true, recurses := true, apart := false }
def TapeTwiceSaid : Prop := tapeTwiceRow.holds Try.pinned (OpenSpec.ofChange tapeTwiceSpec)

/-- ITS FALSE NEIGHBOUR: 'it returns false'. Refute it at one input. -/
def tapeTwiceWrong : ChangeSpec := { name := "tapeTwice", fn := fun _ => fun
  | [d1, d2, d3] => { results := [.lit (.bool false)], args := [d1, d2, d3] }
  | _ => none }
def TapeTwiceWrongFalsely : Prop := tapeTwiceRow.holds Try.pinned (OpenSpec.ofChange tapeTwiceWrong)

/-- 'trivetlaw04.TapeTells': WHATEVER THE INPUT: true; the input reads as it did. -/
def tapeTellsSpec : ChangeSpec := { name := "tapeTells", fn := fun _ => fun
  | [d1, d2, d3] => { results := [.lit (.bool true)], args := [d1, d2, d3] }
  | _ => none }
def tapeTellsRow : OpenClaim := { program := "ytpbpcefcnkfbpaa", sum := "496ba6c4b721f04a46b170e9df893bacd8e27c86bb8f7597fe57b04edea0d1ad", func := "trivet/trivetlaw04.TapeTells", spec := "tapeTells", unfollowed := true, recurses := true, apart := false }
def TapeTellsSaid : Prop := tapeTellsRow.holds Try.pinned (OpenSpec.ofChange tapeTellsSpec)

/-- ITS FALSE NEIGHBOUR: 'it returns false'. Refute it at one input. -/
def tapeTellsWrong : ChangeSpec := { name := "tapeTells", fn := fun _ => fun
  | [d1, d2, d3] => { results := [.lit (.bool false)], args := [d1, d2, d3] }
  | _ => none }
def TapeTellsWrongFalsely : Prop := tapeTellsRow.holds Try.pinned (OpenSpec.ofChange tapeTellsWrong)

/-- 'trivetlaw04.TapeKeeps': WHATEVER THE INPUT: true; the input reads as it did. -/
def tapeKeepsSpec : ChangeSpec := { name := "tapeKeeps", fn := fun _ => fun
  | [d] => { results := [.lit (.bool true)], args := [d] }
  | _ => none }
def tapeKeepsRow : OpenClaim := { program := "ytpbpcefcnkfbpaa", sum := "496ba6c4b721f04a46b170e9df893bacd8e27c86bb8f7597fe57b04edea0d1ad", func := "trivet/trivetlaw04.TapeKeeps", spec := "tapeKeeps", unfollowed := true, recurses := true, apart := false }
def TapeKeepsSaid : Prop := tapeKeepsRow.holds Try.pinned (OpenSpec.ofChange tapeKeepsSpec)

/-- ITS FALSE NEIGHBOUR: 'it returns false'. Refute it at one input. -/
def tapeKeepsWrong : ChangeSpec := { name := "tapeKeeps", fn := fun _ => fun
  | [d] => { results := [.lit (.bool false)], args := [d] }
  | _ => none }
def TapeKeepsWrongFalsely : Prop := tapeKeepsRow.holds Try.pinned (OpenSpec.ofChange tapeKeepsWrong)

/-- 'trivetlaw04.TapeClears': WHATEVER THE INPUT: true; the input reads as it did. -/
def tapeClearsSpec : ChangeSpec := { name := "tapeClears", fn := fun _ => fun
  | [d1, d2] => { results := [.lit (.bool true)], args := [d1, d2] }
  | _ => none }
def tapeClearsRow : OpenClaim := { program := "ytpbpcefcnkfbpaa", sum := "496ba6c4b721f04a46b170e9df893bacd8e27c86bb8f7597fe57b04edea0d1ad", func := "trivet/trivetlaw04.TapeClears", spec := "tapeClears", unfollowed := true, recurses := true, apart := false }
def TapeClearsSaid : Prop := tapeClearsRow.holds Try.pinned (OpenSpec.ofChange tapeClearsSpec)

/-- ITS FALSE NEIGHBOUR: 'it returns false'. Refute it at one input. -/
def tapeClearsWrong : ChangeSpec := { name := "tapeClears", fn := fun _ => fun
  | [d1, d2] => { results := [.lit (.bool false)], args := [d1, d2] }
  | _ => none }
def TapeClearsWrongFalsely : Prop := tapeClearsRow.holds Try.pinned (OpenSpec.ofChange tapeClearsWrong)

/- THE SECOND FORM. 'bulk': how many values and letters a reading holds, each counted each time it is reached (what is shared counts as often as it is met; a slice's spare places count too). A statement '..UptoSaid' is the law's where the arguments, and the package variables that the reading takes, are together of bulk at most 1048576: NARROWER than '..Said'. Prove '..Said' where nothing that the law and all that it calls make is longer than what came in: it says more and counts as full. Else prove '..UptoSaid'. A law counts once. -/
mutual
def uptoBulk {H : Type} : DataW H → Nat
  | .lit (.string bytes) => bytes.length + 1
  | .lit _ => 1
  | .nil => 1
  | .ptr d => uptoBulk d + 1
  | .slice elems spare => uptoBulkAll elems + uptoBulkAll spare + 1
  | .agg parts => uptoBulkAll parts + 1
  | .iface _ d => uptoBulk d + 1
  | .map entries => uptoBulkEntries entries + 1
  | .held _ => 1
def uptoBulkAll {H : Type} : List (DataW H) → Nat
  | [] => 0
  | d :: r => uptoBulk d + uptoBulkAll r
def uptoBulkEntries {H : Type} : List (Lit × DataW H) → Nat
  | [] => 0
  | x :: r => uptoBulkEntry x + uptoBulkEntries r
def uptoBulkEntry {H : Type} : Lit × DataW H → Nat
  | (.string bytes, d) => bytes.length + uptoBulk d + 1
  | (_, d) => uptoBulk d + 1
 end
def uptoSmall : (H : Type) → List (DataW H) → Bool := fun _ ds => decide (uptoBulkAll ds ≤ 1048576)
def OpenSpec.upto (s : _root_.Go.ChangeSpec) : _root_.Go.OpenSpec := { _root_.Go.OpenSpec.ofChange s with cond := some uptoSmall }

/-- 'trivetlaw04.TapeDoes', WHERE WHAT IT READS IS OF BULK AT MOST 1048576: true; the input reads as it did. -/
def tapeDoesUptoRow : OpenClaim := { program := "ytpbpcefcnkfbpaa", sum := "496ba6c4b721f04a46b170e9df893bacd8e27c86bb8f7597fe57b04edea0d1ad", func := "trivet/trivetlaw04.TapeDoes", spec := "tapeDoes", unfollowed := true, recurses := true, apart := false, narrowed := true }
def TapeDoesUptoSaid : Prop := tapeDoesUptoRow.holds Try.pinned (OpenSpec.upto tapeDoesSpec)

/-- 'trivetlaw04.TapeLoses', WHERE WHAT IT READS IS OF BULK AT MOST 1048576: true; the input reads as it did. -/
def tapeLosesUptoRow : OpenClaim := { program := "ytpbpcefcnkfbpaa", sum := "496ba6c4b721f04a46b170e9df893bacd8e27c86bb8f7597fe57b04edea0d1ad", func := "trivet/trivetlaw04.TapeLoses", spec := "tapeLoses", unfollowed := true, recurses := true, apart := false, narrowed := true }
def TapeLosesUptoSaid : Prop := tapeLosesUptoRow.holds Try.pinned (OpenSpec.upto tapeLosesSpec)

/-- 'trivetlaw04.TapeTwice', WHERE WHAT IT READS IS OF BULK AT MOST 1048576: true; the input reads as it did. -/
def tapeTwiceUptoRow : OpenClaim := { program := "ytpbpcefcnkfbpaa", sum := "496ba6c4b721f04a46b170e9df893bacd8e27c86bb8f7597fe57b04edea0d1ad", func := "trivet/trivetlaw04.TapeTwice", spec := "tapeTwice", unfollowed := true, recurses := true, apart := false, narrowed := true }
def TapeTwiceUptoSaid : Prop := tapeTwiceUptoRow.holds Try.pinned (OpenSpec.upto tapeTwiceSpec)

/-- 'trivetlaw04.TapeTells', WHERE WHAT IT READS IS OF BULK AT MOST 1048576: true; the input reads as it did. -/
def tapeTellsUptoRow : OpenClaim := { program := "ytpbpcefcnkfbpaa", sum := "496ba6c4b721f04a46b170e9df893bacd8e27c86bb8f7597fe57b04edea0d1ad", func := "trivet/trivetlaw04.TapeTells", spec := "tapeTells", unfollowed := true, recurses := true, apart := false, narrowed := true }
def TapeTellsUptoSaid : Prop := tapeTellsUptoRow.holds Try.pinned (OpenSpec.upto tapeTellsSpec)

/-- 'trivetlaw04.TapeKeeps', WHERE WHAT IT READS IS OF BULK AT MOST 1048576: true; the input reads as it did. -/
def tapeKeepsUptoRow : OpenClaim := { program := "ytpbpcefcnkfbpaa", sum := "496ba6c4b721f04a46b170e9df893bacd8e27c86bb8f7597fe57b04edea0d1ad", func := "trivet/trivetlaw04.TapeKeeps", spec := "tapeKeeps", unfollowed := true, recurses := true, apart := false, narrowed := true }
def TapeKeepsUptoSaid : Prop := tapeKeepsUptoRow.holds Try.pinned (OpenSpec.upto tapeKeepsSpec)

/-- 'trivetlaw04.TapeClears', WHERE WHAT IT READS IS OF BULK AT MOST 1048576: true; the input reads as it did. -/
def tapeClearsUptoRow : OpenClaim := { program := "ytpbpcefcnkfbpaa", sum := "496ba6c4b721f04a46b170e9df893bacd8e27c86bb8f7597fe57b04edea0d1ad", func := "trivet/trivetlaw04.TapeClears", spec := "tapeClears", unfollowed := true, recurses := true, apart := false, narrowed := true }
def TapeClearsUptoSaid : Prop := tapeClearsUptoRow.holds Try.pinned (OpenSpec.upto tapeClearsSpec)

end Rows
end Go.Proofs.Ytpbpcefcnkfbpaa
