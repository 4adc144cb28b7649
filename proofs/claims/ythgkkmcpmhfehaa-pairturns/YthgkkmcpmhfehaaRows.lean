/-
  No cell of these rows narrows 'for every input' (looked for: loops, veiled, ifaces, maps, wideKeys, modest, calm, conditions, laid).
  DERIVED. THE GIVEN ROWS OF THIS SEAT. 5 by the template 'for every input the law returns true; each argument reads behind the call as it read before'; 0 by the template 'total and deterministic' (their statements: YthgkkmcpmhfehaaTotals.lean).
  GIVEN WITH THE SEED: the statements are not yours to turn. If you find one false, say at which input.
  Laid BY PROGRAM, IN A SANDBOX (cutbox-rows.mjs): the forced cells as the released guide's own fill.sh prints them over the translation 849f2fa0cf70f325… (all of the seat's roots in one cut). By AI agents, Wed Nov 11 2026. No macro, syntax, notation, axiom, sorry.
-/
import Derived.Test.YthgkkmcpmhfehaaChecked
import GoSem.Claim
import GoSem.ClaimJoined
import GoSem.ClaimMapViews
import Derived.JoinedTies
import Derived.KernelRfl
namespace Go.Proofs.Ythgkkmcpmhfehaa
/- THE CELL 'sum', in the pinned program and in every row, IS THE sha256 OF THE DUMP (.gsa) THAT YthgkkmcpmhfehaaProg.lean LOADS. Nothing in Lean hashes anything: it is a label: what it is worth is what the hold of that sum in a sandbox is worth. -/
noncomputable def Try.pinned : Pinned := { name := "ythgkkmcpmhfehaa", sum := "849f2fa0cf70f3256c3225b193f2aa8aa32b5de3c8e97fbffa6b8c9e96e1244e", checked := Try.checked }
namespace Rows
def none {H : Type} : Left H := { results := [], args := [] }

/-- 'trivetlaw05.PairDoes': WHATEVER THE INPUT: true; the input reads as it did. -/
def pairDoesSpec : ChangeSpec := { name := "pairDoes", fn := fun _ => fun
  | [d1, d2] => { results := [.lit (.bool true)], args := [d1, d2] }
  | _ => none }
def pairDoesRow : OpenClaim := { program := "ythgkkmcpmhfehaa", sum := "849f2fa0cf70f3256c3225b193f2aa8aa32b5de3c8e97fbffa6b8c9e96e1244e", func := "trivet/trivetlaw05.PairDoes", spec := "pairDoes", unfollowed := true, recurses := true, apart := false }
def PairDoesSaid : Prop := pairDoesRow.holds Try.pinned (OpenSpec.ofChange pairDoesSpec)

/-- ITS FALSE NEIGHBOUR: 'it returns false'. Refute it at one input. -/
def pairDoesWrong : ChangeSpec := { name := "pairDoes", fn := fun _ => fun
  | [d1, d2] => { results := [.lit (.bool false)], args := [d1, d2] }
  | _ => none }
def PairDoesWrongFalsely : Prop := pairDoesRow.holds Try.pinned (OpenSpec.ofChange pairDoesWrong)

/-- 'trivetlaw05.PairLoses': WHATEVER THE INPUT: true; the input reads as it did. -/
def pairLosesSpec : ChangeSpec := { name := "pairLoses", fn := fun _ => fun
  | [d] => { results := [.lit (.bool true)], args := [d] }
  | _ => none }
def pairLosesRow : OpenClaim := { program := "ythgkkmcpmhfehaa", sum := "849f2fa0cf70f3256c3225b193f2aa8aa32b5de3c8e97fbffa6b8c9e96e1244e", func := "trivet/trivetlaw05.PairLoses", spec := "pairLoses", unfollowed := true, recurses := true, apart := false }
def PairLosesSaid : Prop := pairLosesRow.holds Try.pinned (OpenSpec.ofChange pairLosesSpec)

/-- ITS FALSE NEIGHBOUR: 'it returns false'. Refute it at one input. -/
def pairLosesWrong : ChangeSpec := { name := "pairLoses", fn := fun _ => fun
  | [d] => { results := [.lit (.bool false)], args := [d] }
  | _ => none }
def PairLosesWrongFalsely : Prop := pairLosesRow.holds Try.pinned (OpenSpec.ofChange pairLosesWrong)

/-- 'trivetlaw05.PairFull': WHATEVER THE INPUT: true; the input reads as it did. -/
def pairFullSpec : ChangeSpec := { name := "pairFull", fn := fun _ => fun
  | [d1, d2, d3] => { results := [.lit (.bool true)], args := [d1, d2, d3] }
  | _ => none }
def pairFullRow : OpenClaim := { program := "ythgkkmcpmhfehaa", sum := "849f2fa0cf70f3256c3225b193f2aa8aa32b5de3c8e97fbffa6b8c9e96e1244e", func := "trivet/trivetlaw05.PairFull", spec := "pairFull", unfollowed := true, recurses := true, apart := false }
def PairFullSaid : Prop := pairFullRow.holds Try.pinned (OpenSpec.ofChange pairFullSpec)

/-- ITS FALSE NEIGHBOUR: 'it returns false'. Refute it at one input. -/
def pairFullWrong : ChangeSpec := { name := "pairFull", fn := fun _ => fun
  | [d1, d2, d3] => { results := [.lit (.bool false)], args := [d1, d2, d3] }
  | _ => none }
def PairFullWrongFalsely : Prop := pairFullRow.holds Try.pinned (OpenSpec.ofChange pairFullWrong)

/-- 'trivetlaw05.PairKeeps': WHATEVER THE INPUT: true; the input reads as it did. -/
def pairKeepsSpec : ChangeSpec := { name := "pairKeeps", fn := fun _ => fun
  | [d1, d2] => { results := [.lit (.bool true)], args := [d1, d2] }
  | _ => none }
def pairKeepsRow : OpenClaim := { program := "ythgkkmcpmhfehaa", sum := "849f2fa0cf70f3256c3225b193f2aa8aa32b5de3c8e97fbffa6b8c9e96e1244e", func := "trivet/trivetlaw05.PairKeeps", spec := "pairKeeps", unfollowed := true, recurses := true, apart := false }
def PairKeepsSaid : Prop := pairKeepsRow.holds Try.pinned (OpenSpec.ofChange pairKeepsSpec)

/-- ITS FALSE NEIGHBOUR: 'it returns false'. Refute it at one input. -/
def pairKeepsWrong : ChangeSpec := { name := "pairKeeps", fn := fun _ => fun
  | [d1, d2] => { results := [.lit (.bool false)], args := [d1, d2] }
  | _ => none }
def PairKeepsWrongFalsely : Prop := pairKeepsRow.holds Try.pinned (OpenSpec.ofChange pairKeepsWrong)

/-- 'trivetlaw05.PairTurns': WHATEVER THE INPUT: true; the input reads as it did. -/
def pairTurnsSpec : ChangeSpec := { name := "pairTurns", fn := fun _ => fun
  | [d1, d2, d3] => { results := [.lit (.bool true)], args := [d1, d2, d3] }
  | _ => none }
def pairTurnsRow : OpenClaim := { program := "ythgkkmcpmhfehaa", sum := "849f2fa0cf70f3256c3225b193f2aa8aa32b5de3c8e97fbffa6b8c9e96e1244e", func := "trivet/trivetlaw05.PairTurns", spec := "pairTurns", unfollowed := true, recurses := true, apart := false }
def PairTurnsSaid : Prop := pairTurnsRow.holds Try.pinned (OpenSpec.ofChange pairTurnsSpec)

/-- ITS FALSE NEIGHBOUR: 'it returns false'. Refute it at one input. -/
def pairTurnsWrong : ChangeSpec := { name := "pairTurns", fn := fun _ => fun
  | [d1, d2, d3] => { results := [.lit (.bool false)], args := [d1, d2, d3] }
  | _ => none }
def PairTurnsWrongFalsely : Prop := pairTurnsRow.holds Try.pinned (OpenSpec.ofChange pairTurnsWrong)

/- THE SECOND FORM. 'bulk': how many values and letters a reading holds, each counted each time it is reached (what is shared counts as often as it is met; a slice's spare places count too). A statement '..UptoSaid' is the law's where the arguments, and the package variables that the reading takes, are together of bulk at most 1048576: NARROWER than '..Said'. Prove '..Said' where nothing that the law and all that it calls make is longer than what came in: it says more and counts as full. Else prove '..UptoSaid'. A law counts once. -/
mutual
def uptoBulk {H : Type} : DataW H → Nat
  | .lit (.string bytes) => bytes.length + 1
  | .lit _ => 1
  | .nil => 1
  | .ptr d => uptoBulk d + 1
  | .slice elems spare => uptoBulkAll elems + uptoBulkAll spare + 1
  | .agg parts => uptoBulkAll parts + 1
  | .iface _ d => uptoBulk d + 1
  | .map entries => uptoBulkEntries entries + 1
  | .held _ => 1
def uptoBulkAll {H : Type} : List (DataW H) → Nat
  | [] => 0
  | d :: r => uptoBulk d + uptoBulkAll r
def uptoBulkEntries {H : Type} : List (Lit × DataW H) → Nat
  | [] => 0
  | x :: r => uptoBulkEntry x + uptoBulkEntries r
def uptoBulkEntry {H : Type} : Lit × DataW H → Nat
  | (.string bytes, d) => bytes.length + uptoBulk d + 1
  | (_, d) => uptoBulk d + 1
 end
def uptoSmall : (H : Type) → List (DataW H) → Bool := fun _ ds => decide (uptoBulkAll ds ≤ 1048576)
def OpenSpec.upto (s : _root_.Go.ChangeSpec) : _root_.Go.OpenSpec := { _root_.Go.OpenSpec.ofChange s with cond := some uptoSmall }

/-- 'trivetlaw05.PairDoes', WHERE WHAT IT READS IS OF BULK AT MOST 1048576: true; the input reads as it did. -/
def pairDoesUptoRow : OpenClaim := { program := "ythgkkmcpmhfehaa", sum := "849f2fa0cf70f3256c3225b193f2aa8aa32b5de3c8e97fbffa6b8c9e96e1244e", func := "trivet/trivetlaw05.PairDoes", spec := "pairDoes", unfollowed := true, recurses := true, apart := false, narrowed := true }
def PairDoesUptoSaid : Prop := pairDoesUptoRow.holds Try.pinned (OpenSpec.upto pairDoesSpec)

/-- 'trivetlaw05.PairLoses', WHERE WHAT IT READS IS OF BULK AT MOST 1048576: true; the input reads as it did. -/
def pairLosesUptoRow : OpenClaim := { program := "ythgkkmcpmhfehaa", sum := "849f2fa0cf70f3256c3225b193f2aa8aa32b5de3c8e97fbffa6b8c9e96e1244e", func := "trivet/trivetlaw05.PairLoses", spec := "pairLoses", unfollowed := true, recurses := true, apart := false, narrowed := true }
def PairLosesUptoSaid : Prop := pairLosesUptoRow.holds Try.pinned (OpenSpec.upto pairLosesSpec)

/-- 'trivetlaw05.PairFull', WHERE WHAT IT READS IS OF BULK AT MOST 1048576: true; the input reads as it did. -/
def pairFullUptoRow : OpenClaim := { program := "ythgkkmcpmhfehaa", sum := "849f2fa0cf70f3256c3225b193f2aa8aa32b5de3c8e97fbffa6b8c9e96e1244e", func := "trivet/trivetlaw05.PairFull", spec := "pairFull", unfollowed := true, recurses := true, apart := false, narrowed := true }
def PairFullUptoSaid : Prop := pairFullUptoRow.holds Try.pinned (OpenSpec.upto pairFullSpec)

/-- 'trivetlaw05.PairKeeps', WHERE WHAT IT READS IS OF BULK AT MOST 1048576: true; the input reads as it did. -/
def pairKeepsUptoRow : OpenClaim := { program := "ythgkkmcpmhfehaa", sum := "849f2fa0cf70f3256c3225b193f2aa8aa32b5de3c8e97fbffa6b8c9e96e1244e", func := "trivet/trivetlaw05.PairKeeps", spec := "pairKeeps", unfollowed := true, recurses := true, apart := false, narrowed := true }
def PairKeepsUptoSaid : Prop := pairKeepsUptoRow.holds Try.pinned (OpenSpec.upto pairKeepsSpec)

/-- 'trivetlaw05.PairTurns', WHERE WHAT IT READS IS OF BULK AT MOST 1048576: true; the input reads as it did. -/
def pairTurnsUptoRow : OpenClaim := { program := "ythgkkmcpmhfehaa", sum := "849f2fa0cf70f3256c3225b193f2aa8aa32b5de3c8e97fbffa6b8c9e96e1244e", func := "trivet/trivetlaw05.PairTurns", spec := "pairTurns", unfollowed := true, recurses := true, apart := false, narrowed := true }
def PairTurnsUptoSaid : Prop := pairTurnsUptoRow.holds Try.pinned (OpenSpec.upto pairTurnsSpec)

end Rows
end Go.Proofs.Ythgkkmcpmhfehaa
