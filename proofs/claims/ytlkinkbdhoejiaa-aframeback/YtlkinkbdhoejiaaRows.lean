/-
  No cell of these rows narrows 'for every input' (looked for: loops, veiled, ifaces, maps, wideKeys, modest, calm, conditions, laid).
  DERIVED. THE GIVEN ROWS OF THIS SEAT. 5 by the template 'for every input the law returns true; each argument reads behind the call as it read before'; 0 by the template 'total and deterministic' (their statements: YtlkinkbdhoejiaaTotals.lean).
  GIVEN WITH THE SEED: the statements are not yours to turn. If you find one false, say at which input.
  Laid BY PROGRAM, IN A SANDBOX (cutbox-rows.mjs): the forced cells as the released guide's own fill.sh prints them over the translation 277bfea1527d6eda… (all of the seat's roots in one cut). By AI agents, Wed Nov 11 2026. No macro, syntax, notation, axiom, sorry.
-/
import Derived.Test.YtlkinkbdhoejiaaChecked
import GoSem.Claim
import GoSem.ClaimJoined
import GoSem.ClaimMapViews
import Derived.JoinedTies
import Derived.KernelRfl
namespace Go.Proofs.Ytlkinkbdhoejiaa
/- THE CELL 'sum', in the pinned program and in every row, IS THE sha256 OF THE DUMP (.gsa) THAT YtlkinkbdhoejiaaProg.lean LOADS. Nothing in Lean hashes anything: it is a label: what it is worth is what the hold of that sum in a sandbox is worth. -/
noncomputable def Try.pinned : Pinned := { name := "ytlkinkbdhoejiaa", sum := "277bfea1527d6edab2a9815a46057a296bd3f88621f3f5130059cd258888f12a", checked := Try.checked }
namespace Rows
def none {H : Type} : Left H := { results := [], args := [] }

/-- 'trivetlaw16.AframeFrames': WHATEVER THE INPUT: true; the input reads as it did. -/
def aframeFramesSpec : ChangeSpec := { name := "aframeFrames", fn := fun _ => fun
  | [d1, d2] => { results := [.lit (.bool true)], args := [d1, d2] }
  | _ => none }
def aframeFramesRow : OpenClaim := { program := "ytlkinkbdhoejiaa", sum := "277bfea1527d6edab2a9815a46057a296bd3f88621f3f5130059cd258888f12a", func := "trivet/trivetlaw16.AframeFrames", spec := "aframeFrames", inPlace := ["math.Float64bits", "math.Float64frombits", "math.Float32bits"], apart := false }
def AframeFramesSaid : Prop := aframeFramesRow.holds Try.pinned (OpenSpec.ofChange aframeFramesSpec)

/-- ITS FALSE NEIGHBOUR: 'it returns false'. Refute it at one input. -/
def aframeFramesWrong : ChangeSpec := { name := "aframeFrames", fn := fun _ => fun
  | [d1, d2] => { results := [.lit (.bool false)], args := [d1, d2] }
  | _ => none }
def AframeFramesWrongFalsely : Prop := aframeFramesRow.holds Try.pinned (OpenSpec.ofChange aframeFramesWrong)

/-- 'trivetlaw16.AframeHeads': WHATEVER THE INPUT: true; the input reads as it did. -/
def aframeHeadsSpec : ChangeSpec := { name := "aframeHeads", fn := fun _ => fun
  | [d1, d2, d3] => { results := [.lit (.bool true)], args := [d1, d2, d3] }
  | _ => none }
def aframeHeadsRow : OpenClaim := { program := "ytlkinkbdhoejiaa", sum := "277bfea1527d6edab2a9815a46057a296bd3f88621f3f5130059cd258888f12a", func := "trivet/trivetlaw16.AframeHeads", spec := "aframeHeads", inPlace := ["math.Float64bits", "math.Float64frombits", "math.Float32bits", "math.Float32frombits"], unfollowed := true, recurses := true, apart := false }
def AframeHeadsSaid : Prop := aframeHeadsRow.holds Try.pinned (OpenSpec.ofChange aframeHeadsSpec)

/-- ITS FALSE NEIGHBOUR: 'it returns false'. Refute it at one input. -/
def aframeHeadsWrong : ChangeSpec := { name := "aframeHeads", fn := fun _ => fun
  | [d1, d2, d3] => { results := [.lit (.bool false)], args := [d1, d2, d3] }
  | _ => none }
def AframeHeadsWrongFalsely : Prop := aframeHeadsRow.holds Try.pinned (OpenSpec.ofChange aframeHeadsWrong)

/-- 'trivetlaw16.AframeBack': WHATEVER THE INPUT: true; the input reads as it did. -/
def aframeBackSpec : ChangeSpec := { name := "aframeBack", fn := fun _ => fun
  | [d1, d2, d3] => { results := [.lit (.bool true)], args := [d1, d2, d3] }
  | _ => none }
def aframeBackRow : OpenClaim := { program := "ytlkinkbdhoejiaa", sum := "277bfea1527d6edab2a9815a46057a296bd3f88621f3f5130059cd258888f12a", func := "trivet/trivetlaw16.AframeBack", spec := "aframeBack", inPlace := ["math.Float64bits", "math.Float64frombits", "math.Float32bits", "math.Float32frombits"], unfollowed := true, recurses := true, apart := false }
def AframeBackSaid : Prop := aframeBackRow.holds Try.pinned (OpenSpec.ofChange aframeBackSpec)

/-- ITS FALSE NEIGHBOUR: 'it returns false'. Refute it at one input. -/
def aframeBackWrong : ChangeSpec := { name := "aframeBack", fn := fun _ => fun
  | [d1, d2, d3] => { results := [.lit (.bool false)], args := [d1, d2, d3] }
  | _ => none }
def AframeBackWrongFalsely : Prop := aframeBackRow.holds Try.pinned (OpenSpec.ofChange aframeBackWrong)

/-- 'trivetlaw16.AframeChunks': WHATEVER THE INPUT: true; the input reads as it did. -/
def aframeChunksSpec : ChangeSpec := { name := "aframeChunks", fn := fun _ => fun
  | [d1, d2] => { results := [.lit (.bool true)], args := [d1, d2] }
  | _ => none }
def aframeChunksRow : OpenClaim := { program := "ytlkinkbdhoejiaa", sum := "277bfea1527d6edab2a9815a46057a296bd3f88621f3f5130059cd258888f12a", func := "trivet/trivetlaw16.AframeChunks", spec := "aframeChunks", inPlace := ["math.Float64bits", "math.Float64frombits", "math.Float32bits"], apart := false }
def AframeChunksSaid : Prop := aframeChunksRow.holds Try.pinned (OpenSpec.ofChange aframeChunksSpec)

/-- ITS FALSE NEIGHBOUR: 'it returns false'. Refute it at one input. -/
def aframeChunksWrong : ChangeSpec := { name := "aframeChunks", fn := fun _ => fun
  | [d1, d2] => { results := [.lit (.bool false)], args := [d1, d2] }
  | _ => none }
def AframeChunksWrongFalsely : Prop := aframeChunksRow.holds Try.pinned (OpenSpec.ofChange aframeChunksWrong)

/-- 'trivetlaw16.AframeBounds': WHATEVER THE INPUT: true; the input reads as it did. -/
def aframeBoundsSpec : ChangeSpec := { name := "aframeBounds", fn := fun _ => fun
  | [d] => { results := [.lit (.bool true)], args := [d] }
  | _ => none }
def aframeBoundsRow : OpenClaim := { program := "ytlkinkbdhoejiaa", sum := "277bfea1527d6edab2a9815a46057a296bd3f88621f3f5130059cd258888f12a", func := "trivet/trivetlaw16.AframeBounds", spec := "aframeBounds", inPlace := ["math.Float64bits", "math.Float64frombits", "math.Float32bits"], apart := false }
def AframeBoundsSaid : Prop := aframeBoundsRow.holds Try.pinned (OpenSpec.ofChange aframeBoundsSpec)

/-- ITS FALSE NEIGHBOUR: 'it returns false'. Refute it at one input. -/
def aframeBoundsWrong : ChangeSpec := { name := "aframeBounds", fn := fun _ => fun
  | [d] => { results := [.lit (.bool false)], args := [d] }
  | _ => none }
def AframeBoundsWrongFalsely : Prop := aframeBoundsRow.holds Try.pinned (OpenSpec.ofChange aframeBoundsWrong)

/- THE SECOND FORM. 'bulk': how many values and letters a reading holds, each counted each time it is reached (what is shared counts as often as it is met; a slice's spare places count too). A statement '..UptoSaid' is the law's where the arguments, and the package variables that the reading takes, are together of bulk at most 1048576: NARROWER than '..Said'. Prove '..Said' where nothing that the law and all that it calls make is longer than what came in: it says more and counts as full. Else prove '..UptoSaid'. A law counts once. -/
mutual
def uptoBulk {H : Type} : DataW H → Nat
  | .lit (.string bytes) => bytes.length + 1
  | .lit _ => 1
  | .nil => 1
  | .ptr d => uptoBulk d + 1
  | .slice elems spare => uptoBulkAll elems + uptoBulkAll spare + 1
  | .agg parts => uptoBulkAll parts + 1
  | .iface _ d => uptoBulk d + 1
  | .map entries => uptoBulkEntries entries + 1
  | .held _ => 1
def uptoBulkAll {H : Type} : List (DataW H) → Nat
  | [] => 0
  | d :: r => uptoBulk d + uptoBulkAll r
def uptoBulkEntries {H : Type} : List (Lit × DataW H) → Nat
  | [] => 0
  | x :: r => uptoBulkEntry x + uptoBulkEntries r
def uptoBulkEntry {H : Type} : Lit × DataW H → Nat
  | (.string bytes, d) => bytes.length + uptoBulk d + 1
  | (_, d) => uptoBulk d + 1
 end
def uptoSmall : (H : Type) → List (DataW H) → Bool := fun _ ds => decide (uptoBulkAll ds ≤ 1048576)
def OpenSpec.upto (s : _root_.Go.ChangeSpec) : _root_.Go.OpenSpec := { _root_.Go.OpenSpec.ofChange s with cond := some uptoSmall }

/-- 'trivetlaw16.AframeFrames', WHERE WHAT IT READS IS OF BULK AT MOST 1048576: true; the input reads as it did. -/
def aframeFramesUptoRow : OpenClaim := { program := "ytlkinkbdhoejiaa", sum := "277bfea1527d6edab2a9815a46057a296bd3f88621f3f5130059cd258888f12a", func := "trivet/trivetlaw16.AframeFrames", spec := "aframeFrames", inPlace := ["math.Float64bits", "math.Float64frombits", "math.Float32bits"], apart := false, narrowed := true }
def AframeFramesUptoSaid : Prop := aframeFramesUptoRow.holds Try.pinned (OpenSpec.upto aframeFramesSpec)

/-- 'trivetlaw16.AframeHeads', WHERE WHAT IT READS IS OF BULK AT MOST 1048576: true; the input reads as it did. -/
def aframeHeadsUptoRow : OpenClaim := { program := "ytlkinkbdhoejiaa", sum := "277bfea1527d6edab2a9815a46057a296bd3f88621f3f5130059cd258888f12a", func := "trivet/trivetlaw16.AframeHeads", spec := "aframeHeads", inPlace := ["math.Float64bits", "math.Float64frombits", "math.Float32bits", "math.Float32frombits"], unfollowed := true, recurses := true, apart := false, narrowed := true }
def AframeHeadsUptoSaid : Prop := aframeHeadsUptoRow.holds Try.pinned (OpenSpec.upto aframeHeadsSpec)

/-- 'trivetlaw16.AframeBack', WHERE WHAT IT READS IS OF BULK AT MOST 1048576: true; the input reads as it did. -/
def aframeBackUptoRow : OpenClaim := { program := "ytlkinkbdhoejiaa", sum := "277bfea1527d6edab2a9815a46057a296bd3f88621f3f5130059cd258888f12a", func := "trivet/trivetlaw16.AframeBack", spec := "aframeBack", inPlace := ["math.Float64bits", "math.Float64frombits", "math.Float32bits", "math.Float32frombits"], unfollowed := true, recurses := true, apart := false, narrowed := true }
def AframeBackUptoSaid : Prop := aframeBackUptoRow.holds Try.pinned (OpenSpec.upto aframeBackSpec)

/-- 'trivetlaw16.AframeChunks', WHERE WHAT IT READS IS OF BULK AT MOST 1048576: true; the input reads as it did. -/
def aframeChunksUptoRow : OpenClaim := { program := "ytlkinkbdhoejiaa", sum := "277bfea1527d6edab2a9815a46057a296bd3f88621f3f5130059cd258888f12a", func := "trivet/trivetlaw16.AframeChunks", spec := "aframeChunks", inPlace := ["math.Float64bits", "math.Float64frombits", "math.Float32bits"], apart := false, narrowed := true }
def AframeChunksUptoSaid : Prop := aframeChunksUptoRow.holds Try.pinned (OpenSpec.upto aframeChunksSpec)

/-- 'trivetlaw16.AframeBounds', WHERE WHAT IT READS IS OF BULK AT MOST 1048576: true; the input reads as it did. -/
def aframeBoundsUptoRow : OpenClaim := { program := "ytlkinkbdhoejiaa", sum := "277bfea1527d6edab2a9815a46057a296bd3f88621f3f5130059cd258888f12a", func := "trivet/trivetlaw16.AframeBounds", spec := "aframeBounds", inPlace := ["math.Float64bits", "math.Float64frombits", "math.Float32bits"], apart := false, narrowed := true }
def AframeBoundsUptoSaid : Prop := aframeBoundsUptoRow.holds Try.pinned (OpenSpec.upto aframeBoundsSpec)

end Rows
end Go.Proofs.Ytlkinkbdhoejiaa
