/-
  No cell of these rows narrows 'for every input' (looked for: loops, veiled, ifaces, maps, wideKeys, modest, calm, conditions, laid).
  DERIVED. THE GIVEN ROWS OF THIS SEAT. 5 by the template 'for every input the law returns true; each argument reads behind the call as it read before'; 0 by the template 'total and deterministic' (their statements: YtgbgeoplbmjcbaaTotals.lean).
  GIVEN WITH THE SEED: the statements are not yours to turn. If you find one false, say at which input.
  Laid BY PROGRAM, IN A SANDBOX (cutbox-rows.mjs): the forced cells as the released guide's own fill.sh prints them over the translation 4cdb112daf10b9f0… (all of the seat's roots in one cut). By AI agents, Wed Nov 11 2026. No macro, syntax, notation, axiom, sorry.
-/
import Derived.Test.YtgbgeoplbmjcbaaChecked
import GoSem.Claim
import GoSem.ClaimJoined
import GoSem.ClaimMapViews
import Derived.JoinedTies
import Derived.KernelRfl
namespace Go.Proofs.Ytgbgeoplbmjcbaa
/- THE CELL 'sum', in the pinned program and in every row, IS THE sha256 OF THE DUMP (.gsa) THAT YtgbgeoplbmjcbaaProg.lean LOADS. Nothing in Lean hashes anything: it is a label: what it is worth is what the hold of that sum in a sandbox is worth. -/
noncomputable def Try.pinned : Pinned := { name := "ytgbgeoplbmjcbaa", sum := "4cdb112daf10b9f0b5f4083817d924ec72c31849bf2d66ee70e606d9a4775444", checked := Try.checked }
namespace Rows
def none {H : Type} : Left H := { results := [], args := [] }

/-- 'trivetlaw03.DrumDoes': WHATEVER THE INPUT: true; the input reads as it did. -/
def drumDoesSpec : ChangeSpec := { name := "drumDoes", fn := fun _ => fun
  | [d1, d2] => { results := [.lit (.bool true)], args := [d1, d2] }
  | _ => none }
def drumDoesRow : OpenClaim := { program := "ytgbgeoplbmjcbaa", sum := "4cdb112daf10b9f0b5f4083817d924ec72c31849bf2d66ee70e606d9a4775444", func := "trivet/trivetlaw03.DrumDoes", spec := "drumDoes", apart := false }
def DrumDoesSaid : Prop := drumDoesRow.holds Try.pinned (OpenSpec.ofChange drumDoesSpec)

/-- ITS FALSE NEIGHBOUR: 'it returns false'. Refute it at one input. -/
def drumDoesWrong : ChangeSpec := { name := "drumDoes", fn := fun _ => fun
  | [d1, d2] => { results := [.lit (.bool false)], args := [d1, d2] }
  | _ => none }
def DrumDoesWrongFalsely : Prop := drumDoesRow.holds Try.pinned (OpenSpec.ofChange drumDoesWrong)

/-- 'trivetlaw03.DrumSafe': WHATEVER THE INPUT: true; the input reads as it did. -/
def drumSafeSpec : ChangeSpec := { name := "drumSafe", fn := fun _ => fun
  | [d1, d2, d3] => { results := [.lit (.bool true)], args := [d1, d2, d3] }
  | _ => none }
def drumSafeRow : OpenClaim := { program := "ytgbgeoplbmjcbaa", sum := "4cdb112daf10b9f0b5f4083817d924ec72c31849bf2d66ee70e606d9a4775444", func := "trivet/trivetlaw03.DrumSafe", spec := "drumSafe", apart := false }
def DrumSafeSaid : Prop := drumSafeRow.holds Try.pinned (OpenSpec.ofChange drumSafeSpec)

/-- ITS FALSE NEIGHBOUR: 'it returns false'. Refute it at one input. -/
def drumSafeWrong : ChangeSpec := { name := "drumSafe", fn := fun _ => fun
  | [d1, d2, d3] => { results := [.lit (.bool false)], args := [d1, d2, d3] }
  | _ => none }
def DrumSafeWrongFalsely : Prop := drumSafeRow.holds Try.pinned (OpenSpec.ofChange drumSafeWrong)

/-- 'trivetlaw03.DrumArms': WHATEVER THE INPUT: true; the input reads as it did. -/
def drumArmsSpec : ChangeSpec := { name := "drumArms", fn := fun _ => fun
  | [d1, d2, d3] => { results := [.lit (.bool true)], args := [d1, d2, d3] }
  | _ => none }
def drumArmsRow : OpenClaim := { program := "ytgbgeoplbmjcbaa", sum := "4cdb112daf10b9f0b5f4083817d924ec72c31849bf2d66ee70e606d9a4775444", func := "trivet/trivetlaw03.DrumArms", spec := "drumArms", apart := false }
def DrumArmsSaid : Prop := drumArmsRow.holds Try.pinned (OpenSpec.ofChange drumArmsSpec)

/-- ITS FALSE NEIGHBOUR: 'it returns false'. Refute it at one input. -/
def drumArmsWrong : ChangeSpec := { name := "drumArms", fn := fun _ => fun
  | [d1, d2, d3] => { results := [.lit (.bool false)], args := [d1, d2, d3] }
  | _ => none }
def DrumArmsWrongFalsely : Prop := drumArmsRow.holds Try.pinned (OpenSpec.ofChange drumArmsWrong)

/-- 'trivetlaw03.DrumKeeps': WHATEVER THE INPUT: true; the input reads as it did. -/
def drumKeepsSpec : ChangeSpec := { name := "drumKeeps", fn := fun _ => fun
  | [d1, d2] => { results := [.lit (.bool true)], args := [d1, d2] }
  | _ => none }
def drumKeepsRow : OpenClaim := { program := "ytgbgeoplbmjcbaa", sum := "4cdb112daf10b9f0b5f4083817d924ec72c31849bf2d66ee70e606d9a4775444", func := "trivet/trivetlaw03.DrumKeeps", spec := "drumKeeps", apart := false }
def DrumKeepsSaid : Prop := drumKeepsRow.holds Try.pinned (OpenSpec.ofChange drumKeepsSpec)

/-- ITS FALSE NEIGHBOUR: 'it returns false'. Refute it at one input. -/
def drumKeepsWrong : ChangeSpec := { name := "drumKeeps", fn := fun _ => fun
  | [d1, d2] => { results := [.lit (.bool false)], args := [d1, d2] }
  | _ => none }
def DrumKeepsWrongFalsely : Prop := drumKeepsRow.holds Try.pinned (OpenSpec.ofChange drumKeepsWrong)

/-- 'trivetlaw03.DrumLast': WHATEVER THE INPUT: true; the input reads as it did. -/
def drumLastSpec : ChangeSpec := { name := "drumLast", fn := fun _ => fun
  | [d1, d2] => { results := [.lit (.bool true)], args := [d1, d2] }
  | _ => none }
def drumLastRow : OpenClaim := { program := "ytgbgeoplbmjcbaa", sum := "4cdb112daf10b9f0b5f4083817d924ec72c31849bf2d66ee70e606d9a4775444", func := "trivet/trivetlaw03.DrumLast", spec := "drumLast", apart := false }
def DrumLastSaid : Prop := drumLastRow.holds Try.pinned (OpenSpec.ofChange drumLastSpec)

/-- ITS FALSE NEIGHBOUR: 'it returns false'. Refute it at one input. -/
def drumLastWrong : ChangeSpec := { name := "drumLast", fn := fun _ => fun
  | [d1, d2] => { results := [.lit (.bool false)], args := [d1, d2] }
  | _ => none }
def DrumLastWrongFalsely : Prop := drumLastRow.holds Try.pinned (OpenSpec.ofChange drumLastWrong)

/- THE SECOND FORM. 'bulk': how many values and letters a reading holds, each counted each time it is reached (what is shared counts as often as it is met; a slice's spare places count too). A statement '..UptoSaid' is the law's where the arguments, and the package variables that the reading takes, are together of bulk at most 1048576: NARROWER than '..Said'. Prove '..Said' where nothing that the law and all that it calls make is longer than what came in: it says more and counts as full. Else prove '..UptoSaid'. A law counts once. -/
mutual
def uptoBulk {H : Type} : DataW H → Nat
  | .lit (.string bytes) => bytes.length + 1
  | .lit _ => 1
  | .nil => 1
  | .ptr d => uptoBulk d + 1
  | .slice elems spare => uptoBulkAll elems + uptoBulkAll spare + 1
  | .agg parts => uptoBulkAll parts + 1
  | .iface _ d => uptoBulk d + 1
  | .map entries => uptoBulkEntries entries + 1
  | .held _ => 1
def uptoBulkAll {H : Type} : List (DataW H) → Nat
  | [] => 0
  | d :: r => uptoBulk d + uptoBulkAll r
def uptoBulkEntries {H : Type} : List (Lit × DataW H) → Nat
  | [] => 0
  | x :: r => uptoBulkEntry x + uptoBulkEntries r
def uptoBulkEntry {H : Type} : Lit × DataW H → Nat
  | (.string bytes, d) => bytes.length + uptoBulk d + 1
  | (_, d) => uptoBulk d + 1
 end
def uptoSmall : (H : Type) → List (DataW H) → Bool := fun _ ds => decide (uptoBulkAll ds ≤ 1048576)
def OpenSpec.upto (s : _root_.Go.ChangeSpec) : _root_.Go.OpenSpec := { _root_.Go.OpenSpec.ofChange s with cond := some uptoSmall }

/-- 'trivetlaw03.DrumDoes', WHERE WHAT IT READS IS OF BULK AT MOST 1048576: true; the input reads as it did. -/
def drumDoesUptoRow : OpenClaim := { program := "ytgbgeoplbmjcbaa", sum := "4cdb112daf10b9f0b5f4083817d924ec72c31849bf2d66ee70e606d9a4775444", func := "trivet/trivetlaw03.DrumDoes", spec := "drumDoes", apart := false, narrowed := true }
def DrumDoesUptoSaid : Prop := drumDoesUptoRow.holds Try.pinned (OpenSpec.upto drumDoesSpec)

/-- 'trivetlaw03.DrumSafe', WHERE WHAT IT READS IS OF BULK AT MOST 1048576: true; the input reads as it did. -/
def drumSafeUptoRow : OpenClaim := { program := "ytgbgeoplbmjcbaa", sum := "4cdb112daf10b9f0b5f4083817d924ec72c31849bf2d66ee70e606d9a4775444", func := "trivet/trivetlaw03.DrumSafe", spec := "drumSafe", apart := false, narrowed := true }
def DrumSafeUptoSaid : Prop := drumSafeUptoRow.holds Try.pinned (OpenSpec.upto drumSafeSpec)

/-- 'trivetlaw03.DrumArms', WHERE WHAT IT READS IS OF BULK AT MOST 1048576: true; the input reads as it did. -/
def drumArmsUptoRow : OpenClaim := { program := "ytgbgeoplbmjcbaa", sum := "4cdb112daf10b9f0b5f4083817d924ec72c31849bf2d66ee70e606d9a4775444", func := "trivet/trivetlaw03.DrumArms", spec := "drumArms", apart := false, narrowed := true }
def DrumArmsUptoSaid : Prop := drumArmsUptoRow.holds Try.pinned (OpenSpec.upto drumArmsSpec)

/-- 'trivetlaw03.DrumKeeps', WHERE WHAT IT READS IS OF BULK AT MOST 1048576: true; the input reads as it did. -/
def drumKeepsUptoRow : OpenClaim := { program := "ytgbgeoplbmjcbaa", sum := "4cdb112daf10b9f0b5f4083817d924ec72c31849bf2d66ee70e606d9a4775444", func := "trivet/trivetlaw03.DrumKeeps", spec := "drumKeeps", apart := false, narrowed := true }
def DrumKeepsUptoSaid : Prop := drumKeepsUptoRow.holds Try.pinned (OpenSpec.upto drumKeepsSpec)

/-- 'trivetlaw03.DrumLast', WHERE WHAT IT READS IS OF BULK AT MOST 1048576: true; the input reads as it did. -/
def drumLastUptoRow : OpenClaim := { program := "ytgbgeoplbmjcbaa", sum := "4cdb112daf10b9f0b5f4083817d924ec72c31849bf2d66ee70e606d9a4775444", func := "trivet/trivetlaw03.DrumLast", spec := "drumLast", apart := false, narrowed := true }
def DrumLastUptoSaid : Prop := drumLastUptoRow.holds Try.pinned (OpenSpec.upto drumLastSpec)

end Rows
end Go.Proofs.Ytgbgeoplbmjcbaa
