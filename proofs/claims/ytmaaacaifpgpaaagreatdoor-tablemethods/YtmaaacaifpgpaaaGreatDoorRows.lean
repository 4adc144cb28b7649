/-
  NARROWER THAN 'FOR EVERY INPUT', by the rows' own cells (each row's printed sentence says how): TableMethods: laid.
  DERIVED. THE GIVEN ROWS OF THIS SEAT. 1 by the template 'for every input the law returns true; each argument reads behind the call as it read before'; 0 by the template 'total and deterministic' (their statements: YtmaaacaifpgpaaaGreatDoorTotals.lean).
  GIVEN WITH THE SEED: the statements are not yours to turn. If you find one false, say at which input.
  Laid BY PROGRAM, IN A SANDBOX (cutbox-rows.mjs): the forced cells as the released guide's own fill.sh prints them over the translation af39a6faf6485aa4… (all of the seat's roots in one cut). By AI agents, Wed Nov 11 2026. No macro, syntax, notation, axiom, sorry.
-/
import Derived.Test.YtmaaacaifpgpaaaGreatDoorChecked
import GoSem.Claim
import GoSem.ClaimJoined
import GoSem.ClaimMapViews
import Derived.JoinedTies
import Derived.KernelRfl
namespace Go.Proofs.YtmaaacaifpgpaaaGreatDoor
/- THE CELL 'sum', in the pinned program and in every row, IS THE sha256 OF THE DUMP (.gsa) THAT YtmaaacaifpgpaaaGreatDoorProg.lean LOADS. Nothing in Lean hashes anything: it is a label: what it is worth is what the hold of that sum in a sandbox is worth. -/
noncomputable def Tryz.pinned : Pinned := { name := "ytmaaacaifpgpaaagreatdoor", sum := "af39a6faf6485aa47b7d01fb0afa3732b40ec5030d5a1a7af8f267d7799b7a87", checked := Tryz.checked }
namespace Rows
def none {H : Type} : Left H := { results := [], args := [] }

/- WHAT THE LISTED PACKAGE-LEVEL VARIABLES READ AS WHEN THE CALL BEGINS. Each datum BY PROGRAM (the guide's laid-datum.mjs) off the statement by which the dump's own 'gosem.cut.vars' lays the variable. In a bare row this is a premise. The card (YtmaaacaifpgpaaaGreatDoorCards.lean) ties it to the program's text. -/
def laid_trivet_table_methods {H : Type} : DataW H := .agg [.agg [.lit (.int .i64 10), .lit (.int .i64 10), .lit (.string [111, 111, 84, 83, 83])], .agg [.lit (.int .i64 10), .lit (.int .i64 11), .lit (.string [84, 115, 83, 115])], .agg [.lit (.int .i64 10), .lit (.int .i64 30), .lit (.string [104, 108, 104])], .agg [.lit (.int .i64 10), .lit (.int .i64 31), .lit (.string [104, 108, 104])], .agg [.lit (.int .i64 10), .lit (.int .i64 40), .lit (.string [115, 115, 98])], .agg [.lit (.int .i64 10), .lit (.int .i64 41), .lit (.string [115])], .agg [.lit (.int .i64 10), .lit (.int .i64 50), .lit (.string [104, 115, 104, 104])], .agg [.lit (.int .i64 10), .lit (.int .i64 51), .lit (.string [])], .agg [.lit (.int .i64 20), .lit (.int .i64 10), .lit (.string [115])], .agg [.lit (.int .i64 20), .lit (.int .i64 11), .lit (.string [83])], .agg [.lit (.int .i64 20), .lit (.int .i64 40), .lit (.string [104, 115, 104, 104])], .agg [.lit (.int .i64 20), .lit (.int .i64 41), .lit (.string [])], .agg [.lit (.int .i64 50), .lit (.int .i64 10), .lit (.string [104, 115, 98, 84])], .agg [.lit (.int .i64 50), .lit (.int .i64 11), .lit (.string [115, 108, 108])], .agg [.lit (.int .i64 50), .lit (.int .i64 20), .lit (.string [104, 115, 115, 115, 98, 84])], .agg [.lit (.int .i64 50), .lit (.int .i64 21), .lit (.string [])], .agg [.lit (.int .i64 60), .lit (.int .i64 10), .lit (.string [108, 104, 98])], .agg [.lit (.int .i64 60), .lit (.int .i64 11), .lit (.string [])], .agg [.lit (.int .i64 60), .lit (.int .i64 20), .lit (.string [104, 115, 115, 98, 84])], .agg [.lit (.int .i64 60), .lit (.int .i64 21), .lit (.string [115])], .agg [.lit (.int .i64 60), .lit (.int .i64 40), .lit (.string [104, 115, 115, 98])], .agg [.lit (.int .i64 60), .lit (.int .i64 60), .lit (.string [115, 76, 98, 115, 115])], .agg [.lit (.int .i64 60), .lit (.int .i64 70), .lit (.string [104, 115, 98])], .agg [.lit (.int .i64 60), .lit (.int .i64 71), .lit (.string [76, 98, 115, 115, 108])], .agg [.lit (.int .i64 60), .lit (.int .i64 72), .lit (.string [115])], .agg [.lit (.int .i64 60), .lit (.int .i64 80), .lit (.string [76, 98])], .agg [.lit (.int .i64 60), .lit (.int .i64 90), .lit (.string [76, 98])], .agg [.lit (.int .i64 60), .lit (.int .i64 120), .lit (.string [76, 98])], .agg [.lit (.int .i64 85), .lit (.int .i64 10), .lit (.string [98])], .agg [.lit (.int .i64 85), .lit (.int .i64 11), .lit (.string [])], .agg [.lit (.int .i64 90), .lit (.int .i64 10), .lit (.string [])], .agg [.lit (.int .i64 90), .lit (.int .i64 11), .lit (.string [])], .agg [.lit (.int .i64 90), .lit (.int .i64 20), .lit (.string [])], .agg [.lit (.int .i64 90), .lit (.int .i64 21), .lit (.string [])], .agg [.lit (.int .i64 90), .lit (.int .i64 30), .lit (.string [])], .agg [.lit (.int .i64 90), .lit (.int .i64 31), .lit (.string [])]]

/-- 'trivetlaw15.TableMethods': WHATEVER THE INPUT: true; the input reads as it did. -/
def tableMethodsSpec : ChangeSpec := { name := "tableMethods", fn := fun _ => fun
  | [d1, d2] => { results := [.lit (.bool true)], args := [d1, d2] }
  | _ => none }
def tableMethodsRow : OpenClaim := { program := "ytmaaacaifpgpaaagreatdoor", sum := "af39a6faf6485aa47b7d01fb0afa3732b40ec5030d5a1a7af8f267d7799b7a87", func := "trivet/trivetlaw15.TableMethods", spec := "tableMethods", inPlace := ["math.Float64bits", "math.Float64frombits", "math.Float32bits", "math.Float32frombits"], unfollowed := true, recurses := true, named := ["trivet/table.methods"], apart := false, laid := [("trivet/table.methods", laid_trivet_table_methods)] }
def TableMethodsSaid : Prop := tableMethodsRow.holds Tryz.pinned (OpenSpec.ofChange tableMethodsSpec)

/-- ITS FALSE NEIGHBOUR: 'it returns false'. Refute it at one input. -/
def tableMethodsWrong : ChangeSpec := { name := "tableMethods", fn := fun _ => fun
  | [d1, d2] => { results := [.lit (.bool false)], args := [d1, d2] }
  | _ => none }
def TableMethodsWrongFalsely : Prop := tableMethodsRow.holds Tryz.pinned (OpenSpec.ofChange tableMethodsWrong)

/- THE SECOND FORM. 'bulk': how many values and letters a reading holds, each counted each time it is reached (what is shared counts as often as it is met; a slice's spare places count too). A statement '..UptoSaid' is the law's where the arguments, and the package variables that the reading takes, are together of bulk at most 1048576: NARROWER than '..Said'. Prove '..Said' where nothing that the law and all that it calls make is longer than what came in: it says more and counts as full. Else prove '..UptoSaid'. A law counts once. -/
mutual
def uptoBulk {H : Type} : DataW H → Nat
  | .lit (.string bytes) => bytes.length + 1
  | .lit _ => 1
  | .nil => 1
  | .ptr d => uptoBulk d + 1
  | .slice elems spare => uptoBulkAll elems + uptoBulkAll spare + 1
  | .agg parts => uptoBulkAll parts + 1
  | .iface _ d => uptoBulk d + 1
  | .map entries => uptoBulkEntries entries + 1
  | .held _ => 1
def uptoBulkAll {H : Type} : List (DataW H) → Nat
  | [] => 0
  | d :: r => uptoBulk d + uptoBulkAll r
def uptoBulkEntries {H : Type} : List (Lit × DataW H) → Nat
  | [] => 0
  | x :: r => uptoBulkEntry x + uptoBulkEntries r
def uptoBulkEntry {H : Type} : Lit × DataW H → Nat
  | (.string bytes, d) => bytes.length + uptoBulk d + 1
  | (_, d) => uptoBulk d + 1
 end
def uptoSmall : (H : Type) → List (DataW H) → Bool := fun _ ds => decide (uptoBulkAll ds ≤ 1048576)
def OpenSpec.upto (s : _root_.Go.ChangeSpec) : _root_.Go.OpenSpec := { _root_.Go.OpenSpec.ofChange s with cond := some uptoSmall }

/-- 'trivetlaw15.TableMethods', WHERE WHAT IT READS IS OF BULK AT MOST 1048576: true; the input reads as it did. -/
def tableMethodsUptoRow : OpenClaim := { program := "ytmaaacaifpgpaaagreatdoor", sum := "af39a6faf6485aa47b7d01fb0afa3732b40ec5030d5a1a7af8f267d7799b7a87", func := "trivet/trivetlaw15.TableMethods", spec := "tableMethods", inPlace := ["math.Float64bits", "math.Float64frombits", "math.Float32bits", "math.Float32frombits"], unfollowed := true, recurses := true, named := ["trivet/table.methods"], apart := false, laid := [("trivet/table.methods", laid_trivet_table_methods)], narrowed := true }
def TableMethodsUptoSaid : Prop := tableMethodsUptoRow.holds Tryz.pinned (OpenSpec.upto tableMethodsSpec)

end Rows
end Go.Proofs.YtmaaacaifpgpaaaGreatDoor
