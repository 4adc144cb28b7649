
/- The table's rows, each held against what the order of the texts asks of it. -/
import Derived.Test.YtlhfdklfkfodkabDoorMva
set_option maxRecDepth 100000
namespace Go.Proofs.YtlhfdklfkfodkabDoor.Ff

/-- The power taken for an exponent, but for the number that stands askew. -/
def pE (e : Int) : Int := if -1085 ≤ e then -((e + 11) * 78913 / 262144) else 324
def iE (e : Int) : Nat := (pE e + 348).toNat
def sE (e : Int) : Nat := (-(e + pE e * 108853 / 32768 + 3)).toNat
def wOK (e : Int) : Bool := Nat.ble (2 ^ (66 + sE e) + 2 ^ shZ e * pl (iE e) / 2 ^ 64 + 3) (2 ^ shZ e * ph (iE e)) || e == -11
theorem w_all : (List.range 2098).all (fun i => wOK ((i : Int) - 1137)) = true := by kernel_rfl
/-- What the digits are worth, times 10 to the 400. -/
def decS (m : Nat) (e : Int) : Nat := (shortN m e).1 * 10 ^ ((shortN m e).2 + 400).toNat
def bA (e : Int) : Bool := Nat.ble (decS (2 ^ 64 - 2 ^ shZ e) e + 1) (decS (2 ^ 63) (e + 1))
def bB (e : Int) : Bool := Nat.ble (decS (2 ^ 63) e + 1) (decS (2 ^ 63 + 2 ^ shZ e) e)
theorem a_all : (List.range 2097).all (fun i => bA ((i : Int) - 1137)) = true := by kernel_rfl
theorem b_all : (List.range 2097).all (fun i => bB ((i : Int) - 1136)) = true := by kernel_rfl
end Go.Proofs.YtlhfdklfkfodkabDoor.Ff
