
/- What prop.Compare answers of any two values. -/
import Derived.Test.YtmaaacaifpgpaaaGreatDoorPa
import Derived.Test.YtmaaacaifpgpaaaGreatDoorRcc
import Derived.Deep.QuietTactic
import Derived.Deep.Cut
import Derived.Shelf.RegionOpen
namespace Go.Proofs.YtmaaacaifpgpaaaGreatDoor
open Go.RowKit Go.Lib Ieee

theorem hmix : Tryz.prog.follows .mixedOrders = true := by kernel_rfl

/-- A value as the program holds it. -/
structure Val where
  kind : Int
  num : Int
  text : ByteArray
  real : Nat
def Val.v (x : Val) : Value := .agg #[.int .i64 x.kind, .int .i64 x.num, .string x.text, .float .f64 x.real]
def cmpV (a b : Val) : Int := or4 (cmpZ a.kind b.kind) (cmpZ a.num b.num) (cmpL a.text.toList b.text.toList) (cmpN (keyB a.real) (keyB b.real))

theorem box1 (w : World) (C D : Array Value) (tc td j : Nat) (v : Value) (h : C[j]? = some v) : (((w.alloc (.cells C tc)).alloc (.cells D td)).drew).cell? ⟨w.heap.size, j, none⟩ = some v := by
  show ((w.alloc (.cells C tc)).alloc (.cells D td)).cell? ⟨w.heap.size, j, none⟩ = some v
  rw [((Below.refl _ (w.alloc (.cells C tc))).alloc (Nat.le_refl _) (.cells D td)).cell (by simp), World.cell?_alloc_new]
  exact h
theorem box2 (w : World) (C D : Array Value) (tc td j : Nat) (v : Value) (h : D[j]? = some v) : (((w.alloc (.cells C tc)).alloc (.cells D td)).drew).cell? ⟨w.heap.size + 1, j, none⟩ = some v := by
  show ((w.alloc (.cells C tc)).alloc (.cells D td)).cell? ⟨w.heap.size + 1, j, none⟩ = some v
  have e : (w.alloc (.cells C tc)).heap.size = w.heap.size + 1 := by simp
  rw [← e, World.cell?_alloc_new]
  exact h

end Go.Proofs.YtmaaacaifpgpaaaGreatDoor
