/- Of a nil slice of parts that comes in the capacity is 0. -/
import Derived.Test.YtbdfhmffdnlbfabDoorOpenParts
namespace Go.Proofs.YtbdfhmffdnlbfabDoor
open Go.ChangeShapes Go.WideShapes Go.ChangeAt Go.RowKit Go.Lib Go.Deep

theorem nil_parts {H : Type} {enc : TypeId × Value → H} {W : World} {a : Option Addr} {n c : Nat} {d : DataW H} {p : List MemPlace}
    (h : DataW.Trod enc Tryd.prog W 0 (fun _ => true) true 23 (.slice a n c) d p) : ∀ k, Value.slice a n c = .slice none 0 k → k = 0 := by
  intro k e
  obtain ⟨fuel, hf⟩ := h
  rcases open_slice Tryd.underlying23 hf with ⟨hcs, _⟩ | ⟨x, l, cp, m, f, D, Pl, hcs, _⟩
  · simp [Value.cells] at hcs
    obtain ⟨rfl, rfl, rfl⟩ := hcs
    cases e
    rfl
  · simp [Value.cells] at hcs
    obtain ⟨rfl, rfl, rfl⟩ := hcs
    cases e
end Go.Proofs.YtbdfhmffdnlbfabDoor
