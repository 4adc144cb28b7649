/- How an argument that is an array of two ints is opened. -/
import Derived.Test.YthamgdikggpkhaaOpen
namespace Go.Proofs.Ythamgdikggpkhaa
open Go.ChangeShapes Go.WideShapes Go.ChangeAt Go.RowKit

theorem cells29 : Try.prog.cellsOf 29 = 2 := by kernel_rfl
theorem cells3 : Try.prog.cellsOf 3 = 1 := by kernel_rfl
theorem rd_two {H : Type} {enc : TypeId × Value → H} {W : World} {base : Nat} {v : Value} {d : DataW H} {p : List MemPlace} (hv : Value.okWide Try.prog W .any base 29 v)
    (h : DataW.Trod enc Try.prog W 0 (fun _ => true) true 29 v d p) : ∃ i k : Int, v = .agg #[.int .i64 i, .int .i64 k] := by
  obtain ⟨cs, rfl, hs⟩ : ∃ cs, v = .agg cs ∧ cs.size = 2 := by
    unfold Value.okWide at hv
    rw [Try.underlying29] at hv
    obtain ⟨cs, rfl, hs, _⟩ := hv
    exact ⟨cs, rfl, hs.trans cells29⟩
  obtain ⟨fuel, hf⟩ := h
  obtain ⟨xs, m, _, _, _, hl, hx⟩ := DataW.trod_array Try.underlying29 hf
  rw [cells3] at hx
  obtain ⟨a, b, rfl⟩ : ∃ a b, cs = #[a, b] := by
    obtain ⟨l⟩ := cs
    match l, hs with
    | [a, b], _ => exact ⟨a, b, rfl⟩
  have h0 := hx 0 (by omega)
  have h1 := hx 1 (by omega)
  obtain ⟨x0, e0⟩ : ∃ x, xs[0]? = some x := ⟨_, List.getElem?_eq_getElem (by omega)⟩
  obtain ⟨x1, e1⟩ : ∃ x, xs[1]? = some x := ⟨_, List.getElem?_eq_getElem (by omega)⟩
  rw [e0] at h0
  rw [e1] at h1
  obtain ⟨i, hi, _⟩ := DataW.trod_int Try.underlying3 h0
  obtain ⟨k, hk, _⟩ := DataW.trod_int Try.underlying3 h1
  simp [Value.cells] at hi hk
  subst hi; subst hk
  exact ⟨i, k, rfl⟩
end Go.Proofs.Ythamgdikggpkhaa
