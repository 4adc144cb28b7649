/- How an argument that is a slice of pairs of ints is opened. -/
import Derived.Test.YtpbpcefcnkfbpaaOb
import Derived.Test.YtpbpcefcnkfbpaaLp
namespace Go.Proofs.Ytpbpcefcnkfbpaa
open Go.ChangeShapes Go.WideShapes Go.ChangeAt Go.RowKit Go.Lib Go.Deep
set_option maxRecDepth 100000

theorem cells58 : Try.prog.cellsOf 58 = 2 := by kernel_rfl
theorem cells3 : Try.prog.cellsOf 3 = 1 := by kernel_rfl
theorem pair_cells {H : Type} {enc : TypeId × Value → H} {W : World} {a : Addr} {cs : List Value} {fuel : Nat} {x : DataW H × List MemPlace}
    (hc : W.cells? 0 a (Try.prog.cellsOf 58) = some cs) (h : DataW.trod enc Try.prog W 0 (fun _ => true) true fuel 58 cs = some x) :
    ∃ (b o : Nat) (i k : Int), a = ⟨b, o, none⟩ ∧ W.cell? ⟨b, o, none⟩ = some (.int .i64 i) ∧ W.cell? ⟨b, o + 1, none⟩ = some (.int .i64 k) ∧ (-9223372036854775808 ≤ i ∧ i < 9223372036854775808) ∧ (-9223372036854775808 ≤ k ∧ k < 9223372036854775808) := by
  obtain ⟨xs, m, _, _, hlen, hl, hx⟩ := DataW.trod_array Try.underlying58 h
  rw [cells58] at hc
  rw [cells3] at hx
  obtain ⟨_, hlen, hh⟩ := World.cells?_some hc
  match cs, hlen with
  | [c0, c1], _ =>
    have h0 := hx 0 (by omega)
    have h1 := hx 1 (by omega)
    obtain ⟨x0, e0⟩ : ∃ x, xs[0]? = some x := ⟨_, List.getElem?_eq_getElem (by omega)⟩
    obtain ⟨x1, e1⟩ : ∃ x, xs[1]? = some x := ⟨_, List.getElem?_eq_getElem (by omega)⟩
    rw [e0] at h0
    rw [e1] at h1
    obtain ⟨i, hi, _, wi⟩ := DataW.trod_int Try.underlying3 h0
    obtain ⟨k, hk, _, wk⟩ := DataW.trod_int Try.underlying3 h1
    have bi := bounds_i64 wi
    have bk := bounds_i64 wk
    simp at hi hk
    subst hi; subst hk
    obtain ⟨b, o, sp⟩ := a
    have g0 := hh 0 (by omega)
    have g1 := hh 1 (by omega)
    simp only [Addr.add, List.getElem?_cons_zero, List.getElem?_cons_succ] at g0 g1
    have hsp : sp = none := by simpa [Addr.add] using World.cell?_spot g0
    subst hsp
    exact ⟨b, o, i, k, rfl, g0, g1, by omega, by omega⟩

theorem rd_pairs {H : Type} {enc : TypeId × Value → H} {W : World} {a : Option Addr} {n c : Nat} {d : DataW H} {p : List MemPlace}
    (h : DataW.Trod enc Try.prog W 0 (fun _ => true) true 55 (.slice a n c) d p) : RdW W (.slice a n c) n := by
  obtain ⟨fuel, hf⟩ := h
  rcases open_slice Try.underlying55 hf with ⟨hcs, _⟩ | ⟨x, l, cp, m, f, D, Pl, hcs, _, hl, hm, hmm, hx, hel⟩
  · simp [Value.cells] at hcs
    obtain ⟨rfl, rfl, rfl⟩ := hcs
    exact ⟨_, _, rfl, fun k hk => by omega⟩
  · simp [Value.cells] at hcs
    obtain ⟨rfl, rfl, rfl⟩ := hcs
    have hmc : m = c := by simpa using hmm
    subst hmc
    have key : ∀ i, i < n → ∃ (b o : Nat) (y z : Int), x.add (i * 2) = ⟨b, o, none⟩ ∧ W.cell? ⟨b, o, none⟩ = some (.int .i64 y) ∧ W.cell? ⟨b, o + 1, none⟩ = some (.int .i64 z) ∧ (-9223372036854775808 ≤ y ∧ y < 9223372036854775808) ∧ (-9223372036854775808 ≤ z ∧ z < 9223372036854775808) := fun i hi => by
      obtain ⟨cs', h1, h2⟩ := hel i (by omega)
      have := pair_cells h1 h2
      rwa [cells58] at this
    refine ⟨_, _, rfl, fun k hk => ?_⟩
    obtain ⟨b, o, _, _, e0, _⟩ := key 0 (by omega)
    have ex : x = ⟨b, o, none⟩ := by simpa [Addr.add] using e0
    subst ex
    obtain ⟨b', o', y, z, e, g1, g2, g3, g4⟩ := key k hk
    rw [Addr.add_lit] at e
    cases e
    exact ⟨b, o, y, z, rfl, g1, g2, g3, g4⟩
end Go.Proofs.Ytpbpcefcnkfbpaa
