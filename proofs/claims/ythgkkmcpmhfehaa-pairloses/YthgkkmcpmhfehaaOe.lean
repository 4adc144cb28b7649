/- How an argument that is a slice of steps is opened. -/
import Derived.Test.YthgkkmcpmhfehaaPl
namespace Go.Proofs.Ythgkkmcpmhfehaa
open Go.ChangeShapes Go.WideShapes Go.ChangeAt Go.RowKit Go.Lib Go.Deep
set_option maxRecDepth 100000

theorem cells59 : Try.prog.cellsOf 59 = 4 := by kernel_rfl
theorem cells30 : Try.prog.cellsOf 30 = 1 := by kernel_rfl
theorem cells4 : Try.prog.cellsOf 4 = 1 := by kernel_rfl
theorem cells3 : Try.prog.cellsOf 3 = 1 := by kernel_rfl

theorem step_cells {H : Type} {enc : TypeId × Value → H} {W : World} {a : Addr} {cs : List Value} {fuel : Nat} {x : DataW H × List MemPlace}
    (hc : W.cells? 0 a (Try.prog.cellsOf 59) = some cs) (h : DataW.trod enc Try.prog W 0 (fun _ => true) true fuel 59 cs = some x) :
    ∃ (b o : Nat) (s : Bool) (u : Value) (r : List UInt8) (y z : Int), a = ⟨b, o, none⟩ ∧ W.cell? ⟨b, o, none⟩ = some (.bool s) ∧ W.cell? ⟨b, o + 1, none⟩ = some u ∧ Sl.RdA W u r ∧ W.cell? ⟨b, o + 2, none⟩ = some (.int .i64 y) ∧ W.cell? ⟨b, o + 3, none⟩ = some (.int .i64 z) ∧
      (-9223372036854775808 ≤ y ∧ y < 9223372036854775808) ∧ (-9223372036854775808 ≤ z ∧ z < 9223372036854775808) := by
  obtain ⟨xs, n, _, rfl, hl, hlen, hf⟩ := DataW.trod_struct Try.underlying59 h
  rw [cells59] at hc hl
  match xs, hlen with
  | [y0, y1, y2, y3], _ =>
    have t0 : DataW.trod enc Try.prog W 0 (fun _ => true) true n 4 ((cs.drop 0).take (Try.prog.cellsOf 4)) = some y0 := by simpa using hf 0 _ rfl
    have t1 : DataW.trod enc Try.prog W 0 (fun _ => true) true n 30 ((cs.drop 1).take (Try.prog.cellsOf 30)) = some y1 := by simpa using hf 1 _ rfl
    have t2 : DataW.trod enc Try.prog W 0 (fun _ => true) true n 3 ((cs.drop 2).take (Try.prog.cellsOf 3)) = some y2 := by simpa using hf 2 _ rfl
    have t3 : DataW.trod enc Try.prog W 0 (fun _ => true) true n 3 ((cs.drop 3).take (Try.prog.cellsOf 3)) = some y3 := by simpa using hf 3 _ rfl
    match cs, hl with
    | [c0, c1, c2, c3], _ =>
      simp only [cells3, cells4, cells30, List.drop, List.take] at t0 t1 t2 t3
      obtain ⟨s, e0, _⟩ := DataW.trod_bool Try.underlying4 t0
      obtain ⟨u, r, e1, hr⟩ := bytes_trod t1
      obtain ⟨y, e2, _, wy⟩ := DataW.trod_int Try.underlying3 t2
      obtain ⟨z, e3, _, wz⟩ := DataW.trod_int Try.underlying3 t3
      simp only [List.cons.injEq, and_true] at e0 e1 e2 e3
      subst e0 e1 e2 e3
      obtain ⟨b, o, sp⟩ := a
      obtain ⟨_, _, hh⟩ := World.cells?_some hc
      have h0 := hh 0 (by omega)
      have h1 := hh 1 (by omega)
      have h2 := hh 2 (by omega)
      have h3 := hh 3 (by omega)
      simp only [Addr.add, List.getElem?_cons_zero, List.getElem?_cons_succ] at h0 h1 h2 h3
      have hsp : sp = none := by simpa [Addr.add] using World.cell?_spot h0
      subst hsp
      have by' := bounds_i64 wy
      have bz' := bounds_i64 wz
      exact ⟨b, o, s, _, r, y, z, rfl, h0, h1, hr, h2, h3, ⟨by omega, by omega⟩, ⟨by omega, by omega⟩⟩

theorem rd_steps {H : Type} {enc : TypeId × Value → H} {W : World} {a : Option Addr} {n c : Nat} {d : DataW H} {p : List MemPlace}
    (h : DataW.Trod enc Try.prog W 0 (fun _ => true) true 57 (.slice a n c) d p) : RdSt W (.slice a n c) n := by
  obtain ⟨fuel, hf⟩ := h
  rcases open_slice Try.underlying57 hf with ⟨hcs, _⟩ | ⟨x, l, cp, m, f, D, Pl, hcs, _, hl, hm, hmm, hx, hel⟩
  · simp [Value.cells] at hcs
    obtain ⟨rfl, rfl, rfl⟩ := hcs
    exact ⟨_, _, rfl, fun k hk => by omega⟩
  · simp [Value.cells] at hcs
    obtain ⟨rfl, rfl, rfl⟩ := hcs
    have hmc : m = c := by simpa using hmm
    subst hmc
    have key : ∀ i, i < n → ∃ (b o : Nat) (s : Bool) (u : Value) (r : List UInt8) (y z : Int), x.add (i * 4) = ⟨b, o, none⟩ ∧ W.cell? ⟨b, o, none⟩ = some (.bool s) ∧ W.cell? ⟨b, o + 1, none⟩ = some u ∧ Sl.RdA W u r ∧ W.cell? ⟨b, o + 2, none⟩ = some (.int .i64 y) ∧ W.cell? ⟨b, o + 3, none⟩ = some (.int .i64 z) ∧
      (-9223372036854775808 ≤ y ∧ y < 9223372036854775808) ∧ (-9223372036854775808 ≤ z ∧ z < 9223372036854775808) := fun i hi => by
      obtain ⟨cs', h1, h2⟩ := hel i (by omega)
      have := step_cells h1 h2
      rwa [cells59] at this
    refine ⟨_, _, rfl, fun k hk => ?_⟩
    obtain ⟨b, o, _, _, _, _, _, e0, _⟩ := key 0 (by omega)
    have ex : x = ⟨b, o, none⟩ := by simpa [Addr.add] using e0
    subst ex
    obtain ⟨b', o', s, u, r, y, z, e, g⟩ := key k hk
    rw [Addr.add_lit] at e
    cases e
    exact ⟨b, o, s, u, r, y, z, rfl, g⟩
end Go.Proofs.Ythgkkmcpmhfehaa
