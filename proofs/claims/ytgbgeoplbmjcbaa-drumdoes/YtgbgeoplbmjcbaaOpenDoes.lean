/- How an argument that is a slice of calls is opened. -/
import Derived.Test.YtgbgeoplbmjcbaaOpen
import Derived.Test.YtgbgeoplbmjcbaaDoesWalk
namespace Go.Proofs.Ytgbgeoplbmjcbaa
open Go.ChangeShapes Go.WideShapes Go.ChangeAt Go.RowKit Go.Lib Go.Deep

theorem cells34 : Try.prog.cellsOf 34 = 5 := by kernel_rfl
theorem cells5 : Try.prog.cellsOf 5 = 1 := by kernel_rfl
theorem cells4 : Try.prog.cellsOf 4 = 1 := by kernel_rfl

theorem call_cells {H : Type} {enc : TypeId × Value → H} {W : World} {a : Addr} {cs : List Value} {fuel : Nat} {x : DataW H × List MemPlace}
    (hc : W.cells? 0 a (Try.prog.cellsOf 34) = some cs) (h : DataW.trod enc Try.prog W 0 (fun _ => true) true fuel 34 cs = some x) :
    ∃ (b o : Nat) (u y z : Int) (f : UInt8) (s : Bool), a = ⟨b, o, none⟩ ∧ (-9223372036854775808 ≤ y ∧ y ≤ 9223372036854775807) ∧ (-9223372036854775808 ≤ z ∧ z ≤ 9223372036854775807) ∧
      W.cell? ⟨b, o, none⟩ = some (.int .i64 u) ∧ W.cell? ⟨b, o + 1, none⟩ = some (.int .i64 y) ∧ W.cell? ⟨b, o + 2, none⟩ = some (.int .i64 z) ∧ W.cell? ⟨b, o + 3, none⟩ = some (.int .u8 (f.toNat : Int)) ∧ W.cell? ⟨b, o + 4, none⟩ = some (.bool s) := by
  obtain ⟨xs, n, _, rfl, hl, hlen, hf⟩ := DataW.trod_struct Try.underlying34 h
  rw [cells34] at hc hl
  match xs, hlen with
  | [y0, y1, y2, y3, y4], _ =>
    have t0 : DataW.trod enc Try.prog W 0 (fun _ => true) true n 3 ((cs.drop 0).take (Try.prog.cellsOf 3)) = some y0 := by simpa using hf 0 _ rfl
    have t1 : DataW.trod enc Try.prog W 0 (fun _ => true) true n 3 ((cs.drop 1).take (Try.prog.cellsOf 3)) = some y1 := by simpa using hf 1 _ rfl
    have t2 : DataW.trod enc Try.prog W 0 (fun _ => true) true n 3 ((cs.drop 2).take (Try.prog.cellsOf 3)) = some y2 := by simpa using hf 2 _ rfl
    have t3 : DataW.trod enc Try.prog W 0 (fun _ => true) true n 5 ((cs.drop 3).take (Try.prog.cellsOf 5)) = some y3 := by simpa using hf 3 _ rfl
    have t4 : DataW.trod enc Try.prog W 0 (fun _ => true) true n 4 ((cs.drop 4).take (Try.prog.cellsOf 4)) = some y4 := by simpa using hf 4 _ rfl
    match cs, hl with
    | [c0, c1, c2, c3, c4], _ =>
      simp only [cells3, cells4, cells5, List.drop, List.take] at t0 t1 t2 t3 t4
      obtain ⟨u, e0, _, _⟩ := DataW.trod_int Try.underlying3 t0
      obtain ⟨y, e1, _, wy⟩ := DataW.trod_int Try.underlying3 t1
      obtain ⟨z, e2, _, wz⟩ := DataW.trod_int Try.underlying3 t2
      obtain ⟨f, e3, _, wf⟩ := DataW.trod_int Try.underlying5 t3
      obtain ⟨s, e4, _⟩ := DataW.trod_bool Try.underlying4 t4
      simp only [List.cons.injEq, and_true] at e0 e1 e2 e3 e4
      subst e0 e1 e2 e3 e4
      obtain ⟨b, o, sp⟩ := a
      obtain ⟨_, _, hh⟩ := World.cells?_some hc
      have h0 := hh 0 (by omega)
      have h1 := hh 1 (by omega)
      have h2 := hh 2 (by omega)
      have h3 := hh 3 (by omega)
      have h4 := hh 4 (by omega)
      simp only [Addr.add, List.getElem?_cons_zero, List.getElem?_cons_succ] at h0 h1 h2 h3 h4
      have hsp : sp = none := by simpa [Addr.add] using World.cell?_spot h0
      subst hsp
      have hb := bounds_u8 wf
      have ef : ((UInt8.ofNat f.toNat).toNat : Int) = f := by rw [UInt8.toNat_ofNat']; omega
      refine ⟨b, o, u, y, z, UInt8.ofNat f.toNat, s, rfl, bounds_i64 wy, bounds_i64 wz, h0, h1, h2, ?_, h4⟩
      rw [ef]
      exact h3

theorem rd_calls {H : Type} {enc : TypeId × Value → H} {W : World} {a : Option Addr} {n c : Nat} {d : DataW H} {p : List MemPlace}
    (h : DataW.Trod enc Try.prog W 0 (fun _ => true) true 22 (.slice a n c) d p) : RdC W (.slice a n c) n := by
  obtain ⟨fuel, hf⟩ := h
  rcases open_slice Try.underlying22 hf with ⟨hcs, _⟩ | ⟨x, l, cp, m, f, D, Pl, hcs, _, hl, hm, hmm, hx, hel⟩
  · simp [Value.cells] at hcs
    obtain ⟨rfl, rfl, rfl⟩ := hcs
    exact ⟨_, _, rfl, fun k hk => by omega⟩
  · simp [Value.cells] at hcs
    obtain ⟨rfl, rfl, rfl⟩ := hcs
    have hmc : m = c := by simpa using hmm
    subst hmc
    have key : ∀ i, i < n → ∃ (b o : Nat) (u y z : Int) (f : UInt8) (s : Bool), x.add (i * 5) = ⟨b, o, none⟩ ∧ (-9223372036854775808 ≤ y ∧ y ≤ 9223372036854775807) ∧ (-9223372036854775808 ≤ z ∧ z ≤ 9223372036854775807) ∧
        W.cell? ⟨b, o, none⟩ = some (.int .i64 u) ∧ W.cell? ⟨b, o + 1, none⟩ = some (.int .i64 y) ∧ W.cell? ⟨b, o + 2, none⟩ = some (.int .i64 z) ∧ W.cell? ⟨b, o + 3, none⟩ = some (.int .u8 (f.toNat : Int)) ∧ W.cell? ⟨b, o + 4, none⟩ = some (.bool s) := fun i hi => by
      obtain ⟨cs', h1, h2⟩ := hel i (by omega)
      have := call_cells h1 h2
      rwa [cells34] at this
    refine ⟨_, _, rfl, fun k hk => ?_⟩
    obtain ⟨b, o, _, _, _, _, _, e0, _⟩ := key 0 (by omega)
    have ex : x = ⟨b, o, none⟩ := by simpa [Addr.add] using e0
    subst ex
    obtain ⟨b', o', u, y, z, f, s, e, g⟩ := key k hk
    rw [Addr.add_lit] at e
    cases e
    exact ⟨b, o, u, y, z, f, s, rfl, g⟩
end Go.Proofs.Ytgbgeoplbmjcbaa
