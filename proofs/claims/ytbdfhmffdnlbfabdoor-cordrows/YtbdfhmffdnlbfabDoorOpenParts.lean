/- How an argument that is a slice of parts is opened: what a reading of it gives to the walks. -/
import Derived.Test.YtbdfhmffdnlbfabDoorOpen
import Derived.Test.YtbdfhmffdnlbfabDoorParts
import Derived.Deep.Slices
import Derived.Deep.Strs
namespace Go.Proofs.YtbdfhmffdnlbfabDoor
open Go.ChangeShapes Go.WideShapes Go.ChangeAt Go.RowKit Go.Lib Go.Deep

theorem cells41 : Tryd.prog.cellsOf 32 = 3 := by kernel_rfl
theorem cells4 : Tryd.prog.cellsOf 4 = 1 := by kernel_rfl
theorem cells3 : Tryd.prog.cellsOf 3 = 1 := by kernel_rfl
theorem cells9 : Tryd.prog.cellsOf 9 = 1 := by kernel_rfl

theorem part_cells {H : Type} {enc : TypeId × Value → H} {W : World} {a : Addr} {cs : List Value} {fuel : Nat} {x : DataW H × List MemPlace}
    (hc : W.cells? 0 a (Tryd.prog.cellsOf 32) = some cs) (h : DataW.trod enc Tryd.prog W 0 (fun _ => true) true fuel 32 cs = some x) :
    ∃ (b o : Nat) (p : Pm), a = ⟨b, o, none⟩ ∧ (-9223372036854775808 ≤ p.2.1 ∧ p.2.1 ≤ 9223372036854775807) ∧ W.cell? ⟨b, o, none⟩ = some (.bool p.1) ∧ W.cell? ⟨b, o + 1, none⟩ = some (.int .i64 p.2.1) ∧ W.cell? ⟨b, o + 2, none⟩ = some (.string p.2.2) := by
  obtain ⟨y0, y1, y2, n, _, hlen, t0, t1, t2⟩ := trod_struct3 Tryd.underlying32 h
  rw [cells41] at hc hlen
  match cs, hlen with
  | [c0, c1, c2], _ =>
    simp only [cells4, cells3, cells9, List.drop, List.take] at t0 t1 t2
    obtain ⟨t, e0, _⟩ := DataW.trod_bool Tryd.underlying4 t0
    obtain ⟨z, e1, _, wz⟩ := DataW.trod_int Tryd.underlying3 t1
    obtain ⟨s, e2, _, _⟩ := DataW.trod_string Tryd.underlying9 t2
    simp only [List.cons.injEq, and_true] at e0 e1 e2
    subst e0 e1 e2
    obtain ⟨b, o, sp⟩ := a
    obtain ⟨_, _, hh⟩ := World.cells?_some hc
    have h0 := hh 0 (by omega)
    have h1 := hh 1 (by omega)
    have h2 := hh 2 (by omega)
    simp only [Addr.add, List.getElem?_cons_zero, List.getElem?_cons_succ] at h0 h1 h2
    have hsp : sp = none := by simpa [Addr.add] using World.cell?_spot h0
    subst hsp
    exact ⟨b, o, (t, z, s), rfl, bounds_i64 wz, h0, h1, h2⟩

theorem rd_parts {H : Type} {enc : TypeId × Value → H} {W : World} {a : Option Addr} {n c : Nat} {d : DataW H} {p : List MemPlace}
    (h : DataW.Trod enc Tryd.prog W 0 (fun _ => true) true 23 (.slice a n c) d p) :
    ∃ ps : List Pm, ps.length = n ∧ RdP W (.slice a n c) ps ∧ (n = 0 ∨ ∃ E S, d = .slice E S ∧ n ≤ E.length + S.length) := by
  obtain ⟨fuel, hf⟩ := h
  rcases open_slice Tryd.underlying23 hf with ⟨hcs, _⟩ | ⟨x, l, cp, m, f, D, Pl, hcs, _, hl, hm, hmm, hx, hel⟩
  · simp [Value.cells] at hcs
    obtain ⟨rfl, rfl, rfl⟩ := hcs
    exact ⟨[], rfl, ⟨by simp, .inl ⟨⟨_, _, rfl⟩, rfl⟩⟩, .inl rfl⟩
  · simp [Value.cells] at hcs
    obtain ⟨rfl, rfl, rfl⟩ := hcs
    have hmc : m = c := by simpa using hmm
    subst hmc
    have hd := (Prod.mk.inj hx).1
    have key : ∀ i, i < n → ∃ (b o : Nat) (q : Pm), x.add (i * 3) = ⟨b, o, none⟩ ∧ (-9223372036854775808 ≤ q.2.1 ∧ q.2.1 ≤ 9223372036854775807) ∧ W.cell? ⟨b, o, none⟩ = some (.bool q.1) ∧ W.cell? ⟨b, o + 1, none⟩ = some (.int .i64 q.2.1) ∧ W.cell? ⟨b, o + 2, none⟩ = some (.string q.2.2) := fun i hi => by
      obtain ⟨cs', h1, h2⟩ := hel i (by omega)
      have := part_cells h1 h2
      rwa [cells41] at this
    rcases Nat.eq_zero_or_pos n with h0 | h0
    · subst h0
      exact ⟨[], rfl, ⟨by simp, .inl ⟨⟨_, _, rfl⟩, rfl⟩⟩, .inl rfl⟩
    · obtain ⟨b, o, _, e0, _⟩ := key 0 h0
      have ex : x = ⟨b, o, none⟩ := by simpa [Addr.add] using e0
      subst ex
      obtain ⟨F, hF⟩ := choose_lt (α := Pm) (p := fun i q => (-9223372036854775808 ≤ q.2.1 ∧ q.2.1 ≤ 9223372036854775807) ∧ W.cell? ⟨b, o + i * 3, none⟩ = some (.bool q.1) ∧ W.cell? ⟨b, o + i * 3 + 1, none⟩ = some (.int .i64 q.2.1) ∧ W.cell? ⟨b, o + i * 3 + 2, none⟩ = some (.string q.2.2)) (n := n) (fun i hi => by
        obtain ⟨b', o', q, e, hq⟩ := key i hi
        rw [Addr.add_lit] at e
        cases e
        exact ⟨q, hq⟩)
      refine ⟨(List.range n).map F, by simp, ⟨fun q hq => ?_, .inr ⟨b, o, m, by simp, fun i hi => ?_⟩⟩, .inr ⟨_, _, hd, by simp⟩⟩
      · obtain ⟨i, hi, rfl⟩ := List.mem_map.1 hq
        exact (hF i (by simpa using hi)).1
      · have hin : i < n := by simpa using hi
        have e : ((List.range n).map F).getD i pmZ = F i := by simp [hin]
        rw [e]
        exact (hF i hin).2
end Go.Proofs.YtbdfhmffdnlbfabDoor
