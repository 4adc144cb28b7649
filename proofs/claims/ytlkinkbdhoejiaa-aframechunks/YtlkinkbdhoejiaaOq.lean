/- How an argument that is a list of frames is opened. -/
import Derived.Test.YtlkinkbdhoejiaaOp
import Derived.Test.YtlkinkbdhoejiaaLc
namespace Go.Proofs.Ytlkinkbdhoejiaa
open Go.ChangeShapes Go.WideShapes Go.ChangeAt Go.RowKit Go.Deep
set_option maxRecDepth 100000

instance : Inhabited Fr := ⟨⟨0, 0, []⟩⟩
theorem fr_at {H : Type} {enc : TypeId × Value → H} {W : World} {a : Addr} {cs : List Value} {fuel : Nat} {x : DataW H × List MemPlace}
    (hc : W.cells? 0 a (Try.prog.cellsOf 23) = some cs) (h : DataW.trod enc Try.prog W 0 (fun _ => true) true fuel 23 cs = some x) :
    ∃ (b o : Nat) (f : Fr), a = ⟨b, o, none⟩ ∧ W.cell? ⟨b, o, none⟩ = some (.int .i64 f.t) ∧ W.cell? ⟨b, o + 1, none⟩ = some (.int .i64 f.c) ∧ W.cell? ⟨b, o + 2, none⟩ = some (str f.p) := by
  obtain ⟨t, c, p, rfl⟩ := fr_cells h
  rw [cells23] at hc
  obtain ⟨b, o, sp⟩ := a
  obtain ⟨_, _, hh⟩ := World.cells?_some hc
  have h0 := hh 0 (by omega)
  have h1 := hh 1 (by omega)
  have h2 := hh 2 (by omega)
  simp only [Addr.add, List.getElem?_cons_zero, List.getElem?_cons_succ] at h0 h1 h2
  have hsp : sp = none := by simpa [Addr.add] using World.cell?_spot h0
  subst hsp
  exact ⟨b, o, ⟨t, c, p⟩, rfl, h0, h1, h2⟩

theorem rd_frames {H : Type} {enc : TypeId × Value → H} {W : World} {a : Option Addr} {n c : Nat} {d : DataW H} {p : List MemPlace}
    (h : DataW.Trod enc Try.prog W 0 (fun _ => true) true 41 (.slice a n c) d p) :
    ∃ fs : List Fr, fs.length = n ∧ n ≤ c ∧ (0 < n → ∃ b o, a = some ⟨b, o, none⟩ ∧ b < W.heap.size ∧ FrsAt W b o fs) := by
  obtain ⟨fuel, hf⟩ := h
  rcases open_slice Try.underlying41 hf with ⟨hcs, _⟩ | ⟨x, l, cp, m, f, D, Pl, hcs, _, hl, hm, hmm, hx, hel⟩
  · simp [Value.cells] at hcs
    obtain ⟨rfl, rfl, rfl⟩ := hcs
    exact ⟨[], rfl, Nat.le_refl _, fun h => absurd h (by omega)⟩
  · simp [Value.cells] at hcs
    obtain ⟨rfl, rfl, rfl⟩ := hcs
    have hmc : m = c := by simpa using hmm
    subst hmc
    rcases Nat.eq_zero_or_pos n with h0 | h0
    · subst h0
      exact ⟨[], rfl, Nat.zero_le _, fun h => absurd h (by omega)⟩
    · have key : ∀ i, i < n → ∃ (b o : Nat) (y : Fr), x.add (i * 3) = ⟨b, o, none⟩ ∧ W.cell? ⟨b, o, none⟩ = some (.int .i64 y.t) ∧ W.cell? ⟨b, o + 1, none⟩ = some (.int .i64 y.c) ∧ W.cell? ⟨b, o + 2, none⟩ = some (str y.p) := fun i hi => by
        obtain ⟨cs', h1, h2⟩ := hel i (by omega)
        have := fr_at h1 h2
        rwa [cells23] at this
      obtain ⟨b, o, _, e0, h00, _⟩ := key 0 (by omega)
      have ex : x = ⟨b, o, none⟩ := by simpa [Addr.add] using e0
      subst ex
      have hb := World.block_lt_of_cell? W _ h00
      obtain ⟨F, hF⟩ := choose_lt (α := Fr) (p := fun i y => W.cell? ⟨b, o + i * 3, none⟩ = some (.int .i64 y.t) ∧ W.cell? ⟨b, o + i * 3 + 1, none⟩ = some (.int .i64 y.c) ∧ W.cell? ⟨b, o + i * 3 + 2, none⟩ = some (str y.p)) (n := n) (fun i hi => by
        obtain ⟨b', o', y, e, g⟩ := key i hi
        rw [Addr.add_lit] at e
        cases e
        exact ⟨y, g⟩)
      refine ⟨(List.range n).map F, by simp, by omega, fun _ => ⟨b, o, rfl, hb, fun i hi => ?_⟩⟩
      have hin : i < n := by simpa using hi
      have e : ((List.range n).map F)[i] = F i := by simp
      rw [e]
      exact hF i hin
end Go.Proofs.Ytlkinkbdhoejiaa
