/- How an argument that is a slice of bools is opened: what a reading of it gives to the walks. -/
import Derived.Test.YtbdfhmffdnlbfaaDoorOpen
import Derived.Test.YtbdfhmffdnlbfaaDoorAnewWalk
import Derived.Deep.Slices
namespace Go.Proofs.YtbdfhmffdnlbfaaDoor
open Go.ChangeShapes Go.WideShapes Go.ChangeAt Go.RowKit Go.Lib Go.Deep

theorem rd_bools {H : Type} {enc : TypeId × Value → H} {W : World} {a : Option Addr} {n c : Nat} {d : DataW H} {p : List MemPlace}
    (h : DataW.Trod enc Tryd.prog W 0 (fun _ => true) true 43 (.slice a n c) d p) :
    ∃ ts : List Bool, ts.length = n ∧ RdT W (.slice a n c) ts ∧ (n = 0 ∨ ∃ E S, d = .slice E S ∧ n ≤ E.length + S.length) := by
  obtain ⟨fuel, hf⟩ := h
  rcases open_slice1 Tryd.underlying43 (by kernel_rfl) hf with ⟨hcs, _⟩ | ⟨x, l, cp, m, f, V, D, Pl, hcs, _, hl, hm, hmm, hx, hel⟩
  · simp [Value.cells] at hcs
    obtain ⟨rfl, rfl, rfl⟩ := hcs
    exact ⟨[], rfl, .inl ⟨⟨_, _, rfl⟩, rfl⟩, .inl rfl⟩
  · simp [Value.cells] at hcs
    obtain ⟨rfl, rfl, rfl⟩ := hcs
    have hmc : m = c := by simpa using hmm
    subst hmc
    have hd := (Prod.mk.inj hx).1
    rcases Nat.eq_zero_or_pos n with h0 | h0
    · subst h0
      exact ⟨[], rfl, .inl ⟨⟨_, _, rfl⟩, rfl⟩, .inl rfl⟩
    · obtain ⟨b, o, sp⟩ := x
      have hsp : sp = none := by simpa [Addr.add] using World.cell?_spot (hel 0 (by omega)).1
      subst hsp
      obtain ⟨F, hF⟩ := choose_lt (α := Bool) (p := fun i q => W.cell? ⟨b, o + i, none⟩ = some (.bool q)) (n := n) (fun i hi => by
        obtain ⟨h1, h2⟩ := hel i (by omega)
        obtain ⟨t, e, _⟩ := DataW.trod_bool Tryd.underlying4 h2
        rw [Addr.add_lit] at h1
        refine ⟨t, ?_⟩
        rw [h1]
        simpa using e)
      refine ⟨(List.range n).map F, by simp, .inr ⟨b, o, m, by simp, fun i hi => ?_⟩, .inr ⟨_, _, hd, by simp⟩⟩
      have hin : i < n := by simpa using hi
      have e : ((List.range n).map F).getD i false = F i := by simp [hin]
      rw [e]
      exact hF i hin

theorem anew_any (w : World) (v u : Value) (l : List UInt8) (ts : List Bool) (h : RdA w v l) (hz : RdT w u ts) (hV : Vars w.heap.size w) :
    Calls Tryd.prog 6 #[v, u] w fun e w' => e = .returned (.bool true) ∧ Below w.heap.size w w' := by
  by_cases h1 : l.length ≤ 8192
  · by_cases h2 : ts.length ≤ 300
    · exact anew_small w v u l ts h hz hV h1 h2
    · exact anew_big w v u l ts h hz hV (.inr (by omega))
  · exact anew_big w v u l ts h hz hV (.inl (by omega))
end Go.Proofs.YtbdfhmffdnlbfaaDoor
