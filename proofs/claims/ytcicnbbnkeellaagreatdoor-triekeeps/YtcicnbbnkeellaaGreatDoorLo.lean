/- How an argument that is a list of texts is opened. Conditions: those that each row states. -/
import Derived.Test.YtcicnbbnkeellaaGreatDoorGv
import Derived.Test.YtcicnbbnkeellaaGreatDoorWa
import Derived.SliceStrings
set_option maxRecDepth 100000
namespace Go.Proofs.YtcicnbbnkeellaaGreatDoor.To
open Go.RowKit Go.Lib

theorem cells9 : Tryz.prog.cellsOf 9 = 1 := by kernel_rfl
theorem rd_texts {H : Type} {enc : TypeId × Value → H} {W : World} {v : Value} {d : DataW H} {p : List MemPlace} (h : DataW.Trod enc Tryz.prog W 0 (fun _ => true) true 27 v d p) (hv : ∃ a n c, v = .slice a n c) :
    ∃ xs : List (List UInt8), RdV W v (xs.map str) ∧ ∀ x ∈ xs, x.length ≤ maxLen := by
  obtain ⟨a, n, c, rfl⟩ := hv
  obtain ⟨fuel, hf⟩ := h
  rcases Go.ChangeShapes.open_strings Tryz.underlying27 Tryz.underlying9 cells9 hf with ⟨e, _⟩ | ⟨ad, len, cap, ss, e, _, hl, _, hss, _, hc, hm⟩
  · simp [Value.cells] at e
    obtain ⟨rfl, rfl, rfl⟩ := e
    exact ⟨[], .inl ⟨rfl, rfl⟩, fun x hx => by cases hx⟩
  · simp [Value.cells] at e
    obtain ⟨rfl, rfl, rfl⟩ := e
    have hsl : ss.length = c := by simpa using hss
    refine ⟨(ss.take n).map bl, ?_, fun x hx => ?_⟩
    · rcases Nat.eq_zero_or_pos n with h0 | h0
      · subst h0
        exact .inr (.inl ⟨⟨ad, c, rfl⟩, by simp⟩)
      · obtain ⟨b, o, sp⟩ := ad
        have hsp : sp = none := by simpa [Addr.add] using World.cell?_spot (hc 0 (by omega))
        subst hsp
        have hlen : (((ss.take n).map bl).map str).length = n := by simp; omega
        refine .inr (.inr ⟨b, o, c, by rw [hlen], by omega, fun j hj => ?_⟩)
        have hjn : j < n := by omega
        have h1 := hc j (by omega)
        rw [Addr.add_lit] at h1
        rw [h1]
        have hjs : j < ss.length := by omega
        simp [hjs, bl]
    · obtain ⟨s, hs, rfl⟩ := List.mem_map.1 hx
      rw [bl_len]
      exact hm s (List.mem_of_mem_take hs)
end Go.Proofs.YtcicnbbnkeellaaGreatDoor.To
