/- How arguments are opened: bytes. -/
import Derived.Test.YthgkkmcpmhfehaaOb
namespace Go.Proofs.Ythgkkmcpmhfehaa
open Go.ChangeShapes Go.WideShapes Go.ChangeAt Go.RowKit Go.Lib Go.Deep
set_option maxRecDepth 100000

theorem rd_bytes {H : Type} {enc : TypeId × Value → H} {W : World} {a : Option Addr} {n c : Nat} {d : DataW H} {p : List MemPlace}
    (h : DataW.Trod enc Try.prog W 0 (fun _ => true) true 30 (.slice a n c) d p) :
    ∃ l : List UInt8, l.length = n ∧ Sl.RdA W (.slice a n c) l ∧ (n = 0 ∨ ∃ E S, d = .slice E S ∧ n ≤ E.length + S.length) := by
  obtain ⟨fuel, hf⟩ := h
  rcases open_ints Try.underlying30 Try.underlying5 (by kernel_rfl) hf with ⟨hcs, _⟩ | ⟨x, l, cp, zs, hcs, _, hl, hm, hz, hx, hcell, hwz⟩
  · simp [Value.cells] at hcs
    obtain ⟨rfl, rfl, rfl⟩ := hcs
    exact ⟨[], rfl, .inl (.inl ⟨rfl, rfl⟩), .inl rfl⟩
  · simp [Value.cells] at hcs
    obtain ⟨rfl, rfl, rfl⟩ := hcs
    have hzl : zs.length = c := by simpa using hz
    have hd := (Prod.mk.inj hx).1
    refine ⟨(zs.take n).map fun z => UInt8.ofNat z.toNat, by simp; omega, ?_, .inr ⟨_, _, hd, by simp [lits]; omega⟩⟩
    rcases Nat.eq_zero_or_pos c with h0 | h0
    · have hn : n = 0 := by omega
      subst hn
      exact .inr ⟨⟨_, _, rfl⟩, by simp⟩
    · obtain ⟨b, off, rfl, hc⟩ := ints_at hcell (by omega)
      refine .inl (.inr ⟨b, off, c, by simp; omega, by simp; omega, fun i hi => ?_⟩)
      have hin : i < n := by simp at hi; omega
      have hic : i < zs.length := by omega
      rw [hc i hic]
      have hw := bounds_u8 (hwz _ (List.getElem_mem hic))
      have e1 : zs.getD i 0 = zs[i] := by simp [List.getElem?_eq_getElem hic]
      have e2 : ((zs.take n).map fun z => UInt8.ofNat z.toNat).getD i 0 = UInt8.ofNat zs[i].toNat := by
        simp [List.getElem?_map, List.getElem?_take_of_lt hin, List.getElem?_eq_getElem hic]
      rw [e1, e2, UInt8.toNat_ofNat']
      congr 2
      omega

end Go.Proofs.Ythgkkmcpmhfehaa
