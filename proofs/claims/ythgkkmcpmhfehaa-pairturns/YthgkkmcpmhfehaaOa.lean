/- How arguments are opened: lists of records. -/
import Derived.Test.YthgkkmcpmhfehaaRows
import Derived.Test.YthgkkmcpmhfehaaAl
import Derived.Deep.Slices
import Derived.ProofKit
import Derived.OpenShut
import Derived.ShutString
import Derived.ChangeOld
import Derived.SizedLaws
namespace Go.Proofs.Ythgkkmcpmhfehaa
open Go.ChangeShapes Go.WideShapes Go.ChangeAt Go.RowKit Go.Lib Go.Deep
set_option maxRecDepth 100000

theorem own : ownKnob Try.prog.godebug = none := by kernel_rfl
theorem laidOut : laidOutB Try.prog = true := by kernel_rfl

theorem bytes_trod {H : Type} {enc : TypeId × Value → H} {W : World} {cs : List Value} {fuel : Nat} {y : DataW H × List MemPlace}
    (h : DataW.trod enc Try.prog W 0 (fun _ => true) true fuel 30 cs = some y) : ∃ (v : Value) (l : List UInt8), cs = [v] ∧ Sl.RdA W v l := by
  rcases open_ints Try.underlying30 Try.underlying5 (by kernel_rfl) h with ⟨hcs, _⟩ | ⟨x, l, cp, zs, hcs, _, hl, hm, hz, hx, hcell, hwz⟩
  · exact ⟨_, [], hcs, .inl (.inl ⟨rfl, rfl⟩)⟩
  · have hzl : zs.length = cp := by simpa using hz
    have hll : ((zs.take l).map fun z => UInt8.ofNat z.toNat).length = l := by simp; omega
    rcases Nat.eq_zero_or_pos l with h0 | h0
    · subst h0
      exact ⟨_, [], hcs, .inr ⟨⟨_, _, rfl⟩, rfl⟩⟩
    · obtain ⟨b, off, rfl, hc⟩ := ints_at hcell (by omega)
      refine ⟨_, (zs.take l).map fun z => UInt8.ofNat z.toNat, hcs, .inl (.inr ⟨b, off, cp, by rw [hll], by rw [hll]; omega, fun i hi => ?_⟩)⟩
      rw [hll] at hi
      have hic : i < zs.length := by omega
      rw [hc i hic]
      have hw := bounds_u8 (hwz _ (List.getElem_mem hic))
      have e1 : zs.getD i 0 = zs[i] := by simp [List.getElem?_eq_getElem hic]
      have e2 : ((zs.take l).map fun z => UInt8.ofNat z.toNat).getD i 0 = UInt8.ofNat zs[i].toNat := by
        simp [List.getElem?_map, List.getElem?_take_of_lt hi, List.getElem?_eq_getElem hic]
      rw [e1, e2, UInt8.toNat_ofNat']
      congr 2
      omega

theorem rd_list {H : Type} {enc : TypeId × Value → H} {W : World} {a : Option Addr} {n c : Nat} {d : DataW H} {p : List MemPlace}
    (h : DataW.Trod enc Try.prog W 0 (fun _ => true) true 31 (.slice a n c) d p) : ∃ rs : List (List UInt8), rs.length = n ∧ RdL W (.slice a n c) rs := by
  obtain ⟨fuel, hf⟩ := h
  rcases open_slice1 Try.underlying31 (by kernel_rfl) hf with ⟨hcs, _⟩ | ⟨x, l, cp, m, f, V, D, Pl, hcs, _, hl, hm, hmm, hx, hel⟩
  · simp [Value.cells] at hcs
    obtain ⟨rfl, rfl, rfl⟩ := hcs
    exact ⟨[], rfl, _, _, rfl, fun i r hi => by simp at hi⟩
  · simp [Value.cells] at hcs
    obtain ⟨rfl, rfl, rfl⟩ := hcs
    have hmc : m = c := by simpa using hmm
    subst hmc
    rcases Nat.eq_zero_or_pos n with h0 | h0
    · subst h0
      exact ⟨[], rfl, _, _, rfl, fun i r hi => by simp at hi⟩
    · obtain ⟨b, o, sp⟩ := x
      have hsp : sp = none := by simpa [Addr.add] using World.cell?_spot (hel 0 (by omega)).1
      subst hsp
      obtain ⟨F, hF⟩ := choose_lt (α := List UInt8) (p := fun i q => ∃ u, W.cell? ⟨b, o + i, none⟩ = some u ∧ Sl.RdA W u q) (n := n) (fun i hi => by
        obtain ⟨h1, h2⟩ := hel i (by omega)
        obtain ⟨u, l, e, hr⟩ := bytes_trod h2
        rw [Addr.add_lit] at h1
        simp only [List.cons.injEq, and_true] at e
        exact ⟨l, u, by rw [h1, e], hr⟩)
      refine ⟨(List.range n).map F, by simp, some ⟨b, o, none⟩, m, by simp, fun i r hi => ?_⟩
      have hin : i < n := by have := (List.getElem?_eq_some_iff.1 hi).1; simpa using this
      have e : F i = r := by simpa [hin] using hi
      obtain ⟨u, h1, h2⟩ := hF i hin
      rw [e] at h2
      exact ⟨b, o, u, rfl, h1, h2⟩
end Go.Proofs.Ythgkkmcpmhfehaa
