/- How arguments are opened: lists of records, none of which is longer than what can be reached. -/
import Derived.Test.YthgkkmcpmhfehaaOa
namespace Go.Proofs.Ythgkkmcpmhfehaa
open Go.ChangeShapes Go.WideShapes Go.ChangeAt Go.RowKit Go.Lib Go.Deep
set_option maxRecDepth 100000

theorem weightsAll_mem {H : Type} (e : TypeId) : ∀ (ds : List (DataW H)) (d : DataW H), d ∈ ds → ∀ k ∈ d.weights Try.prog e, k ∈ DataW.weightsAll Try.prog e ds
  | d0 :: ds, d, hd, k, hk => by
    simp only [DataW.weightsAll, List.mem_append]
    rcases List.mem_cons.1 hd with rfl | hd
    · exact .inl hk
    · exact .inr (weightsAll_mem e ds d hd k hk)
theorem bytes5 : Try.prog.bytesOf 5 = 1 := by kernel_rfl

theorem bytes_trod2 {H : Type} {enc : TypeId × Value → H} {W : World} {cs : List Value} {fuel : Nat} {y : DataW H × List MemPlace}
    (h : DataW.trod enc Try.prog W 0 (fun _ => true) true fuel 30 cs = some y) (hw : ∀ k ∈ y.1.weights Try.prog 30, k ≤ reachBytes) : ∃ (v : Value) (l : List UInt8), cs = [v] ∧ Sl.RdA W v l ∧ l.length ≤ 140737488355328 := by
  rcases open_ints Try.underlying30 Try.underlying5 (by kernel_rfl) h with ⟨hcs, _⟩ | ⟨x, l, cp, zs, hcs, _, hl, hm, hz, hx, hcell, hwz⟩
  · exact ⟨_, [], hcs, .inl (.inl ⟨rfl, rfl⟩), by simp⟩
  · have hzl : zs.length = cp := by simpa using hz
    have hll : ((zs.take l).map fun z => UInt8.ofNat z.toNat).length = l := by simp; omega
    have hlim : l ≤ 140737488355328 := by
      have := hw ((zs.take l).length + (zs.drop l).length) (by
        rw [hx]
        simp only [DataW.weights, Try.underlying30, List.mem_cons, bytes5, Nat.mul_one]
        left
        simp [lits])
      simp only [reachBytes, List.length_take, List.length_drop] at this
      omega
    rcases Nat.eq_zero_or_pos l with h0 | h0
    · subst h0
      exact ⟨_, [], hcs, .inr ⟨⟨_, _, rfl⟩, rfl⟩, by simp⟩
    · obtain ⟨b, off, rfl, hc⟩ := ints_at hcell (by omega)
      refine ⟨_, (zs.take l).map fun z => UInt8.ofNat z.toNat, hcs, .inl (.inr ⟨b, off, cp, by rw [hll], by rw [hll]; omega, fun i hi => ?_⟩), by rw [hll]; exact hlim⟩
      rw [hll] at hi
      have hic : i < zs.length := by omega
      rw [hc i hic]
      have hw := bounds_u8 (hwz _ (List.getElem_mem hic))
      have e1 : zs.getD i 0 = zs[i] := by simp [List.getElem?_eq_getElem hic]
      have e2 : ((zs.take l).map fun z => UInt8.ofNat z.toNat).getD i 0 = UInt8.ofNat zs[i].toNat := by
        simp [List.getElem?_map, List.getElem?_take_of_lt hi, List.getElem?_eq_getElem hic]
      rw [e1, e2, UInt8.toNat_ofNat']
      congr 2
      omega

theorem rd_list2 {H : Type} {enc : TypeId × Value → H} {W : World} {a : Option Addr} {n c : Nat} {d : DataW H} {p : List MemPlace}
    (h : DataW.Trod enc Try.prog W 0 (fun _ => true) true 31 (.slice a n c) d p) (hw : ∀ k ∈ d.weights Try.prog 31, k ≤ reachBytes) : ∃ rs : List (List UInt8), rs.length = n ∧ n ≤ c ∧ RdL W (.slice a n c) rs ∧ ∀ r ∈ rs, r.length ≤ 140737488355328 := by
  obtain ⟨fuel, hf⟩ := h
  rcases open_slice1 Try.underlying31 (by kernel_rfl) hf with ⟨hcs, _⟩ | ⟨x, l, cp, m, f, V, D, Pl, hcs, _, hl, hm, hmm, hx, hel⟩
  · simp [Value.cells] at hcs
    obtain ⟨rfl, rfl, rfl⟩ := hcs
    exact ⟨[], rfl, by omega, ⟨_, _, rfl, fun i r hi => by simp at hi⟩, by simp⟩
  · simp [Value.cells] at hcs
    obtain ⟨rfl, rfl, rfl⟩ := hcs
    have hmc : m = c := by simpa using hmm
    subst hmc
    have hd : d = .slice ((List.range n).map D) ((List.range (m - n)).map fun j => D (n + j)) := congrArg Prod.fst hx
    rcases Nat.eq_zero_or_pos n with h0 | h0
    · subst h0
      exact ⟨[], rfl, by omega, ⟨_, _, rfl, fun i r hi => by simp at hi⟩, by simp⟩
    · obtain ⟨b, o, sp⟩ := x
      have hsp : sp = none := by simpa [Addr.add] using World.cell?_spot (hel 0 (by omega)).1
      subst hsp
      obtain ⟨F, hF⟩ := choose_lt (α := List UInt8) (p := fun i q => (∃ u, W.cell? ⟨b, o + i, none⟩ = some u ∧ Sl.RdA W u q) ∧ q.length ≤ 140737488355328) (n := n) (fun i hi => by
        obtain ⟨h1, h2⟩ := hel i (by omega)
        obtain ⟨u, l, e, hr, hlim⟩ := bytes_trod2 h2 (fun k hk => hw k (by
          rw [hd]
          simp only [DataW.weights, Try.underlying31, List.mem_cons, List.mem_append]
          exact .inr (.inl (weightsAll_mem 30 _ (D i) (List.mem_map.2 ⟨i, List.mem_range.2 hi, rfl⟩) k hk))))
        rw [Addr.add_lit] at h1
        simp only [List.cons.injEq, and_true] at e
        exact ⟨l, ⟨u, by rw [h1, e], hr⟩, hlim⟩)
      refine ⟨(List.range n).map F, by simp, hl, ⟨some ⟨b, o, none⟩, m, by simp, fun i r hi => ?_⟩, fun r hr => ?_⟩
      · have hin : i < n := by have := (List.getElem?_eq_some_iff.1 hi).1; simpa using this
        have e : F i = r := by simpa [hin] using hi
        obtain ⟨⟨u, h1, h2⟩, _⟩ := hF i hin
        rw [e] at h2
        exact ⟨b, o, u, rfl, h1, h2⟩
      · obtain ⟨i, hi, rfl⟩ := List.mem_map.1 hr
        exact (hF i (List.mem_range.1 hi)).2
end Go.Proofs.Ythgkkmcpmhfehaa
