/- How arguments are opened: slices of bools and of bytes; what a reading of them gives to the walks. -/
import Derived.Test.YtgbgeoplbmjcbaaRows
import Derived.Test.YtgbgeoplbmjcbaaArmsWalk
import Derived.Deep.Slices
import Derived.ProofKit
import Derived.OpenShut
import Derived.ShutString
import Derived.ChangeOld
import Derived.SizedLaws
namespace Go.Proofs.Ytgbgeoplbmjcbaa
open Go.ChangeShapes Go.WideShapes Go.ChangeAt Go.RowKit Go.Lib Go.Deep

theorem own : ownKnob Try.prog.godebug = none := by kernel_rfl
theorem laidOut : laidOutB Try.prog = true := by kernel_rfl

theorem rd_bools {H : Type} {enc : TypeId × Value → H} {W : World} {a : Option Addr} {n c : Nat} {d : DataW H} {p : List MemPlace}
    (h : DataW.Trod enc Try.prog W 0 (fun _ => true) true 48 (.slice a n c) d p) : ∃ ts : List Bool, RdT W (.slice a n c) ts := by
  obtain ⟨fuel, hf⟩ := h
  rcases open_slice1 Try.underlying48 (by kernel_rfl) hf with ⟨hcs, _⟩ | ⟨x, l, cp, m, f, V, D, Pl, hcs, _, hl, hm, hmm, hx, hel⟩
  · simp [Value.cells] at hcs
    obtain ⟨rfl, rfl, rfl⟩ := hcs
    exact ⟨[], _, _, rfl, fun k hk => by simp at hk⟩
  · simp [Value.cells] at hcs
    obtain ⟨rfl, rfl, rfl⟩ := hcs
    have hmc : m = c := by simpa using hmm
    subst hmc
    rcases Nat.eq_zero_or_pos n with h0 | h0
    · subst h0
      exact ⟨[], _, _, rfl, fun k hk => by simp at hk⟩
    · obtain ⟨b, o, sp⟩ := x
      have hsp : sp = none := by simpa [Addr.add] using World.cell?_spot (hel 0 (by omega)).1
      subst hsp
      obtain ⟨F, hF⟩ := choose_lt (α := Bool) (p := fun i q => W.cell? ⟨b, o + i, none⟩ = some (.bool q)) (n := n) (fun i hi => by
        obtain ⟨h1, h2⟩ := hel i (by omega)
        obtain ⟨t, e, _⟩ := DataW.trod_bool Try.underlying4 h2
        rw [Addr.add_lit] at h1
        refine ⟨t, ?_⟩
        rw [h1]
        simpa using e)
      refine ⟨(List.range n).map F, _, _, by simp; rfl, fun i hi => ⟨b, o, rfl, ?_⟩⟩
      have hin : i < n := by simpa using hi
      have e : ((List.range n).map F).getD i false = F i := by simp [hin]
      rw [e]
      exact hF i hin
/-- A slice of bytes that came in. -/
def RdI (w : World) (v : Value) (l : List UInt8) : Prop := ∃ (a : Option Addr) (c : Nat), v = .slice a l.length c ∧ ∀ k, k < l.length → ∃ b o, a = some ⟨b, o, none⟩ ∧ w.cell? ⟨b, o + k, none⟩ = some (.int .u8 ((l.getD k 0).toNat : Int))
theorem rd_bytes {H : Type} {enc : TypeId × Value → H} {W : World} {a : Option Addr} {n c : Nat} {d : DataW H} {p : List MemPlace}
    (h : DataW.Trod enc Try.prog W 0 (fun _ => true) true 37 (.slice a n c) d p) : ∃ l : List UInt8, RdI W (.slice a n c) l := by
  obtain ⟨fuel, hf⟩ := h
  rcases open_ints Try.underlying37 Try.underlying5 (by kernel_rfl) hf with ⟨hcs, _⟩ | ⟨x, l, cp, zs, hcs, _, hl, hm, hz, hx, hcell, hwz⟩
  · simp [Value.cells] at hcs
    obtain ⟨rfl, rfl, rfl⟩ := hcs
    exact ⟨[], _, _, rfl, fun k hk => by simp at hk⟩
  · simp [Value.cells] at hcs
    obtain ⟨rfl, rfl, rfl⟩ := hcs
    have hzl : zs.length = c := by simpa using hz
    have hll : ((zs.take n).map fun z => UInt8.ofNat z.toNat).length = n := by simp; omega
    refine ⟨(zs.take n).map fun z => UInt8.ofNat z.toNat, some x, c, by rw [hll], fun i hi => ?_⟩
    rw [hll] at hi
    obtain ⟨b, off, rfl, hc⟩ := ints_at hcell (by omega)
    refine ⟨b, off, rfl, ?_⟩
    have hic : i < zs.length := by omega
    rw [hc i hic]
    have hw := bounds_u8 (hwz _ (List.getElem_mem hic))
    have e1 : zs.getD i 0 = zs[i] := by simp [List.getElem?_eq_getElem hic]
    have e2 : ((zs.take n).map fun z => UInt8.ofNat z.toNat).getD i 0 = UInt8.ofNat zs[i].toNat := by
      simp [List.getElem?_map, List.getElem?_take_of_lt hi, List.getElem?_eq_getElem hic]
    rw [e1, e2, UInt8.toNat_ofNat']
    congr 2
    omega
theorem cells46 : Try.prog.cellsOf 46 = 2 := by kernel_rfl
theorem cells3 : Try.prog.cellsOf 3 = 1 := by kernel_rfl
/-- An array of two ints. -/
theorem rd_two {H : Type} {enc : TypeId × Value → H} {W : World} {base : Nat} {v : Value} {d : DataW H} {p : List MemPlace} (hv : Value.okWide Try.prog W .any base 46 v)
    (h : DataW.Trod enc Try.prog W 0 (fun _ => true) true 46 v d p) : ∃ i k : Int, v = .agg #[.int .i64 i, .int .i64 k] ∧ (-9223372036854775808 ≤ i ∧ i ≤ 9223372036854775807) ∧ (-9223372036854775808 ≤ k ∧ k ≤ 9223372036854775807) := by
  obtain ⟨cs, rfl, hs⟩ : ∃ cs, v = .agg cs ∧ cs.size = 2 := by
    unfold Value.okWide at hv
    rw [Try.underlying46] at hv
    obtain ⟨cs, rfl, hs, _⟩ := hv
    exact ⟨cs, rfl, hs.trans cells46⟩
  obtain ⟨fuel, hf⟩ := h
  obtain ⟨xs, m, _, _, _, hl, hx⟩ := DataW.trod_array Try.underlying46 hf
  rw [cells3] at hx
  obtain ⟨a, b, rfl⟩ : ∃ a b, cs = #[a, b] := by
    obtain ⟨l⟩ := cs
    match l, hs with
    | [a, b], _ => exact ⟨a, b, rfl⟩
  have h0 := hx 0 (by omega)
  have h1 := hx 1 (by omega)
  obtain ⟨x0, e0⟩ : ∃ x, xs[0]? = some x := ⟨_, List.getElem?_eq_getElem (by omega)⟩
  obtain ⟨x1, e1⟩ : ∃ x, xs[1]? = some x := ⟨_, List.getElem?_eq_getElem (by omega)⟩
  rw [e0] at h0
  rw [e1] at h1
  obtain ⟨i, hi, _, wi⟩ := DataW.trod_int Try.underlying3 h0
  obtain ⟨k, hk, _, wk⟩ := DataW.trod_int Try.underlying3 h1
  simp [Value.cells] at hi hk
  subst hi; subst hk
  exact ⟨i, k, rfl, bounds_i64 wi, bounds_i64 wk⟩
end Go.Proofs.Ytgbgeoplbmjcbaa
