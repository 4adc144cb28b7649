/- The document's Frame. -/
import Derived.Test.YtpbpcefcnkfbpaaAl
namespace Go.Proofs.Ytpbpcefcnkfbpaa
open Go.RowKit Go.Lib
set_option maxRecDepth 100000

theorem three_cells (n : Nat) (hn : n ≤ 65536) : #[Value.int IntKind.u8 ((n : Int) / 65536), Value.int IntKind.u8 ((n : Int) / 256 % 256), Value.int IntKind.u8 ((n : Int) % 256)] = (byteCells (be3 n)).toArray := by
  simp only [byteCells, be3, List.map_cons, List.map_nil, UInt8.toNat_ofNat']
  congr 1
  simp only [List.cons.injEq, Value.int.injEq, true_and, and_true]
  refine ⟨?_, ?_, ?_⟩ <;> omega
theorem own_block {w : World} {B g : Nat} {l : List UInt8} (hB : B ≤ g) (hl : l.length ≤ 1048576) (hg : w.heap[g]? = some (.cells (byteCells l).toArray 5 (0, 0))) : Sl.Own w B (.slice (some ⟨g, 0, none⟩) l.length l.length) l :=
  ⟨by rw [byteCells_length, Nat.mul_one], .inr ⟨g, l.length, _, rfl, hB, hg, Nat.le_refl _, by unfold maxLen; omega, by rw [List.size_toArray, byteCells_length, Nat.mul_one], by rw [Nat.mul_one]; exact List.take_of_length_le (by rw [byteCells_length]; exact Nat.le_refl _)⟩⟩
set_option maxHeartbeats 2000000 in
theorem frame_any (w : World) (m : UInt8) (c : Nat) (v : Value) (r : List UInt8) (h : Sl.RdA w v r) (hl : r.length ≤ 65536) :
    Calls Try.prog 32 #[.int .u8 (m.toNat : Int), .int .i64 (c : Int), v] w fun e w' => ∃ v', e = .returned v' ∧ Sl.Own w' w.heap.size v' (frB m c r) ∧ Below w.heap.size w w' := by
  obtain ⟨a, k, rfl⟩ := h.len
  have HR : Hid _ := h
  clear h
  have d1 : ((r.length : Nat) : Int).tdiv 65536 = (r.length : Int) / 65536 := Int.tdiv_eq_ediv_of_nonneg (by omega)
  have d2 : ((r.length : Nat) : Int).tdiv 256 = (r.length : Int) / 256 := Int.tdiv_eq_ediv_of_nonneg (by omega)
  have d3 : ((r.length : Int) / 256).tmod 256 = (r.length : Int) / 256 % 256 := Int.tmod_eq_emod_of_nonneg (by omega)
  have d4 : ((r.length : Nat) : Int).tmod 256 = (r.length : Int) % 256 := Int.tmod_eq_emod_of_nonneg (by omega)
  go_enter Try.func32, Try.ntmps32
  go_wp2_with fail
  rw [three_cells r.length hl]
  have hb1 : Below w.heap.size w (w.alloc (.cells (byteCells (be3 r.length)).toArray 5)) := (Below.refl _ _).alloc (Nat.le_refl _) _
  have hh1 : (w.alloc (.cells (byteCells (be3 r.length)).toArray 5)).heap[w.heap.size]? = some (.cells (byteCells (be3 r.length)).toArray 5 (0, 0)) := heap_alloc_new w _
  generalize w.alloc (.cells (byteCells (be3 r.length)).toArray 5) = w1 at hb1 hh1 ⊢
  have hr1 : Sl.RdA w1 (.slice a r.length k) r := Sl.RdA.on HR.out hb1
  have h3 : Sl.RdA w1 (.slice (some ⟨w.heap.size, 0, none⟩) 3 3) (be3 r.length) := by
    have := sl_range (c := 3) (range_of_block hh1) (by simp [be3])
    simpa [be3] using this
  have N52 := Sl.refof_any w1 c _ (be3 r.length) h3 (by simp [be3])
  have hs1 : Sl.addN (Sl.startN c) (be3 r.length) < 18446744073709551616 := by have := Sl.addN_lt (Sl.startN c) (be3 r.length); omega
  have N51 := Sl.refadd_any w1 (Sl.addN (Sl.startN c) (be3 r.length)) _ r hs1 hr1 (by omega)
  have hfr : Hid (frB m c r = [m] ++ (be3 r.length ++ Sl.be8 (sumN c (be3 r.length) r)) ++ r) := by show _ = _; simp [frB]
  change Calls Try.prog 51 _ w1 (fun e w' => e = .returned (.int .u64 (sumN c (be3 r.length) r : Nat)) ∧ w' = w1) at N51
  have hsl : sumN c (be3 r.length) r < 18446744073709551616 := by have := Sl.addN_lt (Sl.addN (Sl.startN c) (be3 r.length)) r; unfold sumN; omega
  have hl3 : (be3 r.length).length = 3 := rfl
  generalize sumN c (be3 r.length) r = A at *
  generalize Sl.addN (Sl.startN c) (be3 r.length) = A1 at *
  generalize be3 r.length = L at *
  refine N52.mono ?_
  rintro e w2 ⟨rfl, hw2⟩
  have hw2 := hw2.symm
  subst hw2
  go_wp2_with fail
  refine N51.mono ?_
  rintro e w2 ⟨rfl, hw2⟩
  have hw2 := hw2.symm
  subst hw2
  have hbm : Below w1.heap.size w1 (w1.alloc (.cells #[.int .u8 (m.toNat : Int)] 5)) := (Below.refl _ _).alloc (Nat.le_refl _) _
  have hom : Sl.Own (w1.alloc (.cells #[.int .u8 (m.toNat : Int)] 5)) w.heap.size (.slice (some ⟨w1.heap.size, 0, none⟩) 1 1) [m] := own_block (l := [m]) hb1.size (by simp) (heap_alloc_new w1 _)
  generalize hwm : w1.alloc (.cells #[.int .u8 (m.toNat : Int)] 5) = wm at hbm hom
  have N53 := Sl.refput_any wm _ L A hsl (Sl.RdA.on h3 hbm) (by omega)
  go_wp2_with fail
  clear hwm
  refine N53.mono ?_
  rintro e w3 ⟨v3, rfl, ho3, hb3⟩
  have hle3 : w.heap.size ≤ w3.heap.size := Nat.le_trans hb1.size (Nat.le_trans hbm.size hb3.size)
  have hom3 : Sl.Own w3 w.heap.size (.slice (some ⟨w1.heap.size, 0, none⟩) 1 1) [m] := ownsRow_block hom (fun j hj => hb3.block j (by obtain ⟨c', hc'⟩ := own_ne (ownsRow_base hom (Nat.zero_le _)) hj; exact (Array.getElem?_eq_some_iff.1 hc').1))
  have hr3 : Sl.RdA w3 (.slice a r.length k) r := Sl.RdA.on (Sl.RdA.on hr1 hbm) hb3
  have hrv3 : Sl.RdA w3 v3 (L ++ Sl.be8 A) := .inl (Sl.Own.rd ho3)
  have hl8 : (L ++ Sl.be8 A).length = 11 := by simp [hl3, Sl.be8]
  generalize L ++ Sl.be8 A = M at *
  go_wp2_with (at_builtin; refine Sl.appB rfl (.tmp 29) (.tmp 32) rfl w.heap.size _ _ [m] M w3 rfl hom3 rfl hrv3 (by simp; omega) hle3 ?_)
  intro v4 w4 ho4 hb4
  have hr4 : Sl.RdA w4 (.slice a r.length k) r := by
    have hb04 : Below w.heap.size w w4 := ((hb1.trans (hbm.mono hb1.size)).trans (hb3.mono (Nat.le_trans hb1.size hbm.size))).trans hb4
    exact Sl.RdA.on HR.out hb04
  have hle4 : w.heap.size ≤ w4.heap.size := Nat.le_trans hle3 hb4.size
  go_wp2_with (at_builtin; refine Sl.appB rfl (.tmp 33) (.tmp 34) rfl w.heap.size _ _ ([m] ++ M) r w4 rfl ho4 rfl hr4 (by simp; omega) hle4 ?_)
  intro v5 w5 ho5 hb5
  go_wp2
  go_ret
  exact ⟨v5, rfl, by rw [hfr.out]; exact ho5, (((hb1.trans (hbm.mono hb1.size)).trans (hb3.mono (Nat.le_trans hb1.size hbm.size))).trans hb4).trans hb5⟩
end Go.Proofs.Ytpbpcefcnkfbpaa
