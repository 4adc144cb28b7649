/- What Read does. -/
import Derived.Test.YthgkkmcpmhfehaaOps
namespace Go.Proofs.Ythgkkmcpmhfehaa
open Go.RowKit Go.Lib

theorem pageOf_length (P : List UInt8) (n i : Nat) (h : P.length = n * 256) (hi : i < n) : (pageOf P i).length = 256 := by
  unfold pageOf
  rw [List.length_take, List.length_drop, h]
  have : (i + 1) * 256 ≤ n * 256 := Nat.mul_le_mul_right _ hi
  omega
theorem info60s : (Try.prog.info? 85).map (·.size) = some 256 := by kernel_rfl
/-- A page's cells in the pages' block. -/
theorem Raw.range {w : World} {X : Nat → Prop} {q g : Nat} {C : Array Value} {P : List UInt8} {v : Value} {W : List (Nat × List UInt8)} (h : Raw w X q g C P v W) (i : Nat) : w.rangeAt g (i * 256) (byteCells (pageOf P i)) := by
  intro j u hj
  rw [cell_of_row _ _ _ _ _ _ h.b2, ← hj]
  have hjl := (List.getElem?_eq_some_iff.1 hj).1
  simp only [byteCells_length, pageOf, List.length_take] at hjl
  simp [byteCells, pageOf, List.getElem?_take_of_lt (show j < 256 by omega), List.getElem?_drop]

theorem wpList_store_new {P : Program} {ops : Array Oper} {rest : List Oper} {o : Oper} {a : Act} {w : World} {Q : Exit → Act → World → Prop} (hgd : o.guard = none) (t : TypeId) (x y : Operand) (ho : o.op = .store t x y)
    (Z c' : Array Value) (hx : a.eval x = .pointer (some ⟨w.heap.size, 0, none⟩)) (hy : a.eval y = .agg c') (hi : (P.info? t).map (·.size) = some c'.size) (hz : Z.size = c'.size) (h1 : c'.all (·.oneCell') = true)
    (h : wpList P ops Q rest (a.put o.dst undef) (w.alloc (.cells c' t))) : wpList P ops Q (o :: rest) a (w.alloc (.cells Z t)) :=
  wpList_plain hgd fun _ hK => by
    unfold Oper.wp execOp
    simp only [ho, hx, hy, Sem.run_bind, run_storeAt_new w t Z c' hi hz h1, Result.andThen_ok]
    exact hK _ _ h
theorem zero60 : ∃ Z : Array Value, Hid (Z.size = 256) ∧ ∀ w, (zeroValue 85).run Try.prog w = .ok (.agg Z) w := by
  obtain ⟨i0, hi, hz0, hz1, hz2⟩ := info_parts info60
  exact ⟨Array.replicate 256 (.int .u8 0), (by show _ = _; simp), fun w => by simp [zeroValue, typeInfo, hi, hz0]⟩
/-- What Read answers: the code, and the bytes if it is OK. -/
def DS.readCode (S : DS) (n : Nat) (a : Int) : Int := if 0 ≤ a ∧ a < n then (if S.down then 20 else 0) else 1
theorem read_nil (w : World) (a : Int) : Calls Try.prog 32 #[.pointer none, .int .i64 a] w fun e w' => e = .returned (.tuple #[.slice none 0 0, .int .i64 2]) ∧ w' = w := by
  go_enter Try.func32, Try.ntmps32
  go_wp2
  go_ret2
  exact ⟨rfl, rfl⟩
theorem read_bad (w : World) (X : Nat → Prop) (q n : Nat) (S : DS) (a : Int) (hb : S.readCode n a ≠ 0) (h : Drum w X q n S) :
    Calls Try.prog 32 #[.pointer (some ⟨q, 0, none⟩), .int .i64 a] w fun e w' => e = .returned (.tuple #[.slice none 0 0, .int .i64 (S.readCode n a)]) ∧ w' = w := by
  have N27 := has_any w X q n S a h
  obtain ⟨g, v, hr, ok⟩ := h
  obtain ⟨c0, c1, c2, c3, c4, c5, fz⟩ := hr.cells
  unfold DS.readCode at hb ⊢
  by_cases hh : 0 ≤ a ∧ a < n
  · rw [if_pos hh] at hb ⊢
    have hd : S.down = true := by
      cases hd : S.down
      · simp [hd] at hb
      · rfl
    rw [decide_eq_true hh] at N27
    rw [if_pos hd]
    rw [hd] at c3
    clear hh hb
    go_enter Try.func32, Try.ntmps32
    go_wp2_with (go_at_call 52; refine N27.mono ?_; rintro e w' ⟨rfl, rfl⟩)
    go_ret2
    exact ⟨rfl, rfl⟩
  · rw [if_neg hh]
    rw [decide_eq_false hh] at N27
    clear hh hb
    go_enter Try.func32, Try.ntmps32
    go_wp2_with (go_at_call 52; refine N27.mono ?_; rintro e w' ⟨rfl, rfl⟩)
    go_ret2
    exact ⟨rfl, rfl⟩
set_option maxRecDepth 100000 in
set_option maxHeartbeats 1000000 in
theorem read_ok (w : World) (X : Nat → Prop) (q n : Nat) (S : DS) (i : Nat) (hi : i < n) (hd : S.down = false) (h : Drum w X q n S) :
    Calls Try.prog 32 #[.pointer (some ⟨q, 0, none⟩), .int .i64 i] w fun e w' => e = .returned (.tuple #[.slice (some ⟨w.heap.size, 0, none⟩) 256 256, .int .i64 0]) ∧ w' = w.alloc (.cells (byteCells (pageOf S.P i)).toArray 85) := by
  have N27 := has_any w X q n S i h
  rw [decide_eq_true (by omega : 0 ≤ (i : Int) ∧ (i : Int) < n)] at N27
  obtain ⟨g, v, hr, ok⟩ := h
  obtain ⟨c0, c1, c2, c3, c4, c5, fz⟩ := hr.cells
  rw [hd] at c3
  have i0 : (0 : Int) ≤ (i : Int) := by omega
  have i1 : (i : Int) < (n : Int) := by omega
  have hR : Hid (w.rangeAt g (i * 256) (byteCells (pageOf S.P i))) := hr.range i
  have hl : (byteCells (pageOf S.P i)).length = 256 := by rw [byteCells_length, pageOf_length _ n _ ok.len hi]
  have hL : Hid ((Try.prog.info? 85).map (·.size) = some (byteCells (pageOf S.P i)).length) := by show _ = _; rw [hl]; exact info60s
  have h1 : Hid (∀ u ∈ byteCells (pageOf S.P i), u.oneCell' = true) := by
    intro u hu
    obtain ⟨x, _, rfl⟩ := List.mem_map.1 hu
    rfl
  generalize byteCells (pageOf S.P i) = cs at *
  obtain ⟨Z, hZ, hz⟩ : ∃ Z : Array Value, Hid (Z.size = 256) ∧ ∀ w, (zeroValue 85).run Try.prog w = .ok (.agg Z) w := zero60
  have HI : Hid ((Try.prog.info? 85).map (·.size) = some cs.toArray.size) := by show _ = _; rw [hL.out]; simp
  have HZ : Hid (Z.size = cs.toArray.size) := by show _ = _; rw [hZ.out]; simp [hl]
  have HA : Hid (cs.toArray.all (·.oneCell') = true) := all_oneCell_toArray h1.out
  go_enter Try.func32, Try.ntmps32
  go_wp2_with (first | (go_at_call 52; refine N27.mono ?_; rintro e w' ⟨rfl, rfl⟩) | (refine wpList_load_mid rfl 85 (.tmp 25) rfl g (i * 256) rfl cs _ hR.out Try.underlying85 rfl hL.out ?_) | (refine wpList_store_new rfl 85 (.tmp 6) (.tmp 26) rfl Z cs.toArray rfl rfl HI.out HZ.out HA.out ?_))
  go_ret2
  exact ⟨rfl, rfl⟩

end Go.Proofs.Ythgkkmcpmhfehaa
