/- What the law's own full, and New, do. -/
import Derived.Test.YthgkkmcpmhfehaaReads
namespace Go.Proofs.Ythgkkmcpmhfehaa
open Go.RowKit Go.Lib

/-! ### full -/
theorem make256 (w : World) : (Instr.makeSlice 30 (.int .i64 256) (.int .i64 256)).run Try.prog w = .ok (.slice (some ⟨w.heap.size, 0, none⟩) 256 256) (w.alloc (.cells (byteCells (List.replicate 256 0)).toArray 5)) := by
  obtain ⟨i0, hi, hz0, hz1, hz2⟩ := info_parts info5
  have h := run_make (P := Try.prog) w 30 5 i0 (.int .u8 0) Try.underlying30 hi hz0 .i64 .i64 256 256 (by omega) (by omega) (by rw [hz2]; omega) (by omega)
  rw [h, hz1]
  have e2 : madeCells (Value.int .u8 0).cells (256 * 1) = (byteCells (List.replicate 256 0)).toArray := by
    apply Array.ext'
    rw [show (Value.int .u8 0).cells = #[Value.int .u8 0] from rfl, toList_madeCells_one]
    rw [byteCells, List.map_replicate]
    rfl
  show Result.ok _ (w.alloc (.cells (madeCells (Value.int .u8 0).cells (256 * 1)) 5)) = _
  rw [e2]
  rfl
/-- The first k bytes are c. -/
def filled (k : Nat) (c d : List UInt8) : List UInt8 := c.take k ++ d.drop k
theorem filled_set (k : Nat) (c d : List UInt8) (hk : k < c.length) (he : c.length = d.length) : (byteCells (filled k c d)).toArray.setIfInBounds k (.int .u8 ((c.getD k 0).toNat : Int)) = (byteCells (filled (k + 1) c d)).toArray := by
  apply Array.ext'
  simp only [List.setIfInBounds_toArray]
  apply List.ext_getElem?
  intro i
  simp only [byteCells, List.getElem?_set, List.getElem?_map, filled, List.getElem?_append, List.length_take, List.length_map, List.length_append, List.length_drop, List.getElem?_take, List.getElem?_drop]
  by_cases h : k = i
  · subst h
    have h1 : k < min (k + 1) c.length := by omega
    have h2 : k < min k c.length + (d.length - k) := by omega
    simp [h1, h2, List.getElem?_eq_getElem hk]
  · by_cases h3 : i < k
    · have h1 : i < min k c.length := by omega
      have h2 : i < min (k + 1) c.length := by omega
      have h4 : i < k + 1 := by omega
      simp [h, h1, h2, h3, h4]
    · have h1 : ¬ i < min k c.length := by omega
      have h2 : ¬ i < min (k + 1) c.length := by omega
      have e1 : k + (i - min k c.length) = i := by omega
      have e2 : k + 1 + (i - min (k + 1) c.length) = i := by omega
      simp only [h, h1, h2, if_false, e1, e2]
theorem filled_length (k : Nat) (c d : List UInt8) (he : c.length = d.length) : (filled k c d).length = d.length := by simp [filled]; omega
theorem filled_none (c d : List UInt8) : filled 0 c d = d := rfl
theorem filled_all (c d : List UInt8) (he : c.length = d.length) : filled d.length c d = c := by rw [filled, ← he, List.take_length, he, List.drop_length, List.append_nil]
def newN (p : Int) : Nat := (min (max p 1) 4096).toNat
/-- A new drum's state. -/
def DS.new (n : Nat) : DS := { P := List.replicate (n * 256) 0, W := [], ops := 0, down := false, armed := 0, keep := 0 }
theorem makePages (w : World) (n : Nat) (hn : n ≤ 4096) : (Instr.makeSlice 68 (.int .i64 (n : Int)) (.int .i64 (n : Int))).run Try.prog w = .ok (.slice (some ⟨w.heap.size, 0, none⟩) n n) (w.alloc (.cells (byteCells (List.replicate (n * 256) 0)).toArray 85)) := by
  obtain ⟨i0, hi, hz0, hz1, hz2⟩ := info_parts info60
  have h := run_make (P := Try.prog) w 68 85 i0 _ Try.underlying68 hi hz0 .i64 .i64 n n (by omega) (by omega) (by rw [hz2]; omega) (by omega)
  rw [h, hz1]
  have e2 : madeCells (Value.agg (Array.replicate 256 (.int .u8 0))).cells (n * 256) = (byteCells (List.replicate (n * 256) 0)).toArray := by
    apply Array.ext'
    rw [byteCells, List.map_replicate]
    show (madeCells (Array.replicate 256 (.int .u8 0)) (n * 256)).toList = _
    unfold madeCells
    apply List.ext_getElem?
    intro j
    simp only [Array.toList_map, Array.toList_range, List.getElem?_map, List.getElem?_replicate, Array.size_replicate]
    by_cases hj : j < n * 256
    · have hm : j % 256 < 256 := Nat.mod_lt _ (by decide)
      rw [if_pos hj, List.getElem?_range hj]
      simp only [Option.map_some]
      rw [getElem!_pos _ _ (by rw [Array.size_replicate]; exact hm), Array.getElem_replicate]
      rfl
    · rw [if_neg hj, List.getElem?_eq_none (by simpa using hj)]
      rfl
  rw [show ((n : Int)).toNat = n from rfl, e2]
theorem new_ok (n : Nat) (h1 : 1 ≤ n) (h2 : n ≤ 4096) : (DS.new n).Ok n := ⟨List.length_replicate, h1, h2, fun x hx => (by cases hx), (by show 0 < 9223372036854775808; omega), (by show -9223372036854775808 ≤ (0 : Int); omega), (by show (0 : Int) < 9223372036854775808; omega)⟩
set_option maxRecDepth 100000 in
theorem new_any (w : World) (p : Int) (hp : -9223372036854775808 ≤ p) (hp' : p < 9223372036854775808) :
    Calls Try.prog 10 #[.int .i64 p] w fun e w' => ∃ X q, e = .returned (.pointer (some ⟨q, 0, none⟩)) ∧ Drum w' X q (newN p) (DS.new (newN p)) ∧ Below w.heap.size w w' ∧ ∀ k, X k → w.heap.size ≤ k := by
  have hm := makePages w (newN p) (by unfold newN; omega)
  have HO : Hid ((DS.new (newN p)).Ok (newN p)) := new_ok _ (by unfold newN; omega) (by unfold newN; omega)
  have hn : ∀ z : Int, z = (newN p : Int) → (Instr.makeSlice 68 (.int .i64 z) (.int .i64 z)).run Try.prog w = .ok (.slice (some ⟨w.heap.size, 0, none⟩) (newN p) (newN p)) (w.alloc (.cells (byteCells (List.replicate (newN p * 256) 0)).toArray 85)) := by
    rintro z rfl; exact hm
  clear hm
  have h3 : p < 1 ∨ 4096 < p ∨ (1 ≤ p ∧ p ≤ 4096) := by omega
  have HR : Hid (∀ w1, w1 = w.alloc (.cells (byteCells (List.replicate (newN p * 256) 0)).toArray 85) → Drum (w1.alloc (.cells #[.slice (some ⟨w.heap.size, 0, none⟩) (newN p) (newN p), .slice none 0 0, .int .i64 0, .bool false, .int .i64 0, .int .i64 0] 71)) (fun k => k = w.heap.size ∨ k = w.heap.size + 1) (w.heap.size + 1) (newN p) (DS.new (newN p))) := by
    rintro w1 rfl
    exact ⟨w.heap.size, .slice none 0 0, ⟨.inr rfl, .inl rfl, fun k hk => (by cases hk), fun k hk => (by simp; omega), heap_alloc2_new w _ _, heap_alloc2_old w _ _, World.ownsRow_nil _ _ _ _⟩, HO.out⟩
  generalize (byteCells (List.replicate (newN p * 256) 0)).toArray = A at *
  generalize DS.new (newN p) = S at *
  rcases h3 with h | h | ⟨h, h'⟩
  · have hm := hn 1 (by unfold newN; omega)
    generalize newN p = n at *
    clear hn
    go_enter Try.func10, Try.ntmps10
    go_wp2
    go_ret
    exact ⟨_, _, rfl, HR.out _ rfl, ((Below.refl _ w).alloc (Nat.le_refl _) _).alloc (by simp) _, fun k hk => by omega⟩
  · have hm := hn 4096 (by unfold newN; omega)
    generalize newN p = n at *
    clear hn
    go_enter Try.func10, Try.ntmps10
    go_wp2
    go_ret
    exact ⟨_, _, rfl, HR.out _ rfl, ((Below.refl _ w).alloc (Nat.le_refl _) _).alloc (by simp) _, fun k hk => by omega⟩
  · have hm := hn p (by unfold newN; omega)
    generalize newN p = n at *
    clear hn
    go_enter Try.func10, Try.ntmps10
    go_wp2
    go_ret
    exact ⟨_, _, rfl, HR.out _ rfl, ((Below.refl _ w).alloc (Nat.le_refl _) _).alloc (by simp) _, fun k hk => by omega⟩
end Go.Proofs.Ythgkkmcpmhfehaa
