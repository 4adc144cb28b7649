/- tape.read: the stretch's bytes from one place to another. -/
import Derived.Test.YthgkkmcpmhfehaaRd
namespace Go.Proofs.Ythgkkmcpmhfehaa
open Go.RowKit Go.Lib Go.Shelf
set_option maxRecDepth 100000
attribute [local go_sem] Oper.semAt_some

theorem makeB (w : World) (a b : Nat) (hm : b ≤ 1048576) (hab : a ≤ b) : (Instr.makeSlice 30 (.int .i64 (a : Int)) (.int .i64 (b : Int))).run Try.prog w = .ok (.slice (some ⟨w.heap.size, 0, none⟩) a b) (w.alloc (.cells (byteCells (List.replicate b 0)).toArray 5)) := by
  obtain ⟨i0, hi, hz0, hz1, hz2⟩ := info_parts info5
  have h := run_make (P := Try.prog) w 30 5 i0 (.int .u8 0) Try.underlying30 hi hz0 .i64 .i64 a b (by omega) (by omega) (by rw [hz2]; omega) (by omega)
  rw [h, hz1]
  have e2 : madeCells (Value.int .u8 0).cells (b * 1) = (byteCells (List.replicate b 0)).toArray := by
    rw [Nat.mul_one]
    apply Array.ext'
    rw [byteCells, List.map_replicate]
    exact toList_madeCells_one _ _
  rw [show ((b : Nat) : Int).toNat = b from by omega, show ((a : Nat) : Int).toNat = a from by omega, e2]

/-- What a read has laid, and what has come. -/
structure RdS (w W : World) (t from' to' : Nat) (l : List UInt8) : Prop where
  below : Below w.heap.size w W
  size : w.heap.size + 8 ≤ W.heap.size
  b0 : W.heap[w.heap.size]? = some (.cells #[.pointer (some ⟨t, 0, none⟩)] 72 (0, 0))
  b1 : W.heap[w.heap.size + 1]? = some (.cells #[.int .i64 from'] 3 (0, 0))
  b2 : W.heap[w.heap.size + 2]? = some (.cells #[.int .i64 to'] 3 (0, 0))
  b3 : W.heap[w.heap.size + 3]? = some (.cells (byteCells (l ++ List.replicate (to' - from' - l.length) 0)).toArray 5 (0, 0))
  b4 : W.heap[w.heap.size + 4]? = some (.cells #[.slice (some ⟨w.heap.size + 3, 0, none⟩) l.length (to' - from')] 30 (0, 0))
  b5 : W.heap[w.heap.size + 5]? = some (.cells #[.pointer (some ⟨t, 0, none⟩)] 72 (0, 0))
  b6 : W.heap[w.heap.size + 6]? = some (.cells #[.int .i64 from'] 3 (0, 0))
  b7 : W.heap[w.heap.size + 7]? = some (.cells #[.int .i64 to'] 3 (0, 0))
theorem RdS.on {w W W' : World} {t from' to' : Nat} {l : List UInt8} (h : RdS w W t from' to' l) (hb : Below (w.heap.size + 8) W W') : RdS w W' t from' to' l := by
  have e : ∀ k, k < 8 → W'.heap[w.heap.size + k]? = W.heap[w.heap.size + k]? := fun k hk => hb.block _ (by omega)
  exact ⟨h.below.trans (hb.mono (by omega)), Nat.le_trans h.size hb.size, (e 0 (by omega)).trans h.b0, (e 1 (by omega)).trans h.b1, (e 2 (by omega)).trans h.b2, (e 3 (by omega)).trans h.b3, (e 4 (by omega)).trans h.b4, (e 5 (by omega)).trans h.b5, (e 6 (by omega)).trans h.b6, (e 7 (by omega)).trans h.b7⟩
theorem Book.below {D : Nat} {A B : World} (h : Book D A B) : Below D A B := ⟨h.os, h.tape, h.output, Nat.le_of_eq h.size.symm, fun k hk => h.block k (by omega) (by omega)⟩
theorem RdS.cells {w W : World} {t from' to' : Nat} {l : List UInt8} (h : RdS w W t from' to' l) :
    W.cell? ⟨w.heap.size, 0, none⟩ = some (.pointer (some ⟨t, 0, none⟩)) ∧ W.cell? ⟨w.heap.size + 1, 0, none⟩ = some (.int .i64 from') ∧ W.cell? ⟨w.heap.size + 2, 0, none⟩ = some (.int .i64 to') ∧ W.cell? ⟨w.heap.size + 4, 0, none⟩ = some (.slice (some ⟨w.heap.size + 3, 0, none⟩) l.length (to' - from')) ∧ W.frozen? ⟨w.heap.size + 4, 0, none⟩ = false ∧
    W.cell? ⟨w.heap.size + 5, 0, none⟩ = some (.pointer (some ⟨t, 0, none⟩)) ∧ W.cell? ⟨w.heap.size + 6, 0, none⟩ = some (.int .i64 from') ∧ W.cell? ⟨w.heap.size + 7, 0, none⟩ = some (.int .i64 to') :=
  ⟨by rw [cell_of_row _ _ _ _ _ _ h.b0]; rfl, by rw [cell_of_row _ _ _ _ _ _ h.b1]; rfl, by rw [cell_of_row _ _ _ _ _ _ h.b2]; rfl, by rw [cell_of_row _ _ _ _ _ _ h.b4]; rfl, frozen_of_row _ _ 0 _ _ h.b4, by rw [cell_of_row _ _ _ _ _ _ h.b5]; rfl, by rw [cell_of_row _ _ _ _ _ _ h.b6]; rfl, by rw [cell_of_row _ _ _ _ _ _ h.b7]; rfl⟩
theorem alloc_at' (w : World) (o : Obj) (k : Nat) : (w.alloc o).heap[k]? = if k = w.heap.size then some o else w.heap[k]? := by
  by_cases h : k = w.heap.size
  · rw [if_pos h, h]; exact World.alloc_heap_new w o
  · rw [if_neg h]
    by_cases h2 : k < w.heap.size
    · exact Below.heap_alloc _ _ _ h2
    · rw [Array.getElem?_eq_none (by rw [World.size_alloc]; omega), Array.getElem?_eq_none (by omega)]
def rdW (w : World) (t from' to' : Nat) : World := ((((((((w.alloc (.cells #[.pointer (some ⟨t, 0, none⟩)] 72)).alloc (.cells #[.int .i64 from'] 3)).alloc (.cells #[.int .i64 to'] 3)).alloc (.cells (byteCells (List.replicate (to' - from') 0)).toArray 5)).alloc (.cells #[.slice (some ⟨w.heap.size + 3, 0, none⟩) 0 (to' - from')] 30)).alloc (.cells #[.pointer (some ⟨t, 0, none⟩)] 72)).alloc (.cells #[.int .i64 from'] 3)).alloc (.cells #[.int .i64 to'] 3))
theorem rdW_size (w : World) (t from' to' : Nat) : (rdW w t from' to').heap.size = w.heap.size + 8 := by simp only [rdW, World.size_alloc]
theorem RdS.new (w : World) (t from' to' : Nat) : RdS w (rdW w t from' to') t from' to' [] := by
  unfold rdW
  refine ⟨?_, by simp, ?_, ?_, ?_, ?_, ?_, ?_, ?_, ?_⟩
  · exact ((((((((Below.refl _ w).alloc (Nat.le_refl _) _).alloc (by simp only [World.size_alloc]; omega) _).alloc (by simp only [World.size_alloc]; omega) _).alloc (by simp only [World.size_alloc]; omega) _).alloc (by simp only [World.size_alloc]; omega) _).alloc (by simp only [World.size_alloc]; omega) _).alloc (by simp only [World.size_alloc]; omega) _).alloc (by simp only [World.size_alloc]; omega) _
  all_goals
    simp only [alloc_at', World.size_alloc]
    repeat (first | rw [if_pos (by omega)] | rw [if_neg (by omega)])
    try rfl

/-- An append of bytes under a name of its own. -/
def app22 (ty : TypeId) (s x : Value) : Sem Value := Builtin.append_ #[30, 30] ty #[s, x]
theorem app22_eq (ty : TypeId) (s x : Value) : Builtin.append_ #[30, 30] ty #[s, x] = app22 ty s x := rfl
theorem app22_room (w : World) (ty : TypeId) (g n c : Nat) (cur : List UInt8) (hg : w.heap[g]? = some (.cells (byteCells cur).toArray 5 (0, 0))) (b o m d : Nat) (l : List UInt8) (hl : l.length = m) (hr : w.rangeAt b o (byteCells l)) (hroom : n + m ≤ c) (hfit : n + m ≤ cur.length) :
    (app22 ty (.slice (some ⟨g, 0, none⟩) n c) (.slice (some ⟨b, o, none⟩) m d)).run Try.prog w = .ok (.slice (some ⟨g, 0, none⟩) (n + m) c) (w.setRow g (byteCells (splice cur n l)).toArray) := by
  obtain ⟨i0, hi, hz0, hz1, hz2⟩ := info_parts info5
  have := run_append_room (P := Try.prog) w 30 ty 5 i0 Try.underlying30 hi g n c (byteCells cur).toArray hg ⟨b, o, none⟩ m d (byteCells l) (by rw [byteCells_length, hz1, hl, Nat.mul_one]) (fun j u hj => by rw [Addr.add_lit]; exact hr j u hj) (fun u hu => by obtain ⟨x, _, rfl⟩ := List.mem_map.1 hu; rfl) hroom (by rw [byteCells_length, hz1, List.size_toArray, byteCells_length]; omega)
  rw [app22, this, hz1, ← splice_bytes]
  simp [splice]
theorem wrapI (x : Int) (h : -9223372036854775808 ≤ x) (h' : x < 9223372036854775808) : IntKind.i64.wrap x = x := by
  simp only [IntKind.wrap_i64]; omega
def mxI (x y : Int) : Int := max x y
def mnI (x y : Int) : Int := min x y
theorem max_i (w : World) (ts : Array TypeId) (ty : TypeId) (x y : Int) : (Builtin.max_ ts ty #[.int .i64 x, .int .i64 y]).run Try.prog w = .ok (.int .i64 (mxI x y)) w := by
  rw [run_max_int2, mxI]; congr 2; by_cases h : y > x
  · rw [if_pos h]; omega
  · rw [if_neg h]; omega
theorem min_i (w : World) (ts : Array TypeId) (ty : TypeId) (x y : Int) : (Builtin.min_ ts ty #[.int .i64 x, .int .i64 y]).run Try.prog w = .ok (.int .i64 (mnI x y)) w := by
  rw [run_min_int2, mnI]; congr 2; by_cases h : y < x
  · rw [if_pos h]; omega
  · rw [if_neg h]; omega

theorem RdS.app {w W W3 : World} {t from' to' : Nat} {L C : List UInt8} (hR : RdS w W t from' to' L)
    (h3 : W3 = W.drew.setRow (w.heap.size + 3) (byteCells (splice (L ++ List.replicate (to' - from' - L.length) 0) L.length C)).toArray) :
    RdS w (W3.setCell ⟨w.heap.size + 4, 0, none⟩ (.slice (some ⟨w.heap.size + 3, 0, none⟩) (L.length + C.length) (to' - from'))) t from' to' (L ++ C) ∧
    (∀ k, w.heap.size + 8 ≤ k → (W3.setCell ⟨w.heap.size + 4, 0, none⟩ (.slice (some ⟨w.heap.size + 3, 0, none⟩) (L.length + C.length) (to' - from'))).heap[k]? = W.heap[k]?) ∧
    W3.cell? ⟨w.heap.size + 4, 0, none⟩ = some (.slice (some ⟨w.heap.size + 3, 0, none⟩) L.length (to' - from')) ∧ W3.frozen? ⟨w.heap.size + 4, 0, none⟩ = false ∧
    W3.cell? ⟨w.heap.size + 1, 0, none⟩ = some (.int .i64 from') ∧ W3.cell? ⟨w.heap.size + 2, 0, none⟩ = some (.int .i64 to') := by
  have ho : ∀ k, k ≠ w.heap.size + 3 → W3.heap[k]? = W.heap[k]? := fun k hk => by rw [h3, setRow_other _ _ _ _ hk]; rfl
  have h33 : W3.heap[w.heap.size + 3]? = some (.cells (byteCells (splice (L ++ List.replicate (to' - from' - L.length) 0) L.length C)).toArray 5 (0, 0)) := by
    rw [h3]; exact setRow_heap _ _ _ _ _ _ (show W.drew.heap[w.heap.size + 3]? = _ from hR.b3)
  have h34 := (ho (w.heap.size + 4) (by omega)).trans hR.b4
  have hsc : ∀ k v, k ≠ w.heap.size + 4 → (W3.setCell ⟨w.heap.size + 4, 0, none⟩ v).heap[k]? = W3.heap[k]? := fun k v hk => heap_setCell_other _ _ _ _ hk
  have hs3 : W3.heap.size = W.heap.size := by rw [h3]; simp only [setRow_size]; rfl
  refine ⟨⟨⟨?_, ?_, ?_, ?_, ?_⟩, ?_, ?_, ?_, ?_, ?_, ?_, ?_, ?_, ?_⟩, ?_, ?_, ?_, ?_, ?_⟩
  · have := hR.below.os; rw [← this, h3]; rfl
  · have := hR.below.tape; rw [← this, h3]; rfl
  · have := hR.below.output; rw [← this, h3]; rfl
  · have := hR.below.size; rw [show (W3.setCell ⟨w.heap.size + 4, 0, none⟩ (.slice (some ⟨w.heap.size + 3, 0, none⟩) (L.length + C.length) (to' - from'))).heap.size = W3.heap.size by simp]; omega
  · intro k hk; rw [hsc k _ (by omega), ho k (by omega)]; exact hR.below.block k hk
  · have := hR.size; rw [show (W3.setCell ⟨w.heap.size + 4, 0, none⟩ (.slice (some ⟨w.heap.size + 3, 0, none⟩) (L.length + C.length) (to' - from'))).heap.size = W3.heap.size by simp]; omega
  · rw [hsc _ _ (by omega), ho _ (by omega)]; exact hR.b0
  · rw [hsc _ _ (by omega), ho _ (by omega)]; exact hR.b1
  · rw [hsc _ _ (by omega), ho _ (by omega)]; exact hR.b2
  · rw [hsc _ _ (by omega), h33]
    have e : splice (L ++ List.replicate (to' - from' - L.length) 0) L.length C = L ++ C ++ List.replicate (to' - from' - (L ++ C).length) 0 := by
      unfold splice
      rw [List.take_left, List.append_assoc, List.drop_append, List.drop_eq_nil_of_le (by omega), List.nil_append, List.drop_replicate, List.length_append]
      rw [show to' - from' - L.length - (L.length + C.length - L.length) = to' - from' - (L.length + C.length) by omega]
    rw [e]
  · rw [heap_setCell_same _ _ _ _ _ _ h34, List.length_append]; rfl
  · rw [hsc _ _ (by omega), ho _ (by omega)]; exact hR.b5
  · rw [hsc _ _ (by omega), ho _ (by omega)]; exact hR.b6
  · rw [hsc _ _ (by omega), ho _ (by omega)]; exact hR.b7
  · intro k hk; rw [hsc k _ (by omega), ho k (by omega)]
  · rw [cell_of_row _ _ _ _ _ _ h34]; rfl
  · exact frozen_of_row _ _ 0 _ _ h34
  · rw [cell_of_row _ _ _ _ _ _ ((ho (w.heap.size + 1) (by omega)).trans hR.b1)]; rfl
  · rw [cell_of_row _ _ _ _ _ _ ((ho (w.heap.size + 2) (by omega)).trans hR.b2)]; rfl

end Go.Proofs.Ythgkkmcpmhfehaa
