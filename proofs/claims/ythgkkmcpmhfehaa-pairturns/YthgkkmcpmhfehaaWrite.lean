/- What Write does. -/
import Derived.Test.YthgkkmcpmhfehaaFull
import Derived.Great.BuildSlice
namespace Go.Proofs.Ythgkkmcpmhfehaa
open Go.RowKit Go.Lib
set_option maxRecDepth 100000
attribute [local go_sem ↓] Go.wp_at_zero Go.wp_at_succ

theorem fill_cons (place : Nat → Option (Nat × Nat)) (Z : Array Value) (i : Nat) (v : Value) (rest : List (Nat × Value)) (off size : Nat) (hp : place i = some (off, size)) (hs : v.cells.size = size) (hf : off + size ≤ Z.size) :
    ∃ r : Array Value, Instr.fill place Z ((i, v) :: rest) = Instr.fill place r rest ∧ r.size = Z.size ∧ ∀ k, r[k]? = if off ≤ k ∧ k < off + size ∧ k < Z.size then v.cells[k - off]? else Z[k]? := by
  obtain ⟨h1, h2⟩ := Great.foldl_set off v.cells.toList 0 Z
  refine ⟨_, ?_, h1, fun k => ?_⟩
  · conv => lhs; unfold Instr.fill
    simp only [hp, hs]
    rw [if_neg (by simp; omega)]
    congr 1
    rw [← Array.foldl_toList, Array.toList_zipIdx]
  · rw [h2 k]
    simp [hs]
theorem build_cells (Z : Array Value) (hZ : Z.size = 257) (i : Int) (cs : List Value) (hcs : cs.length = 256) :
    Instr.fill (fun x => [(0, 1), (1, 256)].toArray[x]?) Z [(0, .int .i64 i), (1, .agg cs.toArray)] = some (Value.int .i64 i :: cs).toArray := by
  obtain ⟨r, e1, s1, k1⟩ := fill_cons (fun x => [(0, 1), (1, 256)].toArray[x]?) Z 0 (.int .i64 i) [(1, .agg cs.toArray)] 0 1 rfl rfl (by omega)
  obtain ⟨r2, e2, s2, k2⟩ := fill_cons (fun x => [(0, 1), (1, 256)].toArray[x]?) r 1 (.agg cs.toArray) [] 1 256 rfl (by simp [Value.cells, hcs]) (by omega)
  rw [e1, e2]
  show some r2 = _
  congr 1
  apply Array.ext_getElem?
  intro k
  rw [k2 k]
  cases k with
  | zero => rw [if_neg (by omega), k1 0, if_pos (by omega)]; rfl
  | succ k =>
    by_cases hk : k < 256
    · rw [if_pos (by omega)]; simp [Value.cells]
    · rw [if_neg (by omega), k1, if_neg (by omega)]
      simp only [List.getElem?_toArray, List.getElem?_cons_succ]
      rw [List.getElem?_eq_none (by omega), Array.getElem?_eq_none (by omega)]
theorem places62 : ∀ fields, Try.prog.underlying 87 = some (.struct fields) → fields.toList.mapM (fun f => (Try.prog.info? f.type).map fun i => (f.offset, i.size)) = some [(0, 1), (1, 256)] := by
  intro fields h
  rw [Try.underlying87] at h
  cases h
  kernel_rfl
theorem build62 (w : World) (i : Int) (cs : List Value) (hcs : cs.length = 256) :
    (Instr.build 87 #[(0, .int .i64 i), (1, .agg cs.toArray)]).run Try.prog w = .ok (.agg (Value.int .i64 i :: cs).toArray) w := by
  refine run_build w 87 _ _ ?_
  obtain ⟨i0, hi, hz0, hz1, hz2⟩ := info_parts info62
  unfold Program.built
  rw [hi, Try.underlying87]
  simp only [hz0]
  rw [places62 _ Try.underlying87]
  exact build_cells _ (by simp [Value.cells]) i cs hcs
theorem buildS (w : World) (E : Array Value) (hE : E.size = 257) :
    (Instr.buildSlice 69 1 #[(0, .agg E)]).run Try.prog w = .ok (.slice (some ⟨w.heap.size, 0, none⟩) 1 1) (w.alloc (.cells E 87)) := by
  obtain ⟨i0, hi, hz0, hz1, hz2⟩ := info_parts info62
  refine run_buildSlice w 69 87 1 _ E i0 _ Try.underlying69 hi hz0 (by rw [hz1]; decide) (by rw [hz1]; decide) ?_
  rw [hz1]
  generalize hZ : (Array.range (1 * 257)).map _ = Z
  have hZs : Z.size = 257 := by rw [← hZ]; simp
  obtain ⟨r, e1, s1, k1⟩ := fill_cons (fun i => some (i * 257, 257)) Z 0 (.agg E) [] 0 257 rfl hE (by omega)
  show Instr.fill _ Z [(0, .agg E)] = _
  rw [e1]
  show some r = _
  congr 1
  apply Array.ext_getElem?
  intro k
  rw [k1 k]
  by_cases hk : k < 257
  · rw [if_pos (by omega)]; rfl
  · rw [if_neg (by omega), Array.getElem?_eq_none (by omega), Array.getElem?_eq_none (by omega)]

/-- A slice of bytes that can be read. -/
def RdB (w : World) (v : Value) (l : List UInt8) : Prop := ∃ (a : Option Addr) (c : Nat), v = .slice a l.length c ∧ (0 < l.length → ∃ b o, a = some ⟨b, o, none⟩ ∧ w.rangeAt b o (byteCells l))

theorem write_nil (w : World) (a : Int) (v : Value) : Calls Try.prog 24 #[.pointer none, .int .i64 a, v] w fun e w' => e = .returned (.int .i64 2) ∧ w' = w := by
  go_enter Try.func24, Try.ntmps24
  go_wp2
  go_ret
  exact ⟨rfl, rfl⟩
/-- What Write answers, where it does nothing. -/
def DS.writeCode (S : DS) (n : Nat) (a : Int) (len : Nat) : Int := if (0 ≤ a ∧ a < n) ∧ len = 256 then (if S.down then 20 else 0) else 1
theorem write_bad (w : World) (X : Nat → Prop) (q n : Nat) (S : DS) (a : Int) (ad : Option Addr) (l c : Nat) (hb : S.writeCode n a l ≠ 0) (h : Drum w X q n S) :
    Calls Try.prog 24 #[.pointer (some ⟨q, 0, none⟩), .int .i64 a, .slice ad l c] w fun e w' => e = .returned (.int .i64 (S.writeCode n a l)) ∧ w' = w := by
  have N27 := has_any w X q n S a h
  obtain ⟨g, v, hr, ok⟩ := h
  obtain ⟨c0, c1, c2, c3, c4, c5, fz⟩ := hr.cells
  unfold DS.writeCode at hb ⊢
  by_cases hh : 0 ≤ a ∧ a < n
  · by_cases hl : l = 256
    · rw [if_pos ⟨hh, hl⟩] at hb ⊢
      have hd : S.down = true := by
        cases hd : S.down
        · simp [hd] at hb
        · rfl
      rw [decide_eq_true hh] at N27
      rw [if_pos hd]
      rw [hd] at c3
      clear hh hb
      subst hl
      go_enter Try.func24, Try.ntmps24
      go_wp2_with (go_at_call 52; refine N27.mono ?_; rintro e w' ⟨rfl, rfl⟩)
      go_ret
      exact ⟨rfl, rfl⟩
    · rw [if_neg (fun h => hl h.2)]
      rw [decide_eq_true hh] at N27
      clear hh hb
      have hl' : ¬ (l : Int) = 256 := by omega
      go_enter Try.func24, Try.ntmps24
      go_wp2_with (go_at_call 52; refine N27.mono ?_; rintro e w' ⟨rfl, rfl⟩)
      go_ret
      exact ⟨rfl, rfl⟩
  · rw [if_neg (fun h => hh h.1)]
    rw [decide_eq_false hh] at N27
    clear hh hb
    go_enter Try.func24, Try.ntmps24
    go_wp2_with (go_at_call 52; refine N27.mono ?_; rintro e w' ⟨rfl, rfl⟩)
    go_ret
    exact ⟨rfl, rfl⟩
end Go.Proofs.Ythgkkmcpmhfehaa
