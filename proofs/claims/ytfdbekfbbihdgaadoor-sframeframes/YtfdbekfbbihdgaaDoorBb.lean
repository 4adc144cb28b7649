
/- Worlds that differ in one block, blocks of one struct, giving up by panic. Conditions: those that each row states. -/
import Derived.Test.YtfdbekfbbihdgaaDoorBa
import Derived.Test.YtfdbekfbbihdgaaDoorAa0
import Derived.Laws.MakeOwn
import Derived.Laws.OwnMore
import Derived.Laws.AppendOwn
import Derived.OwnWalk
import Derived.Defers
import Derived.Recover
import Derived.WalkLawsBesides
import Derived.Deep.Cut
import Derived.Deep.QuietTactic
import Derived.Deep.LoopGhost
import Derived.Deep.MidRow
import Derived.Deep.RegionHeld3
import Derived.Shelf.RegionOpen
namespace Go.Proofs.YtfdbekfbbihdgaaDoor
open Go.RowKit Go.Lib
set_option maxRecDepth 100000
set_option linter.unusedSimpArgs false

/-- Nothing but block b has changed. -/
structure But (w w' : World) (b : Nat) : Prop where
  os : w'.os = w.os
  tape : w'.tape = w.tape
  output : w'.output = w.output
  size : w'.heap.size = w.heap.size
  block : ∀ k, k ≠ b → w'.heap[k]? = w.heap[k]?
theorem But.refl (w : World) (b : Nat) : But w w b := ⟨rfl, rfl, rfl, rfl, fun _ _ => rfl⟩
theorem But.trans {w w1 w2 : World} {b : Nat} (h1 : But w w1 b) (h2 : But w1 w2 b) : But w w2 b :=
  ⟨h2.os.trans h1.os, h2.tape.trans h1.tape, h2.output.trans h1.output, h2.size.trans h1.size, fun k hk => (h2.block k hk).trans (h1.block k hk)⟩
theorem But.set (w : World) (b o : Nat) (v : Value) : But w (w.setCell ⟨b, o, none⟩ v) b := by
  refine ⟨rfl, rfl, rfl, by simp, fun k hk => ?_⟩
  simp only [World.setCell]
  rw [Array.getElem?_modify, if_neg (Ne.symm hk)]
theorem But.below {w w' : World} {b B : Nat} (h : But w w' b) (hB : B ≤ b) : Below B w w' := ⟨h.os, h.tape, h.output, Nat.le_of_eq h.size.symm, fun k hk => h.block k (by omega)⟩
theorem But.cell {w w' : World} {b : Nat} (h : But w w' b) (k o : Nat) (hk : k ≠ b) : w'.cell? ⟨k, o, none⟩ = w.cell? ⟨k, o, none⟩ := by unfold World.cell?; simp only [h.block k hk]
theorem But.frozen {w w' : World} {b : Nat} (h : But w w' b) (k o : Nat) (hk : k ≠ b) : w'.frozen? ⟨k, o, none⟩ = w.frozen? ⟨k, o, none⟩ := by unfold World.frozen?; simp only [h.block k hk]
structure Blk (w : World) (g : Nat) (cs : Array Value) (t : TypeId) : Prop where
  h : w.heap[g]? = some (.cells cs t (0, 0))
theorem Blk.lt {w : World} {g : Nat} {cs : Array Value} {t : TypeId} (h : Blk w g cs t) : g < w.heap.size := (Array.getElem?_eq_some_iff.1 h.h).1
theorem Blk.cell {w : World} {g : Nat} {cs : Array Value} {t : TypeId} (h : Blk w g cs t) (j : Nat) : w.cell? ⟨g, j, none⟩ = cs[j]? := cell_of_row w g j cs t (0, 0) h.h
theorem Blk.frozen {w : World} {g : Nat} {cs : Array Value} {t : TypeId} (h : Blk w g cs t) (j : Nat) : w.frozen? ⟨g, j, none⟩ = false := by
  simp [World.frozen?, h.h]
theorem Blk.new (w : World) (cs : Array Value) (t : TypeId) : Blk (w.alloc (.cells cs t)) w.heap.size cs t := ⟨heap_alloc_new w _⟩
theorem Blk.alloc {w : World} {g : Nat} {cs : Array Value} {t : TypeId} (h : Blk w g cs t) (o : Obj) : Blk (w.alloc o) g cs t := ⟨(Below.heap_alloc w o g h.lt).trans h.h⟩
theorem Blk.below {w w' : World} {g B : Nat} {cs : Array Value} {t : TypeId} (h : Blk w g cs t) (hb : Below B w w') (hg : g < B) : Blk w' g cs t := ⟨(hb.block g hg).trans h.h⟩
theorem Blk.on {w w' : World} {g : Nat} {cs : Array Value} {t : TypeId} (h : Blk w g cs t) (hb : Below w.heap.size w w') : Blk w' g cs t := ⟨(hb.block g h.lt).trans h.h⟩
theorem Blk.grown {w w' : World} {g : Nat} {cs : Array Value} {t : TypeId} {row : Option Nat} (h : Blk w g cs t) (hg : w.grownBy w' row) (hne : some g ≠ row) : Blk w' g cs t := ⟨(hg.block g h.lt hne).trans h.h⟩
theorem Blk.set {w : World} {g : Nat} {cs : Array Value} {t : TypeId} (h : Blk w g cs t) (j : Nat) (u : Value) : Blk (w.setCell ⟨g, j, none⟩ u) g (cs.setIfInBounds j u) t := by
  exact ⟨by simp [World.setCell, Array.getElem?_modify, h.h]⟩
theorem Blk.row {w : World} {g : Nat} {cs : Array Value} {t : TypeId} (h : Blk w g cs t) (cs' : Array Value) : Blk (w.setRow g cs') g cs' t := ⟨setRow_heap _ _ _ _ _ _ h.h⟩
theorem Blk.setO {w : World} {g g' j : Nat} {cs : Array Value} {t : TypeId} (h : Blk w g cs t) (hne : g ≠ g') (u : Value) : Blk (w.setCell ⟨g', j, none⟩ u) g cs t := ⟨(Below.heap_setCell w ⟨g', j, none⟩ u g hne).trans h.h⟩
theorem Blk.rowO {w : World} {g g' : Nat} {cs : Array Value} {t : TypeId} (h : Blk w g cs t) (hne : g ≠ g') (cs' : Array Value) : Blk (w.setRow g' cs') g cs t := by
  refine ⟨?_⟩
  simp only [World.setRow, Array.getElem?_modify]
  rw [if_neg (by omega)]
  exact h.h
theorem wpl_store {ty : TypeId} {ops : Array Oper} {rest : List Oper} {o : Oper} {a : Act} {w : World} {Q : Exit → Act → World → Prop} (hgd : o.guard = none) (x y : Operand) (ho : o.op = .store ty x y)
    (g : Nat) (cells : Array Value) (hx : a.eval x = .pointer (some ⟨g, 0, none⟩)) (hy : a.eval y = .agg cells)
    {t : TypeId} {old : Array Value} (hg : Blk w g old t) (hi : (Tryd.prog.info? ty).map (·.size) = some cells.size)
    (hold : old.size = cells.size) (h1 : cells.all (·.oneCell') = true)
    (h : wpList Tryd.prog ops Q rest (a.put o.dst undef) (w.setRow g cells)) : wpList Tryd.prog ops Q (o :: rest) a w :=
  wpList_store_row hgd ty x y ho g cells hx hy t old hg.h hi hold h1 h
theorem grown_setRow (w : World) (g : Nat) (cs : Array Value) : w.grownBy (w.setRow g cs) (some g) :=
  ⟨rfl, rfl, rfl, by simp [World.setRow], fun k _ hne => by
    simp only [World.setRow, Array.getElem?_modify]
    rw [if_neg (fun e => hne (by rw [e]))]⟩
theorem wpl_put {ty : TypeId} {ops : Array Oper} {rest : List Oper} {o : Oper} {a : Act} {w : World} {Q : Exit → Act → World → Prop} (hgd : o.guard = none) (x y : Operand) (ho : o.op = .store ty x y)
    (g : Nat) (cells : Array Value) (hx : a.eval x = .pointer (some ⟨g, 0, none⟩)) (hy : a.eval y = .agg cells)
    {t : TypeId} {old : Array Value} (hg : Blk w g old t) (hi : (Tryd.prog.info? ty).map (·.size) = some cells.size)
    (hold : old.size = cells.size) (h1 : cells.all (·.oneCell') = true)
    (h : ∀ W', Blk W' g cells t → w.grownBy W' (some g) → W'.heap.size = w.heap.size → wpList Tryd.prog ops Q rest (a.put o.dst undef) W') : wpList Tryd.prog ops Q (o :: rest) a w :=
  wpl_store hgd x y ho g cells hx hy hg hi hold h1 (h _ (hg.row cells) (grown_setRow w g cells) (by simp [World.setRow]))
/-- A struct is stored into a block that was made just before. -/
theorem wpl_fresh {ty : TypeId} {ops : Array Oper} {rest : List Oper} {o : Oper} {a : Act} {w : World} {Q : Exit → Act → World → Prop} (hgd : o.guard = none) (x y : Operand) (ho : o.op = .store ty x y)
    (cells old : Array Value) {t : TypeId} (hx : a.eval x = .pointer (some ⟨w.heap.size, 0, none⟩)) (hy : a.eval y = .agg cells)
    (hi : (Tryd.prog.info? ty).map (·.size) = some cells.size) (hold : old.size = cells.size) (h1 : cells.all (·.oneCell') = true)
    (h : ∀ W', Blk W' w.heap.size cells t → Below w.heap.size w W' → W'.heap.size = w.heap.size + 1 → wpList Tryd.prog ops Q rest (a.put o.dst undef) W') : wpList Tryd.prog ops Q (o :: rest) a (w.alloc (.cells old t)) :=
  wpl_put hgd x y ho w.heap.size cells hx hy (Blk.new w old t) hi hold h1 fun W' h2 h3 h4 => h W' h2 (((Below.refl _ w).alloc (Nat.le_refl _) _).grown h3 (by simp) (fun k hk => by injection hk with hk; omega)) (by rw [h4]; simp)
/-- The walk stands still here. -/
theorem wpl_halt {ops : Array Oper} {l : List Oper} {Q : Exit → Act → World → Prop} {a : Act} {w : World} (h : True → wpList Tryd.prog ops Q l a w) : wpList Tryd.prog ops Q l a w := h trivial
/-- One cell is stored. -/
theorem wpl_set {ty : TypeId} {ops : Array Oper} {rest : List Oper} {o : Oper} {a : Act} {w : World} {Q : Exit → Act → World → Prop} (hgd : o.guard = none) (x y : Operand) (ho : o.op = .store ty x y)
    (g j : Nat) (u : Value) (hx : a.eval x = .pointer (some ⟨g, j, none⟩)) (hy : a.eval y = u)
    {t : TypeId} {old : Array Value} (hg : Blk w g old t) (hi : (Tryd.prog.info? ty).map (·.size) = some 1) (hu : u.cells = #[u]) (h1 : u.oneCell' = true) (hj : j < old.size)
    (h : ∀ W', Blk W' g (old.setIfInBounds j u) t → w.grownBy W' (some g) → W'.heap.size = w.heap.size → wpList Tryd.prog ops Q rest (a.put o.dst undef) W') : wpList Tryd.prog ops Q (o :: rest) a w := by
  refine wpList_plain hgd fun K hK => ?_
  have hst := run_storeCells_at Tryd.prog g j t [u] 0 old w hg.h (by simp; omega) (fun v hv => by simp at hv; subst hv; exact h1)
  simp only [Nat.add_zero, List.length_singleton] at hst
  have hrun : (storeVar ty ⟨g, j, none⟩ u).run Tryd.prog w = .ok () (w.setRow g (old.toList.take j ++ [u] ++ old.toList.drop (j + 1)).toArray) := by
    cases hq : Tryd.prog.info? ty with
    | none => simp [hq] at hi
    | some i =>
      have hs : i.size = 1 := by simpa [hq] using hi
      simp [storeVar, sizeOf, typeInfo, hq, hu, hs, hst]
  have e : (old.toList.take j ++ [u] ++ old.toList.drop (j + 1)).toArray = old.setIfInBounds j u := by
    apply Array.ext'
    rw [Array.toList_setIfInBounds]
    simp [List.set_eq_take_append_cons_drop, hj]
  rw [e] at hrun
  unfold Oper.wp execOp
  simp only [ho, hx, hy, Instr.storeAt, Instr.sureAddr, Sem.run_bind, Sem.run_pure, Result.andThen_ok, hrun]
  exact hK _ _ (h _ (hg.row _) (grown_setRow w g _) (by simp [World.setRow]))
theorem Blk.but {w w' : World} {g b : Nat} {cs : Array Value} {t : TypeId} (h : Blk w g cs t) (hb : But w w' b) (hne : g ≠ b) : Blk w' g cs t := ⟨by rw [hb.block g hne]; exact h.h⟩
/-- Below B nothing but block b has changed. -/
structure Alb (B : Nat) (w w' : World) (b : Nat) : Prop where
  os : w'.os = w.os
  tape : w'.tape = w.tape
  output : w'.output = w.output
  size : w.heap.size ≤ w'.heap.size
  block : ∀ k, k < B → k ≠ b → w'.heap[k]? = w.heap[k]?
theorem Alb.refl (B : Nat) (w : World) (b : Nat) : Alb B w w b := ⟨rfl, rfl, rfl, Nat.le_refl _, fun _ _ _ => rfl⟩
theorem Alb.trans {B : Nat} {w w1 w2 : World} {b : Nat} (h1 : Alb B w w1 b) (h2 : Alb B w1 w2 b) : Alb B w w2 b :=
  ⟨h2.os.trans h1.os, h2.tape.trans h1.tape, h2.output.trans h1.output, Nat.le_trans h1.size h2.size, fun k h hk => (h2.block k h hk).trans (h1.block k h hk)⟩
theorem Alb.but {B : Nat} {w w' : World} {b : Nat} (h : But w w' b) : Alb B w w' b := ⟨h.os, h.tape, h.output, Nat.le_of_eq h.size.symm, fun k _ hk => h.block k hk⟩
theorem Alb.below {B : Nat} {w w' : World} {b : Nat} (h : Below B w w') : Alb B w w' b := ⟨h.os, h.tape, h.output, h.size, fun k hk _ => h.block k hk⟩
theorem Alb.grown {B : Nat} {w w' : World} {b g : Nat} (h : w.grownBy w' (some g)) (hB : B ≤ w.heap.size) (hg : B ≤ g) : Alb B w w' b :=
  Alb.below ((Below.refl B w).grown h hB (fun k hk => by injection hk with hk; omega))
theorem wpl_putAt {ty : TypeId} {ops : Array Oper} {rest : List Oper} {o : Oper} {a : Act} {w : World} {Q : Exit → Act → World → Prop} (hgd : o.guard = none) (x y : Operand) (ho : o.op = .store ty x y)
    (g off : Nat) (cells : Array Value) (hx : a.eval x = .pointer (some ⟨g, off, none⟩)) (hy : a.eval y = .agg cells)
    {t : TypeId} {old : Array Value} (hg : Blk w g old t) (hi : (Tryd.prog.info? ty).map (·.size) = some cells.size)
    (hfit : off + cells.size ≤ old.size) (h1 : cells.all (·.oneCell') = true)
    (h : ∀ W', Blk W' g (old.toList.take off ++ cells.toList ++ old.toList.drop (off + cells.size)).toArray t → w.grownBy W' (some g) → W'.heap.size = w.heap.size → wpList Tryd.prog ops Q rest (a.put o.dst undef) W') : wpList Tryd.prog ops Q (o :: rest) a w := by
  refine wpList_plain hgd fun K hK => ?_
  have hst := run_storeCells_at Tryd.prog g off t cells.toList 0 old w hg.h (by simp; omega) (fun v hv => (Array.all_eq_true_iff_forall_mem.1 h1) v (by simpa using hv))
  simp only [Nat.add_zero, Array.length_toList] at hst
  have hrun : (storeVar ty ⟨g, off, none⟩ (.agg cells)).run Tryd.prog w = .ok () (w.setRow g (old.toList.take off ++ cells.toList ++ old.toList.drop (off + cells.size)).toArray) := by
    cases hq : Tryd.prog.info? ty with
    | none => simp [hq] at hi
    | some i =>
      have hs : cells.size = i.size := by simp [hq] at hi; omega
      simp [storeVar, sizeOf, typeInfo, hq, Value.cells, ← hs, hst]
  unfold Oper.wp execOp
  simp only [ho, hx, hy, Instr.storeAt, Instr.sureAddr, Sem.run_bind, Sem.run_pure, Result.andThen_ok, hrun]
  exact hK _ _ (h _ (hg.row _) (grown_setRow w g _) (by simp [World.setRow]))
theorem Blk.alb {w w' : World} {g b : Nat} {cs : Array Value} {t : TypeId} (h : Blk w g cs t) (hb : Alb w.heap.size w w' b) (hne : g ≠ b) : Blk w' g cs t := ⟨(hb.block g h.lt hne).trans h.h⟩
theorem opw_set {ty : TypeId} {K : Act → World → Prop} {o : Oper} {a : Act} {w : World} {Q : Exit → Act → World → Prop} (x y : Operand) (ho : o.op = .store ty x y)
    (g j : Nat) (u : Value) (hx : a.eval x = .pointer (some ⟨g, j, none⟩)) (hy : a.eval y = u)
    {t : TypeId} {old : Array Value} (hg : Blk w g old t) (hi : (Tryd.prog.info? ty).map (·.size) = some 1) (hu : u.cells = #[u]) (h1 : u.oneCell' = true) (hj : j < old.size)
    (h : ∀ W', Blk W' g (old.setIfInBounds j u) t → w.grownBy W' (some g) → W'.heap.size = w.heap.size → K (a.put o.dst undef) W') : o.wp Tryd.prog a w K Q := by
  have hst := run_storeCells_at Tryd.prog g j t [u] 0 old w hg.h (by simp; omega) (fun v hv => by simp at hv; subst hv; exact h1)
  simp only [Nat.add_zero, List.length_singleton] at hst
  have hrun : (storeVar ty ⟨g, j, none⟩ u).run Tryd.prog w = .ok () (w.setRow g (old.toList.take j ++ [u] ++ old.toList.drop (j + 1)).toArray) := by
    cases hq : Tryd.prog.info? ty with
    | none => simp [hq] at hi
    | some i =>
      have hs : i.size = 1 := by simpa [hq] using hi
      simp [storeVar, sizeOf, typeInfo, hq, hu, hs, hst]
  have e : (old.toList.take j ++ [u] ++ old.toList.drop (j + 1)).toArray = old.setIfInBounds j u := by
    apply Array.ext'
    rw [Array.toList_setIfInBounds]
    simp [List.set_eq_take_append_cons_drop, hj]
  rw [e] at hrun
  unfold Oper.wp execOp
  simp only [ho, hx, hy, Instr.storeAt, Instr.sureAddr, Sem.run_bind, Sem.run_pure, Result.andThen_ok, hrun]
  exact h _ (hg.row _) (grown_setRow w g _) (by simp [World.setRow])
theorem Own.lower {w : World} {B B' : Nat} {v : Value} {l : List UInt8} (h : Own w B v l) (hB : B' ≤ B) : Own w B' v l := by
  obtain ⟨hl, h⟩ := h
  refine ⟨hl, ?_⟩
  rcases h with h | ⟨g, cap, cur, e, hb, hr⟩
  · exact .inl h
  · exact .inr ⟨g, cap, cur, e, Nat.le_trans hB hb, hr⟩
theorem make0 (w : World) (z : Int) (h0 : 0 ≤ z) (h1 : z ≤ 140000000000000) : ∃ C, (Instr.makeSlice 27 (.int .i64 0) (.int .i64 z)).run Tryd.prog w = .ok (.slice (some ⟨w.heap.size, 0, none⟩) 0 z.toNat) (w.alloc (.cells C 5)) ∧ ∀ B, B ≤ w.heap.size → Own (w.alloc (.cells C 5)) B (.slice (some ⟨w.heap.size, 0, none⟩) 0 z.toNat) [] := by
  obtain ⟨i0, hi, hz0, hz1, hz2⟩ := info_parts info5
  have h := run_make (P := Tryd.prog) w 27 5 i0 (.int .u8 0) Tryd.underlying27 hi hz0 .i64 .i64 0 z (by omega) h0 (by rw [hz2]; omega) (by omega)
  refine ⟨_, h, fun B hB => ?_⟩
  refine World.ownsRow_made w _ _ hB ?_ ?_
  · unfold maxLen; omega
  · first | (rw [size_madeCells, hz1, Nat.mul_one]) | (rw [size_madeCells, hz1]; simp)
theorem old_of {W w1 : World} (hb : Below W.heap.size W w1) : (∀ b o, b < W.heap.size → w1.cell? ⟨b, o, none⟩ = W.cell? ⟨b, o, none⟩) ∧ (∀ b o, b < W.heap.size → w1.frozen? ⟨b, o, none⟩ = W.frozen? ⟨b, o, none⟩) :=
  ⟨fun b o h => hb.cell (p := ⟨b, o, none⟩) h, fun b o h => hb.frozen (p := ⟨b, o, none⟩) h⟩
theorem ext_str (l : List UInt8) (a b : Nat) : (⟨l.toArray⟩ : ByteArray).extract a b = ⟨((l.drop a).take (b - a)).toArray⟩ := by
  apply ByteArray.ext
  simp [ByteArray.data_extract, List.extract_eq_take_drop]
theorem get_str (l : List UInt8) (i : Nat) (h : i < (⟨l.toArray⟩ : ByteArray).size) : (⟨l.toArray⟩ : ByteArray)[i]'h = l.getD i 0 := by
  have : i < l.length := h
  show l.toArray[i] = _
  simp [List.getD_eq_getElem?_getD, this]
/-- The program's reader: what is left. -/
structure Cr (w : World) (b : Nat) (s : List UInt8) : Prop where
  c0 : w.cell? ⟨b, 0, none⟩ = some (str s)
  f0 : w.frozen? ⟨b, 0, none⟩ = false
theorem Cr.on {w w' : World} {b B : Nat} {s : List UInt8} (h : Cr w b s) (hb : Below B w w') (hk : b < B) : Cr w' b s :=
  ⟨by rw [hb.cell (p := ⟨b, 0, none⟩) hk]; exact h.c0, by rw [hb.frozen (p := ⟨b, 0, none⟩) hk]; exact h.f0⟩
theorem bytes_of (w : World) (l : List UInt8) : ∃ c W, (convert 9 27 (str l)).run Tryd.prog w = .ok (.slice (some ⟨w.heap.size, 0, none⟩) l.length c) W ∧ (∀ j (h : j < l.length), W.cell? ⟨w.heap.size, j, none⟩ = some (.int .u8 (l[j].toNat : Int))) ∧ Below w.heap.size w W := by
  refine ⟨_, _, run_bytes_of_string (P := Tryd.prog) w 9 27 5 ⟨l.toArray⟩ Tryd.underlying9 Tryd.underlying27 Tryd.underlying5, ?_, (Below.refl _ _).drew.alloc (Nat.le_refl _) _⟩
  intro j h
  have := bytesRow_at ⟨l.toArray⟩ (grownCap w (⟨l.toArray⟩ : ByteArray).size 0 5) j (by simpa using h)
  have hsz : w.drew.heap.size = w.heap.size := rfl
  have hat : ∀ (C : Obj), (w.drew.alloc C).heap[w.heap.size]? = some C := fun C => by
    show (w.heap.push C)[w.heap.size]? = _
    simp
  simp only [World.cell?, hat, this]
  simp
theorem hmix : Tryd.prog.follows .mixedOrders = true := by kernel_rfl
/-- A giving up. -/
def gup (n : Int) : List PanicEntry := [{ v := .iface 28 (.int .i64 n), recovered := false }]
theorem insist_ok (w : World) (n : Int) : Calls Tryd.prog 45 #[.bool true, .int .i64 n] w fun e w' => e = .returned (.tuple #[]) ∧ w' = w := by
  go_enter Tryd.func45, Tryd.ntmps45
  go_wp2
  go_end0
  exact ⟨rfl, rfl⟩
theorem insist_no (w : World) (n : Int) : Calls Tryd.prog 45 #[.bool false, .int .i64 n] w fun e w' => e = .panicked (gup n) ∧ w' = w := by
  go_enter Tryd.func45, Tryd.ntmps45
  go_wp2
  exact ⟨rfl, rfl, rfl⟩
theorem insist_any (w : World) (c : Bool) (n : Int) : Calls Tryd.prog 45 #[.bool c, .int .i64 n] w fun e w' => w' = w ∧ ((c = true ∧ e = .returned (.tuple #[])) ∨ (c = false ∧ e = .panicked (gup n))) := by
  cases c
  · exact (insist_no w n).mono fun e w' ⟨h1, h2⟩ => ⟨h2, .inr ⟨rfl, h1⟩⟩
  · exact (insist_ok w n).mono fun e w' ⟨h1, h2⟩ => ⟨h2, .inl ⟨rfl, h1⟩⟩
end Go.Proofs.YtfdbekfbbihdgaaDoor
