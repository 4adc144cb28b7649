
/- Lists of headers and lists of lines in memory: what can be read, what is a call's own, append. Conditions: those that each row states. -/
import Derived.Test.YtfdbekfbbihdgaaDoorBb
import Derived.Test.YtfdbekfbbihdgaaDoorPu
namespace Go.Proofs.YtfdbekfbbihdgaaDoor
open Go.RowKit Go.Lib
set_option maxRecDepth 100000
set_option linter.unusedSimpArgs false

theorem info42 : (Tryd.prog.info? 42).map (fun i => (i.zero, i.size, i.bytes)) = some (some (.agg #[.string ⟨#[]⟩, .string ⟨#[]⟩]), 2, 32) := by kernel_rfl
theorem info9 : (Tryd.prog.info? 9).map (fun i => (i.zero, i.size, i.bytes)) = some (some (.string ⟨#[]⟩), 1, 16) := by kernel_rfl

/-- A header as the program holds it. -/
abbrev hdA (h : Hd) : Array Value := #[str h.1, str h.2]
def hdC (h : Hd) : List Value := [str h.1, str h.2]
def HdAt (w : World) (b o : Nat) (h : Hd) : Prop := w.cell? ⟨b, o, none⟩ = some (str h.1) ∧ w.cell? ⟨b, o + 1, none⟩ = some (str h.2)
/-- A slice of headers that can be read: of none wherever it points, or so many cells. -/
def RdH (w : World) (v : Value) (l : List Hd) : Prop :=
  ((∃ a c, v = .slice a 0 c) ∧ l = []) ∨ ∃ (b o c : Nat), v = .slice (some ⟨b, o, none⟩) l.length c ∧ l.length ≤ c ∧ ∀ i (h : i < l.length), HdAt w b (o + i * 2) l[i]
theorem HdAt.on {w w' : World} {b o : Nat} {p : Hd} (h : HdAt w b o p) (hb : Below w.heap.size w w') : HdAt w' b o p := by
  obtain ⟨h0, h1⟩ := h
  have hl : b < w.heap.size := World.block_lt_of_cell? w _ h0
  exact ⟨by rw [hb.cell hl]; exact h0, by rw [hb.cell hl]; exact h1⟩
theorem RdH.on {w w' : World} {v : Value} {l : List Hd} (h : RdH w v l) (hb : Below w.heap.size w w') : RdH w' v l := by
  rcases h with h | ⟨b, o, c, rfl, hc, h⟩
  · exact .inl h
  · exact .inr ⟨b, o, c, rfl, hc, fun i hi => (h i hi).on hb⟩
def cellsH (l : List Hd) : List Value := l.flatMap hdC
theorem cellsH_len (l : List Hd) : (cellsH l).length = l.length * 2 := by
  induction l with
  | nil => rfl
  | cons a l ih => simp [cellsH, hdC] at ih ⊢; omega
theorem cellsH_app (l m : List Hd) : cellsH (l ++ m) = cellsH l ++ cellsH m := by simp [cellsH]
theorem cellsH_at : ∀ (l : List Hd) (i : Nat) (h : i < l.length) (j : Nat), j < 2 → (cellsH l)[i * 2 + j]? = (hdC l[i])[j]?
  | a :: l, 0, _, j, hj => by
    simp only [cellsH, List.flatMap_cons, List.getElem_cons_zero, Nat.zero_mul, Nat.zero_add]
    rw [List.getElem?_append_left (by simp [hdC]; omega)]
  | a :: l, i + 1, h, j, hj => by
    have := cellsH_at l i (by simpa using h) j hj
    simp only [cellsH, List.flatMap_cons, List.getElem_cons_succ] at this ⊢
    rw [List.getElem?_append_right (by simp [hdC]; omega), ← this]
    congr 1
    simp [hdC]
    omega
theorem cellsH_one (l : List Hd) : ∀ u ∈ cellsH l, u.oneCell' = true := by
  intro u hu
  simp only [cellsH, List.mem_flatMap] at hu
  obtain ⟨p, _, hu⟩ := hu
  simp only [hdC, List.mem_cons, List.not_mem_nil, or_false] at hu
  rcases hu with rfl | rfl <;> rfl
/-- A list in the call's own memory, from block B on. -/
def OwnH (w : World) (B : Nat) (v : Value) (l : List Hd) : Prop := w.ownsRow B 42 2 v l.length (cellsH l)
theorem hdAt_cells {w : World} {b o : Nat} {l : List Hd} (h : ∀ i (h : i < l.length), HdAt w b (o + i * 2) l[i]) : ∀ j u, (cellsH l)[j]? = some u → w.cell? ⟨b, o + j, none⟩ = some u := by
  intro j u hu
  have hj : j < l.length * 2 := by
    rcases Nat.lt_or_ge j (l.length * 2) with h' | h'
    · exact h'
    · rw [List.getElem?_eq_none (by rw [cellsH_len]; omega)] at hu; cases hu
  obtain ⟨i, k, rfl, hk⟩ : ∃ i k, j = i * 2 + k ∧ k < 2 := ⟨j / 2, j % 2, by omega, by omega⟩
  have hi : i < l.length := by omega
  rw [cellsH_at l i hi k hk] at hu
  obtain ⟨h0, h1⟩ := h i hi
  match k, hk, hu with
  | 0, _, hu => simp [hdC] at hu; subst hu; exact h0
  | 1, _, hu => simp [hdC] at hu; subst hu; exact h1
theorem OwnH.rd {w : World} {B : Nat} {v : Value} {l : List Hd} (h : OwnH w B v l) : RdH w v l := by
  obtain ⟨hl, h⟩ := h
  rcases h with ⟨rfl, h0⟩ | ⟨g, cap, cur, rfl, hb, hg, hc, hm, hs, ht⟩
  · exact .inl ⟨⟨_, _, rfl⟩, List.length_eq_zero_iff.1 h0⟩
  · refine .inr ⟨g, 0, cap, rfl, hc, fun i hi => ?_⟩
    have key : ∀ j, j < 2 → w.cell? ⟨g, 0 + i * 2 + j, none⟩ = (hdC l[i])[j]? := fun j hj => by
      rw [← cellsH_at l i hi j hj, ← ht, List.getElem?_take_of_lt (by omega)]
      simp [World.cell?, hg]
    exact ⟨key 0 (by omega), key 1 (by omega)⟩
theorem OwnH.low {w : World} {B B' : Nat} {v : Value} {l : List Hd} (h : OwnH w B' v l) (hB : B ≤ B') : OwnH w B v l := by
  obtain ⟨hl, h⟩ := h
  refine ⟨hl, ?_⟩
  rcases h with h | ⟨g, cap, cur, hv, hb, h⟩
  · exact .inl h
  · exact .inr ⟨g, cap, cur, hv, by omega, h⟩
theorem OwnH.up {w w' : World} {B : Nat} {v : Value} {l : List Hd} (h : OwnH w B v l) (hb : Below w.heap.size w w') : OwnH w' B v l := by
  obtain ⟨hl, h⟩ := h
  refine ⟨hl, ?_⟩
  rcases h with h | ⟨g, cap, cur, hv, hg, hc, h⟩
  · exact .inl h
  · exact .inr ⟨g, cap, cur, hv, hg, by rw [hb.block g (Array.getElem?_eq_some_iff.1 hc).1]; exact hc, h⟩
theorem OwnH.alb {w w' : World} {B b : Nat} {v : Value} {l : List Hd} (h : OwnH w B v l) (hb : Alb w.heap.size w w' b) (hB : b < B) : OwnH w' B v l := by
  obtain ⟨hl, h⟩ := h
  refine ⟨hl, ?_⟩
  rcases h with h | ⟨g, cap, cur, hv, hg, hc, h⟩
  · exact .inl h
  · exact .inr ⟨g, cap, cur, hv, hg, by rw [hb.block g (Array.getElem?_eq_some_iff.1 hc).1 (by omega)]; exact hc, h⟩
theorem OwnH.grown {w w' : World} {B : Nat} {v : Value} {l : List Hd} {row : Option Nat} (h : OwnH w B v l) (hg : w.grownBy w' row) (hr : ∀ k, row = some k → k < B) : OwnH w' B v l := by
  obtain ⟨hl, ho⟩ := h
  refine ⟨hl, ?_⟩
  rcases ho with h | ⟨g, cap, cur, hv, hgB, hc, h⟩
  · exact .inl h
  · refine .inr ⟨g, cap, cur, hv, hgB, ?_, h⟩
    rw [hg.block g (Array.getElem?_eq_some_iff.1 hc).1 (fun e => by have := hr g e.symm; omega)]
    exact hc
theorem OwnH.nil (w : World) (B : Nat) : OwnH w B (.slice none 0 0) [] := World.ownsRow_nil _ _ _ _
theorem appH {o : Oper} {a : Act} {K : Act → World → Prop} {Q : Exit → Act → World → Prop} (s x : Operand)
    (ho : o.op = .call { callee := .builtin .append, args := #[s, x], argTypes := #[22, 22] }) (B : Nat) (v vx : Value) (l l2 : List Hd) (w : World)
    (hs : a.eval s = v) (hown : OwnH w B v l) (hx : a.eval x = vx) (hsrc : RdH w vx l2) (hn : l.length + l2.length ≤ 1000000000) (hB : B ≤ w.heap.size)
    (h : ∀ v' w', OwnH w' B v' (l ++ l2) → Below B w w' → K (a.put o.dst v') w') : o.wp Tryd.prog a w K Q := by
  obtain ⟨i0, hi, hz0, hz1, hz2⟩ := info_parts info42
  rcases hsrc with ⟨⟨ad, c, rfl⟩, rfl⟩ | ⟨b, off, c, rfl, hc, hsrc⟩
  · have hrun : (Builtin.append_ #[22, 22] o.type #[v, .slice ad 0 c]).run Tryd.prog w = .ok v w := by
      rcases hown.2 with ⟨rfl, _⟩ | ⟨g, cap, cur, rfl, _, _, hnc, _⟩
      · cases ad <;> simp [Builtin.append_, run_underlying Tryd.underlying22, sizeOf, typeInfo, hi, Builtin.lenOf, Builtin.firstCells, loadCells, loadCellsFrom]
      · cases ad <;> simp [Builtin.append_, run_underlying Tryd.underlying22, sizeOf, typeInfo, hi, Builtin.lenOf, Builtin.firstCells, hnc, storeCells, loadCells, loadCellsFrom]
    unfold Oper.wp execOp
    simp only [ho, resolve, invoke, builtin, Sem.run_bind, Sem.run_pure, Result.andThen_ok, List.map_toArray, List.map_cons, List.map_nil, hs, hx, hrun]
    exact h v w (by rw [List.append_nil]; exact hown) (Below.refl _ _)
  · refine wp_append_own _ s x 22 ho B 42 i0 (.agg #[.string ⟨#[]⟩, .string ⟨#[]⟩]) 2 32 Tryd.underlying22 hi hz0 hz1 hz2 rfl (by decide) v l.length (cellsH l) hs hown ⟨b, off, none⟩ l2.length c (cellsH l2) hx (cellsH_len l2) ?_ (cellsH_one l2) (by unfold maxLen; omega) (by omega) hB ?_
    · intro j u hj
      rw [Addr.add_lit]
      exact hdAt_cells hsrc j u hj
    · intro v' w' h1 h2 _
      refine h v' w' ?_ ?_
      · unfold OwnH
        rw [List.length_append, cellsH_app]
        exact h1
      · exact (Below.refl B w).grown h2 hB (fun k hk => (World.ownsRow.lt hown k hk).1)
/-- One header behind a list: it lies in a block that was made just before. -/
theorem appH1 {o : Oper} {a : Act} {K : Act → World → Prop} {Q : Exit → Act → World → Prop} (s x : Operand)
    (ho : o.op = .call { callee := .builtin .append, args := #[s, x], argTypes := #[22, 22] }) (B : Nat) (v : Value) (l : List Hd) (p : Hd) (w : World)
    (hs : a.eval s = v) (hown : OwnH w B v l) (hx : a.eval x = .slice (some ⟨w.heap.size, 0, none⟩) 1 1) (hn : l.length + 1 ≤ 1000000000) (hB : B ≤ w.heap.size)
    (h : ∀ v' w', OwnH w' B v' (l ++ [p]) → Below B w w' → K (a.put o.dst v') w') : o.wp Tryd.prog a (w.alloc (.cells (hdA p) 42)) K Q := by
  have hb := below_new w (.cells (hdA p) 42)
  refine appH s x ho B v _ l [p] _ hs (hown.up hb) hx (.inr ⟨w.heap.size, 0, 1, rfl, Nat.le_refl _, fun i hi => ?_⟩) hn (by simp; omega) (fun v' w' h1 h2 => h v' w' h1 ((hb.mono hB).trans h2))
  have : i = 0 := by simpa using hi
  subst this
  exact ⟨World.cell?_alloc_new .., World.cell?_alloc_new ..⟩

/-- A slice of lines that can be read. -/
def RdL (w : World) (v : Value) (l : List Bs) : Prop :=
  ((∃ a c, v = .slice a 0 c) ∧ l = []) ∨ ∃ (b o c : Nat), v = .slice (some ⟨b, o, none⟩) l.length c ∧ l.length ≤ c ∧ ∀ i (h : i < l.length), w.cell? ⟨b, o + i, none⟩ = some (str l[i])
theorem RdL.on {w w' : World} {v : Value} {l : List Bs} (h : RdL w v l) (hb : Below w.heap.size w w') : RdL w' v l := by
  rcases h with h | ⟨b, o, c, rfl, hc, h⟩
  · exact .inl h
  · exact .inr ⟨b, o, c, rfl, hc, fun i hi => by rw [hb.cell (p := ⟨b, o + i, none⟩) (World.block_lt_of_cell? w _ (h i hi))]; exact h i hi⟩
abbrev strs (l : List Bs) : List Value := l.map str
def OwnL (w : World) (B : Nat) (v : Value) (l : List Bs) : Prop := w.ownsRow B 9 1 v l.length (strs l)
theorem OwnL.rd {w : World} {B : Nat} {v : Value} {l : List Bs} (h : OwnL w B v l) : RdL w v l := by
  obtain ⟨hl, h⟩ := h
  rcases h with ⟨rfl, h0⟩ | ⟨g, cap, cur, rfl, hb, hg, hc, hm, hs, ht⟩
  · exact .inl ⟨⟨_, _, rfl⟩, List.length_eq_zero_iff.1 h0⟩
  · refine .inr ⟨g, 0, cap, rfl, hc, fun i hi => ?_⟩
    have e : (cur.toList.take (l.length * 1))[i]? = (strs l)[i]? := by rw [ht]
    rw [List.getElem?_take_of_lt (by omega)] at e
    rw [List.getElem?_map, List.getElem?_eq_getElem hi] at e
    simp only [World.cell?, hg, Nat.zero_add]
    simp only [Array.getElem?_toList] at e
    simp [e]
theorem OwnL.nil (w : World) (B : Nat) : OwnL w B (.slice none 0 0) [] := World.ownsRow_nil _ _ _ _
theorem OwnL.low {w : World} {B B' : Nat} {v : Value} {l : List Bs} (h : OwnL w B' v l) (hB : B ≤ B') : OwnL w B v l := by
  obtain ⟨hl, h⟩ := h
  refine ⟨hl, ?_⟩
  rcases h with h | ⟨g, cap, cur, hv, hb, h⟩
  · exact .inl h
  · exact .inr ⟨g, cap, cur, hv, by omega, h⟩
theorem OwnL.up {w w' : World} {B : Nat} {v : Value} {l : List Bs} (h : OwnL w B v l) (hb : Below w.heap.size w w') : OwnL w' B v l := by
  obtain ⟨hl, h⟩ := h
  refine ⟨hl, ?_⟩
  rcases h with h | ⟨g, cap, cur, hv, hg, hc, h⟩
  · exact .inl h
  · exact .inr ⟨g, cap, cur, hv, hg, by rw [hb.block g (Array.getElem?_eq_some_iff.1 hc).1]; exact hc, h⟩
theorem OwnL.alb {w w' : World} {B b : Nat} {v : Value} {l : List Bs} (h : OwnL w B v l) (hb : Alb w.heap.size w w' b) (hB : b < B) : OwnL w' B v l := by
  obtain ⟨hl, h⟩ := h
  refine ⟨hl, ?_⟩
  rcases h with h | ⟨g, cap, cur, hv, hg, hc, h⟩
  · exact .inl h
  · exact .inr ⟨g, cap, cur, hv, hg, by rw [hb.block g (Array.getElem?_eq_some_iff.1 hc).1 (by omega)]; exact hc, h⟩
theorem appL1 {o : Oper} {a : Act} {K : Act → World → Prop} {Q : Exit → Act → World → Prop} (s x : Operand)
    (ho : o.op = .call { callee := .builtin .append, args := #[s, x], argTypes := #[49, 49] }) (B : Nat) (v : Value) (l : List Bs) (p : Bs) (w : World)
    (hs : a.eval s = v) (hown : OwnL w B v l) (hx : a.eval x = .slice (some ⟨w.heap.size, 0, none⟩) 1 1) (hn : l.length + 1 ≤ 1000000000) (hB : B ≤ w.heap.size)
    (h : ∀ v' w', OwnL w' B v' (l ++ [p]) → Below B w w' → K (a.put o.dst v') w') : o.wp Tryd.prog a (w.alloc (.cells #[str p] 9)) K Q := by
  obtain ⟨i0, hi, hz0, hz1, hz2⟩ := info_parts info9
  have hb := below_new w (.cells #[str p] 9)
  have hown2 := hown.up hb
  refine wp_append_own _ s x 49 ho B 9 i0 (.string ⟨#[]⟩) 1 16 Tryd.underlying49 hi hz0 hz1 hz2 rfl (by decide) v l.length (strs l) hs hown2 ⟨w.heap.size, 0, none⟩ 1 1 (strs [p]) hx rfl ?_ (fun u hu => by simp [strs] at hu; subst hu; rfl) (by unfold maxLen; omega) (by omega) (by simp; omega) ?_
  · intro j u hj
    match j, hj with
    | 0, hj => simp [strs] at hj; subst hj; rw [Addr.add_lit]; exact World.cell?_alloc_new ..
  · intro v' w' h1 h2 _
    refine h v' w' ?_ ((hb.mono hB).trans ((Below.refl B _).grown h2 (by simp; omega) (fun k hk => (World.ownsRow.lt hown2 k hk).1)))
    unfold OwnL
    rw [List.length_append]
    simpa [strs] using h1
end Go.Proofs.YtfdbekfbbihdgaaDoor
