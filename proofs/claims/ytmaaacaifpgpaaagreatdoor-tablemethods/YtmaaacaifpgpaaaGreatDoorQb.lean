
/- Lists of properties in the call's own memory: append, slices.Grow and slices.Concat. -/
import Derived.Test.YtmaaacaifpgpaaaGreatDoorPg
import Derived.Laws.AppendOwn
import Derived.OwnWalk
namespace Go.Proofs.YtmaaacaifpgpaaaGreatDoor
open Go.RowKit Go.Lib Ieee

def prC (p : Pr) : List Value := [.string p.name, .int .i64 p.val.kind, .int .i64 p.val.num, .string p.val.text, .float .f64 p.val.real]
def cellsP (l : List Pr) : List Value := l.flatMap prC
theorem cellsP_len (l : List Pr) : (cellsP l).length = l.length * 5 := by
  induction l with
  | nil => rfl
  | cons a l ih => simp [cellsP, prC] at ih ⊢; omega
theorem cellsP_app (l m : List Pr) : cellsP (l ++ m) = cellsP l ++ cellsP m := by simp [cellsP]
theorem cellsP_at : ∀ (l : List Pr) (i : Nat) (h : i < l.length) (j : Nat), j < 5 → (cellsP l)[i * 5 + j]? = (prC l[i])[j]?
  | a :: l, 0, _, j, hj => by
    simp only [cellsP, List.flatMap_cons, List.getElem_cons_zero, Nat.zero_mul, Nat.zero_add]
    rw [List.getElem?_append_left (by simp [prC]; omega)]
  | a :: l, i + 1, h, j, hj => by
    have := cellsP_at l i (by simpa using h) j hj
    simp only [cellsP, List.flatMap_cons, List.getElem_cons_succ] at this ⊢
    rw [List.getElem?_append_right (by simp [prC]; omega), ← this]
    congr 1
    simp [prC]
    omega
theorem cellsP_one (l : List Pr) : ∀ u ∈ cellsP l, u.oneCell' = true := by
  intro u hu
  simp only [cellsP, List.mem_flatMap] at hu
  obtain ⟨p, _, hu⟩ := hu
  simp only [prC, List.mem_cons, List.not_mem_nil, or_false] at hu
  rcases hu with rfl | rfl | rfl | rfl | rfl <;> rfl

theorem info33 : (Tryz.prog.info? 44).map (fun i => (i.zero, i.size, i.bytes)) = some (some (.agg #[.string ⟨#[]⟩, .int .i64 0, .int .i64 0, .string ⟨#[]⟩, .float .f64 0]), 5, 56) := by kernel_rfl

/-- A list in the call's own memory, from block B on. -/
def OwnP (w : World) (B : Nat) (v : Value) (l : List Pr) : Prop := w.ownsRow B 44 5 v l.length (cellsP l)

theorem prAt_cells {w : World} {b o : Nat} {l : List Pr} (h : ∀ i (h : i < l.length), PrAt w b (o + i * 5) l[i]) : ∀ j u, (cellsP l)[j]? = some u → w.cell? ⟨b, o + j, none⟩ = some u := by
  intro j u hu
  have hj : j < l.length * 5 := by
    rcases Nat.lt_or_ge j (l.length * 5) with h' | h'
    · exact h'
    · rw [List.getElem?_eq_none (by rw [cellsP_len]; omega)] at hu; cases hu
  obtain ⟨i, k, rfl, hk⟩ : ∃ i k, j = i * 5 + k ∧ k < 5 := ⟨j / 5, j % 5, by omega, by omega⟩
  have hi : i < l.length := by omega
  rw [cellsP_at l i hi k hk] at hu
  obtain ⟨h0, h1, h2, h3, h4⟩ := h i hi
  match k, hk, hu with
  | 0, _, hu => simp [prC] at hu; subst hu; exact h0
  | 1, _, hu => simp [prC] at hu; subst hu; exact h1
  | 2, _, hu => simp [prC] at hu; subst hu; exact h2
  | 3, _, hu => simp [prC] at hu; subst hu; exact h3
  | 4, _, hu => simp [prC] at hu; subst hu; exact h4
theorem OwnP.rd {w : World} {B : Nat} {v : Value} {l : List Pr} (h : OwnP w B v l) : RdP w v l := by
  obtain ⟨hl, h⟩ := h
  rcases h with ⟨rfl, h0⟩ | ⟨g, cap, cur, rfl, hb, hg, hc, hm, hs, ht⟩
  · exact .inl ⟨⟨_, _, rfl⟩, List.length_eq_zero_iff.1 h0⟩
  · refine .inr ⟨g, 0, cap, rfl, hc, fun i hi => ?_⟩
    have key : ∀ j, j < 5 → w.cell? ⟨g, 0 + i * 5 + j, none⟩ = (prC l[i])[j]? := fun j hj => by
      rw [← cellsP_at l i hi j hj, ← ht, List.getElem?_take_of_lt (by omega)]
      simp [World.cell?, hg]
    exact ⟨key 0 (by omega), key 1 (by omega), key 2 (by omega), key 3 (by omega), key 4 (by omega)⟩
theorem OwnP.low {w : World} {B B' : Nat} {v : Value} {l : List Pr} (h : OwnP w B' v l) (hB : B ≤ B') : OwnP w B v l := by
  obtain ⟨hl, h⟩ := h
  refine ⟨hl, ?_⟩
  rcases h with h | ⟨g, cap, cur, hv, hb, h⟩
  · exact .inl h
  · exact .inr ⟨g, cap, cur, hv, by omega, h⟩
theorem OwnP.up {w w' : World} {B : Nat} {v : Value} {l : List Pr} (h : OwnP w B v l) (hb : Below w.heap.size w w') : OwnP w' B v l := by
  obtain ⟨hl, h⟩ := h
  refine ⟨hl, ?_⟩
  rcases h with h | ⟨g, cap, cur, hv, hg, hc, h⟩
  · exact .inl h
  · have hlt : g < w.heap.size := by
      rcases Nat.lt_or_ge g w.heap.size with h1 | h1
      · exact h1
      · rw [Array.getElem?_eq_none h1] at hc; cases hc
    exact .inr ⟨g, cap, cur, hv, hg, by rw [hb.block g hlt]; exact hc, h⟩

theorem appP {o : Oper} {a : Act} {K : Act → World → Prop} {Q : Exit → Act → World → Prop} (s x : Operand)
    (ho : o.op = .call { callee := .builtin .append, args := #[s, x], argTypes := #[24, 24] }) (B : Nat) (v vx : Value) (l l2 : List Pr) (w : World)
    (hs : a.eval s = v) (hown : OwnP w B v l) (hx : a.eval x = vx) (hsrc : RdP w vx l2) (hn : l.length + l2.length ≤ 100000) (hB : B ≤ w.heap.size)
    (h : ∀ v' w', OwnP w' B v' (l ++ l2) → Below B w w' → K (a.put o.dst v') w') : o.wp Tryz.prog a w K Q := by
  obtain ⟨i0, hi, hz0, hz1, hz2⟩ := info_parts info33
  rcases hsrc with ⟨⟨ad, c, rfl⟩, rfl⟩ | ⟨b, off, c, rfl, hc, hsrc⟩
  · have hrun : (Builtin.append_ #[24, 24] o.type #[v, .slice ad 0 c]).run Tryz.prog w = .ok v w := by
      rcases hown.2 with ⟨rfl, _⟩ | ⟨g, cap, cur, rfl, _, _, hnc, _⟩
      · cases ad <;> simp [Builtin.append_, run_underlying Tryz.underlying24, sizeOf, typeInfo, hi, Builtin.lenOf, Builtin.firstCells, loadCells, loadCellsFrom]
      · cases ad <;> simp [Builtin.append_, run_underlying Tryz.underlying24, sizeOf, typeInfo, hi, Builtin.lenOf, Builtin.firstCells, hnc, storeCells, loadCells, loadCellsFrom]
    unfold Oper.wp execOp
    simp only [ho, resolve, invoke, builtin, Sem.run_bind, Sem.run_pure, Result.andThen_ok, List.map_toArray, List.map_cons, List.map_nil, hs, hx, hrun]
    exact h v w (by rw [List.append_nil]; exact hown) (Below.refl _ _)
  · refine wp_append_own _ s x 24 ho B 44 i0 (.agg #[.string ⟨#[]⟩, .int .i64 0, .int .i64 0, .string ⟨#[]⟩, .float .f64 0]) 5 56 Tryz.underlying24 hi hz0 hz1 hz2 rfl (by decide) v l.length (cellsP l) hs hown ⟨b, off, none⟩ l2.length c (cellsP l2) hx (cellsP_len l2) ?_ (cellsP_one l2) (by unfold maxLen; omega) (by omega) hB ?_
    · intro j u hj
      rw [Addr.add_lit]
      exact prAt_cells hsrc j u hj
    · intro v' w' h1 h2 _
      refine h v' w' ?_ ?_
      · unfold OwnP
        rw [List.length_append, cellsP_app]
        exact h1
      · exact (Below.refl B w).grown h2 hB (fun k hk => (World.ownsRow.lt hown k hk).1)

end Go.Proofs.YtmaaacaifpgpaaaGreatDoor
