/- Blocks that hold one struct: reading, writing, and what a call leaves of them. -/
import Derived.Test.YtlbcefocmdnlgaaGreatDoorAp
namespace Go.Proofs.YtlbcefocmdnlgaaGreatDoor
open Go.RowKit Go.Lib
set_option maxRecDepth 100000

structure Blk (w : World) (g : Nat) (cs : Array Value) (t : TypeId) : Prop where
  h : w.heap[g]? = some (.cells cs t (0, 0))
theorem Blk.lt {w : World} {g : Nat} {cs : Array Value} {t : TypeId} (h : Blk w g cs t) : g < w.heap.size := (Array.getElem?_eq_some_iff.1 h.h).1
theorem Blk.cell {w : World} {g : Nat} {cs : Array Value} {t : TypeId} (h : Blk w g cs t) (j : Nat) : w.cell? ⟨g, j, none⟩ = cs[j]? := cell_of_row w g j cs t (0, 0) h.h
theorem Blk.frozen {w : World} {g : Nat} {cs : Array Value} {t : TypeId} (h : Blk w g cs t) (j : Nat) : w.frozen? ⟨g, j, none⟩ = false := by
  simp [World.frozen?, h.h]
theorem Blk.new (w : World) (cs : Array Value) (t : TypeId) : Blk (w.alloc (.cells cs t)) w.heap.size cs t := ⟨heap_alloc_new w _⟩
theorem Blk.alloc {w : World} {g : Nat} {cs : Array Value} {t : TypeId} (h : Blk w g cs t) (o : Obj) : Blk (w.alloc o) g cs t := ⟨(Below.heap_alloc w o g h.lt).trans h.h⟩
theorem Blk.below {w w' : World} {g B : Nat} {cs : Array Value} {t : TypeId} (h : Blk w g cs t) (hb : Below B w w') (hg : g < B) : Blk w' g cs t := ⟨(hb.block g hg).trans h.h⟩
theorem Blk.on {w w' : World} {g : Nat} {cs : Array Value} {t : TypeId} (h : Blk w g cs t) (hb : Below w.heap.size w w') : Blk w' g cs t := ⟨(hb.block g h.lt).trans h.h⟩
theorem Blk.grown {w w' : World} {g : Nat} {cs : Array Value} {t : TypeId} {row : Option Nat} (h : Blk w g cs t) (hg : w.grownBy w' row) (hne : some g ≠ row) : Blk w' g cs t := ⟨(hg.block g h.lt hne).trans h.h⟩
theorem Blk.ne_own {w : World} {g B e k n : Nat} {cs : Array Value} {t : TypeId} {v : Value} {xs : List Value} (h : Blk w g cs t) (ho : w.ownsRow B e k v n xs) (hne : t ≠ e) : some g ≠ v.ownBlock := fun e1 => by
  obtain ⟨_, ⟨rfl, _⟩ | ⟨g', cap, cur', rfl, _, hg', _⟩⟩ := ho
  · cases e1
  · simp [Value.ownBlock] at e1
    subst e1
    rw [h.h] at hg'
    injection hg' with e2
    injection e2 with _ e3 _
    exact hne e3
theorem Blk.kt {w w' : World} {g : Nat} {cs : Array Value} {t : TypeId} (h : Blk w g cs t) (hk : Kt t w w') : Blk w' g cs t := ⟨(hk g cs h.h).trans h.h⟩
theorem Blk.set {w : World} {g : Nat} {cs : Array Value} {t : TypeId} (h : Blk w g cs t) (j : Nat) (u : Value) : Blk (w.setCell ⟨g, j, none⟩ u) g (cs.setIfInBounds j u) t := by
  exact ⟨by simp [World.setCell, Array.getElem?_modify, h.h]⟩
theorem Blk.row {w : World} {g : Nat} {cs : Array Value} {t : TypeId} (h : Blk w g cs t) (cs' : Array Value) : Blk (w.setRow g cs') g cs' t := ⟨setRow_heap _ _ _ _ _ _ h.h⟩
theorem kt_setRow {w : World} {g : Nat} {cs : Array Value} {t t' : TypeId} (h : Blk w g cs t) (hne : t' ≠ t) (cs' : Array Value) : Kt t' w (w.setRow g cs') := fun k cur hk => by
  obtain ⟨h⟩ := h
  have hkg : k ≠ g := fun e => by
    subst e
    rw [hk] at h
    injection h with e2
    injection e2 with _ e3 _
    exact hne e3
  simp only [World.setRow, Array.getElem?_modify]
  rw [if_neg (by omega)]
theorem kt_setCell {w : World} {g j : Nat} {cs : Array Value} {t t' : TypeId} (h : Blk w g cs t) (hne : t' ≠ t) (u : Value) : Kt t' w (w.setCell ⟨g, j, none⟩ u) := fun k cur hk => by
  obtain ⟨h⟩ := h
  have hkg : k ≠ g := fun e => by
    subst e
    rw [hk] at h
    injection h with e2
    injection e2 with _ e3 _
    exact hne e3
  exact Below.heap_setCell w ⟨g, j, none⟩ u k hkg
theorem below_setRow {B g : Nat} {w0 w : World} (hb : Below B w0 w) (hBg : B ≤ g) (cs : Array Value) : Below B w0 (w.setRow g cs) :=
  hb.trans ⟨rfl, rfl, rfl, by simp [World.setRow], fun k hk => by
    simp only [World.setRow, Array.getElem?_modify]
    rw [if_neg (by omega)]⟩
theorem Blk.setO {w : World} {g g' j : Nat} {cs : Array Value} {t : TypeId} (h : Blk w g cs t) (hne : g ≠ g') (u : Value) : Blk (w.setCell ⟨g', j, none⟩ u) g cs t := ⟨(Below.heap_setCell w ⟨g', j, none⟩ u g hne).trans h.h⟩
theorem Blk.rowO {w : World} {g g' : Nat} {cs : Array Value} {t : TypeId} (h : Blk w g cs t) (hne : g ≠ g') (cs' : Array Value) : Blk (w.setRow g' cs') g cs t := by
  refine ⟨?_⟩
  simp only [World.setRow, Array.getElem?_modify]
  rw [if_neg (by omega)]
  exact h.h
/-- A struct is read back whole. -/
theorem Blk.c5 {W : World} {g : Nat} {t : TypeId} {a0 a1 a2 a3 a4 : Value} (h : Blk W g #[a0, a1, a2, a3, a4] t) : W.cell? ⟨g, 0, none⟩ = some a0 ∧ W.cell? ⟨g, 1, none⟩ = some a1 ∧ W.cell? ⟨g, 2, none⟩ = some a2 ∧ W.cell? ⟨g, 3, none⟩ = some a3 ∧ W.cell? ⟨g, 4, none⟩ = some a4 :=
  ⟨h.cell 0, h.cell 1, h.cell 2, h.cell 3, h.cell 4⟩
theorem load28 (W : World) (g : Nat) (a0 a1 a2 a3 a4 : Value) (h : Blk W g #[a0, a1, a2, a3, a4] 28) : (loadVar 28 ⟨g, 0, none⟩).run Tryz.prog W = .ok (.agg #[a0, a1, a2, a3, a4]) W := by
  obtain ⟨h0, h1, h2, h3, h4⟩ := h.c5
  clear h
  go_simp
theorem Blk.c7 {W : World} {g : Nat} {t : TypeId} {a0 a1 a2 a3 a4 a5 a6 : Value} (h : Blk W g #[a0, a1, a2, a3, a4, a5, a6] t) : W.cell? ⟨g, 0, none⟩ = some a0 ∧ W.cell? ⟨g, 1, none⟩ = some a1 ∧ W.cell? ⟨g, 2, none⟩ = some a2 ∧ W.cell? ⟨g, 3, none⟩ = some a3 ∧ W.cell? ⟨g, 4, none⟩ = some a4 ∧ W.cell? ⟨g, 5, none⟩ = some a5 ∧ W.cell? ⟨g, 6, none⟩ = some a6 :=
  ⟨h.cell 0, h.cell 1, h.cell 2, h.cell 3, h.cell 4, h.cell 5, h.cell 6⟩
theorem load43 (W : World) (g : Nat) (a0 a1 a2 a3 a4 a5 a6 : Value) (h : Blk W g #[a0, a1, a2, a3, a4, a5, a6] 43) : (loadVar 43 ⟨g, 0, none⟩).run Tryz.prog W = .ok (.agg #[a0, a1, a2, a3, a4, a5, a6]) W := by
  obtain ⟨h0, h1, h2, h3, h4, h5, h6⟩ := h.c7
  clear h
  go_simp
theorem load25 (W : World) (g : Nat) (a0 a1 a2 a3 a4 a5 a6 : Value) (h : Blk W g #[a0, a1, a2, a3, a4, a5, a6] 25) : (loadVar 25 ⟨g, 0, none⟩).run Tryz.prog W = .ok (.agg #[a0, a1, a2, a3, a4, a5, a6]) W := by
  obtain ⟨h0, h1, h2, h3, h4, h5, h6⟩ := h.c7
  clear h
  go_simp
theorem Blk.c10 {W : World} {g : Nat} {t : TypeId} {a0 a1 a2 a3 a4 a5 a6 a7 a8 a9 : Value} (h : Blk W g #[a0, a1, a2, a3, a4, a5, a6, a7, a8, a9] t) : W.cell? ⟨g, 0, none⟩ = some a0 ∧ W.cell? ⟨g, 1, none⟩ = some a1 ∧ W.cell? ⟨g, 2, none⟩ = some a2 ∧ W.cell? ⟨g, 3, none⟩ = some a3 ∧ W.cell? ⟨g, 4, none⟩ = some a4 ∧ W.cell? ⟨g, 5, none⟩ = some a5 ∧ W.cell? ⟨g, 6, none⟩ = some a6 ∧ W.cell? ⟨g, 7, none⟩ = some a7 ∧ W.cell? ⟨g, 8, none⟩ = some a8 ∧ W.cell? ⟨g, 9, none⟩ = some a9 :=
  ⟨h.cell 0, h.cell 1, h.cell 2, h.cell 3, h.cell 4, h.cell 5, h.cell 6, h.cell 7, h.cell 8, h.cell 9⟩
theorem load61 (W : World) (g : Nat) (a0 a1 a2 a3 a4 a5 a6 a7 a8 a9 : Value) (h : Blk W g #[a0, a1, a2, a3, a4, a5, a6, a7, a8, a9] 61) : (loadVar 61 ⟨g, 0, none⟩).run Tryz.prog W = .ok (.agg #[a0, a1, a2, a3, a4, a5, a6, a7, a8, a9]) W := by
  obtain ⟨h0, h1, h2, h3, h4, h5, h6, h7, h8, h9⟩ := h.c10
  clear h
  go_simp

theorem ret43 {fn : Func} {p : Tmp} {tmps : Array Value} {W : World} {g : Nat} {cs : Array Value} {R : Ending → World → Prop} (hf : fn.results = #[.cell p 43]) (h : Blk W g cs 43) (hs : cs.size = 7) (hp : tmps.getD p undef = .pointer (some ⟨g, 0, none⟩)) (hR : R (.returned (.agg cs)) W) :
    bodyPost Tryz.prog fn R .ret { tmps := tmps, defers := [] } W :=
  bodyPost_ret (results_cell_row hf tmps W g 43 cs (0, 0) _ hp h.h Tryz.underlying43 rfl (by rw [hs]; kernel_rfl)) rfl hR
theorem ret25 {fn : Func} {p : Tmp} {tmps : Array Value} {W : World} {g : Nat} {cs : Array Value} {R : Ending → World → Prop} (hf : fn.results = #[.cell p 25]) (h : Blk W g cs 25) (hs : cs.size = 7) (hp : tmps.getD p undef = .pointer (some ⟨g, 0, none⟩)) (hR : R (.returned (.agg cs)) W) :
    bodyPost Tryz.prog fn R .ret { tmps := tmps, defers := [] } W :=
  bodyPost_ret (results_cell_row hf tmps W g 25 cs (0, 0) _ hp h.h Tryz.underlying25 rfl (by rw [hs]; kernel_rfl)) rfl hR
theorem ret25t {fn : Func} {p u : Tmp} {tmps : Array Value} {W : World} {g : Nat} {cs : Array Value} {v : Value} {R : Ending → World → Prop} (hf : fn.results = #[.cell p 25, .tmp u]) (h : Blk W g cs 25) (hs : cs.size = 7) (hp : tmps.getD p undef = .pointer (some ⟨g, 0, none⟩)) (hu : tmps.getD u undef = v)
    (hR : R (.returned (.tuple #[.agg cs, v])) W) : bodyPost Tryz.prog fn R .ret { tmps := tmps, defers := [] } W := by
  refine bodyPost_ret (v := .tuple #[.agg cs, v]) ((results_cell_tmp hf _ _ _).trans ?_) rfl hR
  have e : (asAddr (.pointer (some ⟨g, 0, none⟩))).run Tryz.prog W = .ok ⟨g, 0, none⟩ W := by go_simp
  show ((asAddr (tmps.getD p undef)).run Tryz.prog W).andThen _ = _
  rw [hp, e]
  show ((loadVar 25 ⟨g, 0, none⟩).run Tryz.prog W).andThen _ = _
  rw [run_loadVar_row W g 25 25 cs (0, 0) _ h.h Tryz.underlying25 rfl (by rw [hs]; kernel_rfl)]
  show Result.ok (Value.tuple #[.agg cs, tmps.getD u undef]) W = _
  rw [hu]
theorem ret4 {fn : Func} {p u p2 u2 : Tmp} {tmps : Array Value} {W : World} {g g2 : Nat} {cs cs2 : Array Value} {v v2 : Value} {R : Ending → World → Prop} (hf : fn.results = #[.cell p 25, .tmp u, .cell p2 43, .tmp u2]) (h : Blk W g cs 25) (hs : cs.size = 7) (h2 : Blk W g2 cs2 43) (hs2 : cs2.size = 7)
    (hp : tmps.getD p undef = .pointer (some ⟨g, 0, none⟩)) (hu : tmps.getD u undef = v) (hp2 : tmps.getD p2 undef = .pointer (some ⟨g2, 0, none⟩)) (hu2 : tmps.getD u2 undef = v2)
    (hR : R (.returned (.tuple #[.agg cs, v, .agg cs2, v2])) W) : bodyPost Tryz.prog fn R .ret { tmps := tmps, defers := [] } W := by
  refine bodyPost_ret (v := .tuple #[.agg cs, v, .agg cs2, v2]) ?_ rfl hR
  have e1 := run_loadVar_row (P := Tryz.prog) W g 25 25 cs (0, 0) _ h.h Tryz.underlying25 rfl (by rw [hs]; kernel_rfl)
  have e2 := run_loadVar_row (P := Tryz.prog) W g2 43 43 cs2 (0, 0) _ h2.h Tryz.underlying43 rfl (by rw [hs2]; kernel_rfl)
  have hp' : tmps[p]?.getD undef = .pointer (some ⟨g, 0, none⟩) := by simpa using hp
  have hp2' : tmps[p2]?.getD undef = .pointer (some ⟨g2, 0, none⟩) := by simpa using hp2
  have hu' : tmps[u]?.getD undef = v := by simpa using hu
  have hu2' : tmps[u2]?.getD undef = v2 := by simpa using hu2
  simp [results, hf, hp', hp2', hu', hu2', asAddr, e1, e2]
/-- A whole struct is loaded, stored. -/
theorem wpl_load25 {ops : Array Oper} {rest : List Oper} {o : Oper} {a : Act} {w : World} {Q : Exit → Act → World → Prop} (hgd : o.guard = none) (x : Operand) (ho : o.op = .load 25 x) (g : Nat) (cs : Array Value) (hx : a.eval x = .pointer (some ⟨g, 0, none⟩)) (hg : Blk w g cs 25) (hs : cs.size = 7)
    (h : wpList Tryz.prog ops Q rest (a.put o.dst (.agg cs)) w) : wpList Tryz.prog ops Q (o :: rest) a w :=
  wpList_load_row hgd 25 x ho g hx 25 cs (0, 0) _ hg.h Tryz.underlying25 rfl (by rw [hs]; kernel_rfl) h
theorem wpl_load43 {ops : Array Oper} {rest : List Oper} {o : Oper} {a : Act} {w : World} {Q : Exit → Act → World → Prop} (hgd : o.guard = none) (x : Operand) (ho : o.op = .load 43 x) (g : Nat) (cs : Array Value) (hx : a.eval x = .pointer (some ⟨g, 0, none⟩)) (hg : Blk w g cs 43) (hs : cs.size = 7)
    (h : wpList Tryz.prog ops Q rest (a.put o.dst (.agg cs)) w) : wpList Tryz.prog ops Q (o :: rest) a w :=
  wpList_load_row hgd 43 x ho g hx 43 cs (0, 0) _ hg.h Tryz.underlying43 rfl (by rw [hs]; kernel_rfl) h
theorem wpl_load61 {ops : Array Oper} {rest : List Oper} {o : Oper} {a : Act} {w : World} {Q : Exit → Act → World → Prop} (hgd : o.guard = none) (x : Operand) (ho : o.op = .load 61 x) (g : Nat) (cs : Array Value) (hx : a.eval x = .pointer (some ⟨g, 0, none⟩)) (hg : Blk w g cs 61) (hs : cs.size = 10)
    (h : wpList Tryz.prog ops Q rest (a.put o.dst (.agg cs)) w) : wpList Tryz.prog ops Q (o :: rest) a w :=
  wpList_load_row hgd 61 x ho g hx 61 cs (0, 0) _ hg.h Tryz.underlying61 rfl (by rw [hs]; kernel_rfl) h
theorem wpl_load28 {ops : Array Oper} {rest : List Oper} {o : Oper} {a : Act} {w : World} {Q : Exit → Act → World → Prop} (hgd : o.guard = none) (x : Operand) (ho : o.op = .load 28 x) (g : Nat) (cs : Array Value) (hx : a.eval x = .pointer (some ⟨g, 0, none⟩)) (hg : Blk w g cs 28) (hs : cs.size = 5)
    (h : wpList Tryz.prog ops Q rest (a.put o.dst (.agg cs)) w) : wpList Tryz.prog ops Q (o :: rest) a w :=
  wpList_load_row hgd 28 x ho g hx 28 cs (0, 0) _ hg.h Tryz.underlying28 rfl (by rw [hs]; kernel_rfl) h
theorem wpl_store {ty : TypeId} {ops : Array Oper} {rest : List Oper} {o : Oper} {a : Act} {w : World} {Q : Exit → Act → World → Prop} (hgd : o.guard = none) (x y : Operand) (ho : o.op = .store ty x y)
    (g : Nat) (cells : Array Value) (hx : a.eval x = .pointer (some ⟨g, 0, none⟩)) (hy : a.eval y = .agg cells)
    {t : TypeId} {old : Array Value} (hg : Blk w g old t) (hi : (Tryz.prog.info? ty).map (·.size) = some cells.size)
    (hold : old.size = cells.size) (h1 : cells.all (·.oneCell') = true)
    (h : wpList Tryz.prog ops Q rest (a.put o.dst undef) (w.setRow g cells)) : wpList Tryz.prog ops Q (o :: rest) a w :=
  wpList_store_row hgd ty x y ho g cells hx hy t old hg.h hi hold h1 h
theorem grown_setRow (w : World) (g : Nat) (cs : Array Value) : w.grownBy (w.setRow g cs) (some g) :=
  ⟨rfl, rfl, rfl, by simp [World.setRow], fun k _ hne => by
    simp only [World.setRow, Array.getElem?_modify]
    rw [if_neg (fun e => hne (by rw [e]))]⟩
theorem wpl_put {ty : TypeId} {ops : Array Oper} {rest : List Oper} {o : Oper} {a : Act} {w : World} {Q : Exit → Act → World → Prop} (hgd : o.guard = none) (x y : Operand) (ho : o.op = .store ty x y)
    (g : Nat) (cells : Array Value) (hx : a.eval x = .pointer (some ⟨g, 0, none⟩)) (hy : a.eval y = .agg cells)
    {t : TypeId} {old : Array Value} (hg : Blk w g old t) (hi : (Tryz.prog.info? ty).map (·.size) = some cells.size)
    (hold : old.size = cells.size) (h1 : cells.all (·.oneCell') = true)
    (h : ∀ W', Blk W' g cells t → w.grownBy W' (some g) → W'.heap.size = w.heap.size → wpList Tryz.prog ops Q rest (a.put o.dst undef) W') : wpList Tryz.prog ops Q (o :: rest) a w :=
  wpl_store hgd x y ho g cells hx hy hg hi hold h1 (h _ (hg.row cells) (grown_setRow w g cells) (by simp [World.setRow]))
/-- A struct is stored into a block that was made just before. -/
theorem wpl_fresh {ty : TypeId} {ops : Array Oper} {rest : List Oper} {o : Oper} {a : Act} {w : World} {Q : Exit → Act → World → Prop} (hgd : o.guard = none) (x y : Operand) (ho : o.op = .store ty x y)
    (cells old : Array Value) {t : TypeId} (hx : a.eval x = .pointer (some ⟨w.heap.size, 0, none⟩)) (hy : a.eval y = .agg cells)
    (hi : (Tryz.prog.info? ty).map (·.size) = some cells.size) (hold : old.size = cells.size) (h1 : cells.all (·.oneCell') = true)
    (h : ∀ W', Blk W' w.heap.size cells t → Below w.heap.size w W' → W'.heap.size = w.heap.size + 1 → wpList Tryz.prog ops Q rest (a.put o.dst undef) W') : wpList Tryz.prog ops Q (o :: rest) a (w.alloc (.cells old t)) :=
  wpl_put hgd x y ho w.heap.size cells hx hy (Blk.new w old t) hi hold h1 fun W' h2 h3 h4 => h W' h2 (((Below.refl _ w).alloc (Nat.le_refl _) _).grown h3 (by simp) (fun k hk => by injection hk with hk; omega)) (by rw [h4]; simp)
/-- A struct is stored into a row. -/
theorem wpl_putAt {ty : TypeId} {ops : Array Oper} {rest : List Oper} {o : Oper} {a : Act} {w : World} {Q : Exit → Act → World → Prop} (hgd : o.guard = none) (x y : Operand) (ho : o.op = .store ty x y)
    (g off : Nat) (cells : Array Value) (hx : a.eval x = .pointer (some ⟨g, off, none⟩)) (hy : a.eval y = .agg cells)
    {t : TypeId} {old : Array Value} (hg : Blk w g old t) (hi : (Tryz.prog.info? ty).map (·.size) = some cells.size)
    (hfit : off + cells.size ≤ old.size) (h1 : cells.all (·.oneCell') = true)
    (h : ∀ W', Blk W' g (old.toList.take off ++ cells.toList ++ old.toList.drop (off + cells.size)).toArray t → w.grownBy W' (some g) → W'.heap.size = w.heap.size → wpList Tryz.prog ops Q rest (a.put o.dst undef) W') : wpList Tryz.prog ops Q (o :: rest) a w := by
  refine wpList_plain hgd fun K hK => ?_
  have hst := run_storeCells_at Tryz.prog g off t cells.toList 0 old w hg.h (by simp; omega) (fun v hv => (Array.all_eq_true_iff_forall_mem.1 h1) v (by simpa using hv))
  simp only [Nat.add_zero, Array.length_toList] at hst
  have hrun : (storeVar ty ⟨g, off, none⟩ (.agg cells)).run Tryz.prog w = .ok () (w.setRow g (old.toList.take off ++ cells.toList ++ old.toList.drop (off + cells.size)).toArray) := by
    cases hq : Tryz.prog.info? ty with
    | none => simp [hq] at hi
    | some i =>
      have hs : cells.size = i.size := by simp [hq] at hi; omega
      simp [storeVar, sizeOf, typeInfo, hq, Value.cells, ← hs, hst]
  unfold Oper.wp execOp
  simp only [ho, hx, hy, Instr.storeAt, Instr.sureAddr, Sem.run_bind, Sem.run_pure, Result.andThen_ok, hrun]
  exact hK _ _ (h _ (hg.row _) (grown_setRow w g _) (by simp [World.setRow]))
theorem kt_grown {w w' : World} {g : Nat} {cs : Array Value} {t t' : TypeId} (h : Blk w g cs t) (hg : w.grownBy w' (some g)) (hne : t' ≠ t) : Kt t' w w' := fun k cur hk => by
  refine hg.block k (Array.getElem?_eq_some_iff.1 hk).1 (fun e => ?_)
  injection e with e
  subst e
  have h1 := h.h
  rw [hk] at h1
  injection h1 with e2
  injection e2 with _ e3 _
  exact hne e3
/-- The walk stands still here. -/
theorem wpl_halt {ops : Array Oper} {l : List Oper} {Q : Exit → Act → World → Prop} {a : Act} {w : World} (h : True → wpList Tryz.prog ops Q l a w) : wpList Tryz.prog ops Q l a w := h trivial
/-- One cell is stored. -/
theorem wpl_set {ty : TypeId} {ops : Array Oper} {rest : List Oper} {o : Oper} {a : Act} {w : World} {Q : Exit → Act → World → Prop} (hgd : o.guard = none) (x y : Operand) (ho : o.op = .store ty x y)
    (g j : Nat) (u : Value) (hx : a.eval x = .pointer (some ⟨g, j, none⟩)) (hy : a.eval y = u)
    {t : TypeId} {old : Array Value} (hg : Blk w g old t) (hi : (Tryz.prog.info? ty).map (·.size) = some 1) (hu : u.cells = #[u]) (h1 : u.oneCell' = true) (hj : j < old.size)
    (h : ∀ W', Blk W' g (old.setIfInBounds j u) t → w.grownBy W' (some g) → W'.heap.size = w.heap.size → wpList Tryz.prog ops Q rest (a.put o.dst undef) W') : wpList Tryz.prog ops Q (o :: rest) a w := by
  refine wpList_plain hgd fun K hK => ?_
  have hst := run_storeCells_at Tryz.prog g j t [u] 0 old w hg.h (by simp; omega) (fun v hv => by simp at hv; subst hv; exact h1)
  simp only [Nat.add_zero, List.length_singleton] at hst
  have hrun : (storeVar ty ⟨g, j, none⟩ u).run Tryz.prog w = .ok () (w.setRow g (old.toList.take j ++ [u] ++ old.toList.drop (j + 1)).toArray) := by
    cases hq : Tryz.prog.info? ty with
    | none => simp [hq] at hi
    | some i =>
      have hs : i.size = 1 := by simpa [hq] using hi
      simp [storeVar, sizeOf, typeInfo, hq, hu, hs, hst]
  have e : (old.toList.take j ++ [u] ++ old.toList.drop (j + 1)).toArray = old.setIfInBounds j u := by
    apply Array.ext'
    rw [Array.toList_setIfInBounds]
    simp [List.set_eq_take_append_cons_drop, hj]
  rw [e] at hrun
  unfold Oper.wp execOp
  simp only [ho, hx, hy, Instr.storeAt, Instr.sureAddr, Sem.run_bind, Sem.run_pure, Result.andThen_ok, hrun]
  exact hK _ _ (h _ (hg.row _) (grown_setRow w g _) (by simp [World.setRow]))
end Go.Proofs.YtlbcefocmdnlgaaGreatDoor
