/- append to rows of the call's own: of items, of what is held, of properties. Conditions: those that each row states. Blocks that hold one struct: reading, writing, and what a call leaves of them. What the small tests of package queue, and Len, answer. What Message and goodItem answer. Condition: To.Vars, what the library's variables hold. An item, a held one, read out of its slice. Lists of properties by rising names; slices of them. What slices.IndexFunc answers of items and of what is held. Conditions: those that each row states. -/
import Derived.Test.YtlbcefocmdnlgaaGreatDoorZd
import Derived.Test.YtlbcefocmdnlgaaGreatDoorWb
import Derived.Deep.LoopGhost
namespace Go.Proofs.YtlbcefocmdnlgaaGreatDoor
open Go.RowKit Go.Lib
set_option maxRecDepth 100000

theorem wpl_appP {ops : Array Oper} {rest : List Oper} {o : Oper} {a : Act} {Q : Exit → Act → World → Prop} (hgd : o.guard = none) (s x : Operand)
    (ho : o.op = .call { callee := .builtin .append, args := #[s, x], argTypes := #[26, 26] }) (B : Nat) (v vx : Value) (l l2 : List Pr) (w : World)
    (hs : a.eval s = v) (hown : OwnP w B v l) (hx : a.eval x = vx) (hsrc : RdP w vx l2) (hn : l.length + l2.length ≤ 2513169434916) (hB : B ≤ w.heap.size)
    (h : ∀ v' w', OwnP w' B v' (l ++ l2) → w.grownBy w' v.ownBlock → wpList Tryz.prog ops Q rest (a.put o.dst v') w') : wpList Tryz.prog ops Q (o :: rest) a w := by
  refine wpList_plain hgd fun K hK => ?_
  obtain ⟨i0, hi, hz0, hz1, hz2⟩ := info_parts info33
  rcases hsrc with ⟨⟨ad, c, rfl⟩, rfl⟩ | ⟨b, off, c, rfl, hc, hsrc⟩
  · have hrun : (Builtin.append_ #[26, 26] o.type #[v, .slice ad 0 c]).run Tryz.prog w = .ok v w := by
      rcases hown.2 with ⟨rfl, _⟩ | ⟨g, cap, cur, rfl, _, _, hnc, _⟩
      · cases ad <;> simp [Builtin.append_, run_underlying Tryz.underlying26, sizeOf, typeInfo, hi, Builtin.lenOf, Builtin.firstCells, loadCells, loadCellsFrom]
      · cases ad <;> simp [Builtin.append_, run_underlying Tryz.underlying26, sizeOf, typeInfo, hi, Builtin.lenOf, Builtin.firstCells, hnc, storeCells, loadCells, loadCellsFrom]
    unfold Oper.wp execOp
    simp only [ho, resolve, invoke, builtin, Sem.run_bind, Sem.run_pure, Result.andThen_ok, List.map_toArray, List.map_cons, List.map_nil, hs, hx, hrun]
    exact hK _ _ (h v w (by rw [List.append_nil]; exact hown) (World.grownBy.refl _ _))
  · refine wp_append_own _ s x 26 ho B 54 i0 (.agg #[.string ⟨#[]⟩, .int .i64 0, .int .i64 0, .string ⟨#[]⟩, .float .f64 0]) 5 56 Tryz.underlying26 hi hz0 hz1 hz2 rfl (by decide) v l.length (cellsP l) hs hown ⟨b, off, none⟩ l2.length c (cellsP l2) hx (cellsP_len l2) ?_ (cellsP_one l2) (by unfold maxLen; omega) (by omega) hB ?_
    · intro j u hj
      rw [Addr.add_lit]
      exact prAt_cells hsrc j u hj
    · intro v' w' h1 h2 _
      refine hK _ _ (h v' w' ?_ h2)
      unfold OwnP
      rw [List.length_append, cellsP_app]
      exact h1

theorem info43 : (Tryz.prog.info? 43).map (fun i => (i.zero, i.size, i.bytes)) = some (some (.agg #[.int .i64 0, .bool false, .string ⟨#[]⟩, .string ⟨#[]⟩, .slice none 0 0, .bool false, .int .i64 0]), 7, 88) := by kernel_rfl
/-- append of one element to a row of the call's own. -/
theorem wpl_appI {ops : Array Oper} {rest : List Oper} {o : Oper} {a : Act} {Q : Exit → Act → World → Prop} (hgd : o.guard = none) (s x : Operand)
    (ho : o.op = .call { callee := .builtin .append, args := #[s, x], argTypes := #[22, 22] }) (B : Nat) (v : Value) (zs : Zs Itm) (R : List Value → Itm → Prop) (w : World)
    (hs : a.eval s = v) (hown : OwnZ 43 7 R w B v zs) (b c : Nat) (z : List Value × Itm) (hx : a.eval x = .slice (some ⟨b, 0, none⟩) 1 c) (hz : (z.1.length = 7 ∧ ∀ u ∈ z.1, u.oneCell' = true) ∧ R z.1 z.2)
    (hsrc : ∀ j u, z.1[j]? = some u → w.cell? ⟨b, j, none⟩ = some u) (hn : zs.length ≤ 100000) (hB : B ≤ w.heap.size)
    (h : ∀ v' w', OwnZ 43 7 R w' B v' (zs ++ [z]) → w.grownBy w' v.ownBlock → wpList Tryz.prog ops Q rest (a.put o.dst v') w') : wpList Tryz.prog ops Q (o :: rest) a w := by
  obtain ⟨i0, hi, hz0, hz1, hz2⟩ := info_parts info43
  refine wpList_plain hgd fun _ hK => wp_append_own _ s x 22 ho B 43 i0 (.agg #[.int .i64 0, .bool false, .string ⟨#[]⟩, .string ⟨#[]⟩, .slice none 0 0, .bool false, .int .i64 0]) 7 88 Tryz.underlying22 hi hz0 hz1 hz2 rfl (by decide) v zs.length (cellsZ zs) hs hown.1 ⟨b, 0, none⟩ 1 c z.1 hx (by rw [hz.1.1]) ?_ hz.1.2 (by unfold maxLen; omega) (by omega) hB ?_
  · intro j u hj
    rw [Addr.add_lit, Nat.zero_add]
    exact hsrc j u hj
  · intro v' w' h1 h2 _
    refine hK _ _ (h v' w' ⟨?_, ?_⟩ h2)
    · rw [cellsZ_app, List.length_append]
      simpa [cellsZ] using h1
    · intro y hy
      rcases List.mem_append.1 hy with hy | hy
      · exact hown.2 y hy
      · rw [List.mem_singleton.1 hy]
        exact hz

theorem info61 : (Tryz.prog.info? 61).map (fun i => (i.zero, i.size, i.bytes)) = some (some (.agg #[.int .i64 0, .int .i64 0, .int .i64 0, .int .i64 0, .bool false, .string ⟨#[]⟩, .string ⟨#[]⟩, .slice none 0 0, .bool false, .int .i64 0]), 10, 112) := by kernel_rfl
/-- append of one element to a row of the call's own. -/
theorem wpl_appH {ops : Array Oper} {rest : List Oper} {o : Oper} {a : Act} {Q : Exit → Act → World → Prop} (hgd : o.guard = none) (s x : Operand)
    (ho : o.op = .call { callee := .builtin .append, args := #[s, x], argTypes := #[23, 23] }) (B : Nat) (v : Value) (zs : Zs Hld) (R : List Value → Hld → Prop) (w : World)
    (hs : a.eval s = v) (hown : OwnZ 61 10 R w B v zs) (b c : Nat) (z : List Value × Hld) (hx : a.eval x = .slice (some ⟨b, 0, none⟩) 1 c) (hz : (z.1.length = 10 ∧ ∀ u ∈ z.1, u.oneCell' = true) ∧ R z.1 z.2)
    (hsrc : ∀ j u, z.1[j]? = some u → w.cell? ⟨b, j, none⟩ = some u) (hn : zs.length ≤ 100000) (hB : B ≤ w.heap.size)
    (h : ∀ v' w', OwnZ 61 10 R w' B v' (zs ++ [z]) → w.grownBy w' v.ownBlock → wpList Tryz.prog ops Q rest (a.put o.dst v') w') : wpList Tryz.prog ops Q (o :: rest) a w := by
  obtain ⟨i0, hi, hz0, hz1, hz2⟩ := info_parts info61
  refine wpList_plain hgd fun _ hK => wp_append_own _ s x 23 ho B 61 i0 (.agg #[.int .i64 0, .int .i64 0, .int .i64 0, .int .i64 0, .bool false, .string ⟨#[]⟩, .string ⟨#[]⟩, .slice none 0 0, .bool false, .int .i64 0]) 10 112 Tryz.underlying23 hi hz0 hz1 hz2 rfl (by decide) v zs.length (cellsZ zs) hs hown.1 ⟨b, 0, none⟩ 1 c z.1 hx (by rw [hz.1.1]) ?_ hz.1.2 (by unfold maxLen; omega) (by omega) hB ?_
  · intro j u hj
    rw [Addr.add_lit, Nat.zero_add]
    exact hsrc j u hj
  · intro v' w' h1 h2 _
    refine hK _ _ (h v' w' ⟨?_, ?_⟩ h2)
    · rw [cellsZ_app, List.length_append]
      simpa [cellsZ] using h1
    · intro y hy
      rcases List.mem_append.1 hy with hy | hy
      · exact hown.2 y hy
      · rw [List.mem_singleton.1 hy]
        exact hz
end Go.Proofs.YtlbcefocmdnlgaaGreatDoor

namespace Go.Proofs.YtlbcefocmdnlgaaGreatDoor
open Go.RowKit Go.Lib
set_option maxRecDepth 100000

structure Blk (w : World) (g : Nat) (cs : Array Value) (t : TypeId) : Prop where
  h : w.heap[g]? = some (.cells cs t (0, 0))
theorem Blk.lt {w : World} {g : Nat} {cs : Array Value} {t : TypeId} (h : Blk w g cs t) : g < w.heap.size := (Array.getElem?_eq_some_iff.1 h.h).1
theorem Blk.cell {w : World} {g : Nat} {cs : Array Value} {t : TypeId} (h : Blk w g cs t) (j : Nat) : w.cell? ⟨g, j, none⟩ = cs[j]? := cell_of_row w g j cs t (0, 0) h.h
theorem Blk.frozen {w : World} {g : Nat} {cs : Array Value} {t : TypeId} (h : Blk w g cs t) (j : Nat) : w.frozen? ⟨g, j, none⟩ = false := by
  simp [World.frozen?, h.h]
theorem Blk.new (w : World) (cs : Array Value) (t : TypeId) : Blk (w.alloc (.cells cs t)) w.heap.size cs t := ⟨heap_alloc_new w _⟩
theorem Blk.alloc {w : World} {g : Nat} {cs : Array Value} {t : TypeId} (h : Blk w g cs t) (o : Obj) : Blk (w.alloc o) g cs t := ⟨(Below.heap_alloc w o g h.lt).trans h.h⟩
theorem Blk.below {w w' : World} {g B : Nat} {cs : Array Value} {t : TypeId} (h : Blk w g cs t) (hb : Below B w w') (hg : g < B) : Blk w' g cs t := ⟨(hb.block g hg).trans h.h⟩
theorem Blk.on {w w' : World} {g : Nat} {cs : Array Value} {t : TypeId} (h : Blk w g cs t) (hb : Below w.heap.size w w') : Blk w' g cs t := ⟨(hb.block g h.lt).trans h.h⟩
theorem Blk.grown {w w' : World} {g : Nat} {cs : Array Value} {t : TypeId} {row : Option Nat} (h : Blk w g cs t) (hg : w.grownBy w' row) (hne : some g ≠ row) : Blk w' g cs t := ⟨(hg.block g h.lt hne).trans h.h⟩
theorem Blk.ne_own {w : World} {g B e k n : Nat} {cs : Array Value} {t : TypeId} {v : Value} {xs : List Value} (h : Blk w g cs t) (ho : w.ownsRow B e k v n xs) (hne : t ≠ e) : some g ≠ v.ownBlock := fun e1 => by
  obtain ⟨_, ⟨rfl, _⟩ | ⟨g', cap, cur', rfl, _, hg', _⟩⟩ := ho
  · cases e1
  · simp [Value.ownBlock] at e1
    subst e1
    rw [h.h] at hg'
    injection hg' with e2
    injection e2 with _ e3 _
    exact hne e3
theorem Blk.kt {w w' : World} {g : Nat} {cs : Array Value} {t : TypeId} (h : Blk w g cs t) (hk : Kt t w w') : Blk w' g cs t := ⟨(hk g cs h.h).trans h.h⟩
theorem Blk.set {w : World} {g : Nat} {cs : Array Value} {t : TypeId} (h : Blk w g cs t) (j : Nat) (u : Value) : Blk (w.setCell ⟨g, j, none⟩ u) g (cs.setIfInBounds j u) t := by
  exact ⟨by simp [World.setCell, Array.getElem?_modify, h.h]⟩
theorem Blk.row {w : World} {g : Nat} {cs : Array Value} {t : TypeId} (h : Blk w g cs t) (cs' : Array Value) : Blk (w.setRow g cs') g cs' t := ⟨setRow_heap _ _ _ _ _ _ h.h⟩
theorem kt_setRow {w : World} {g : Nat} {cs : Array Value} {t t' : TypeId} (h : Blk w g cs t) (hne : t' ≠ t) (cs' : Array Value) : Kt t' w (w.setRow g cs') := fun k cur hk => by
  obtain ⟨h⟩ := h
  have hkg : k ≠ g := fun e => by
    subst e
    rw [hk] at h
    injection h with e2
    injection e2 with _ e3 _
    exact hne e3
  simp only [World.setRow, Array.getElem?_modify]
  rw [if_neg (by omega)]
theorem kt_setCell {w : World} {g j : Nat} {cs : Array Value} {t t' : TypeId} (h : Blk w g cs t) (hne : t' ≠ t) (u : Value) : Kt t' w (w.setCell ⟨g, j, none⟩ u) := fun k cur hk => by
  obtain ⟨h⟩ := h
  have hkg : k ≠ g := fun e => by
    subst e
    rw [hk] at h
    injection h with e2
    injection e2 with _ e3 _
    exact hne e3
  exact Below.heap_setCell w ⟨g, j, none⟩ u k hkg
theorem below_setRow {B g : Nat} {w0 w : World} (hb : Below B w0 w) (hBg : B ≤ g) (cs : Array Value) : Below B w0 (w.setRow g cs) :=
  hb.trans ⟨rfl, rfl, rfl, by simp [World.setRow], fun k hk => by
    simp only [World.setRow, Array.getElem?_modify]
    rw [if_neg (by omega)]⟩
theorem Blk.setO {w : World} {g g' j : Nat} {cs : Array Value} {t : TypeId} (h : Blk w g cs t) (hne : g ≠ g') (u : Value) : Blk (w.setCell ⟨g', j, none⟩ u) g cs t := ⟨(Below.heap_setCell w ⟨g', j, none⟩ u g hne).trans h.h⟩
theorem Blk.rowO {w : World} {g g' : Nat} {cs : Array Value} {t : TypeId} (h : Blk w g cs t) (hne : g ≠ g') (cs' : Array Value) : Blk (w.setRow g' cs') g cs t := by
  refine ⟨?_⟩
  simp only [World.setRow, Array.getElem?_modify]
  rw [if_neg (by omega)]
  exact h.h
/-- A struct is read back whole. -/
theorem Blk.c5 {W : World} {g : Nat} {t : TypeId} {a0 a1 a2 a3 a4 : Value} (h : Blk W g #[a0, a1, a2, a3, a4] t) : W.cell? ⟨g, 0, none⟩ = some a0 ∧ W.cell? ⟨g, 1, none⟩ = some a1 ∧ W.cell? ⟨g, 2, none⟩ = some a2 ∧ W.cell? ⟨g, 3, none⟩ = some a3 ∧ W.cell? ⟨g, 4, none⟩ = some a4 :=
  ⟨h.cell 0, h.cell 1, h.cell 2, h.cell 3, h.cell 4⟩
theorem load28 (W : World) (g : Nat) (a0 a1 a2 a3 a4 : Value) (h : Blk W g #[a0, a1, a2, a3, a4] 28) : (loadVar 28 ⟨g, 0, none⟩).run Tryz.prog W = .ok (.agg #[a0, a1, a2, a3, a4]) W := by
  obtain ⟨h0, h1, h2, h3, h4⟩ := h.c5
  clear h
  go_simp
theorem Blk.c7 {W : World} {g : Nat} {t : TypeId} {a0 a1 a2 a3 a4 a5 a6 : Value} (h : Blk W g #[a0, a1, a2, a3, a4, a5, a6] t) : W.cell? ⟨g, 0, none⟩ = some a0 ∧ W.cell? ⟨g, 1, none⟩ = some a1 ∧ W.cell? ⟨g, 2, none⟩ = some a2 ∧ W.cell? ⟨g, 3, none⟩ = some a3 ∧ W.cell? ⟨g, 4, none⟩ = some a4 ∧ W.cell? ⟨g, 5, none⟩ = some a5 ∧ W.cell? ⟨g, 6, none⟩ = some a6 :=
  ⟨h.cell 0, h.cell 1, h.cell 2, h.cell 3, h.cell 4, h.cell 5, h.cell 6⟩
theorem load43 (W : World) (g : Nat) (a0 a1 a2 a3 a4 a5 a6 : Value) (h : Blk W g #[a0, a1, a2, a3, a4, a5, a6] 43) : (loadVar 43 ⟨g, 0, none⟩).run Tryz.prog W = .ok (.agg #[a0, a1, a2, a3, a4, a5, a6]) W := by
  obtain ⟨h0, h1, h2, h3, h4, h5, h6⟩ := h.c7
  clear h
  go_simp
theorem load25 (W : World) (g : Nat) (a0 a1 a2 a3 a4 a5 a6 : Value) (h : Blk W g #[a0, a1, a2, a3, a4, a5, a6] 25) : (loadVar 25 ⟨g, 0, none⟩).run Tryz.prog W = .ok (.agg #[a0, a1, a2, a3, a4, a5, a6]) W := by
  obtain ⟨h0, h1, h2, h3, h4, h5, h6⟩ := h.c7
  clear h
  go_simp
theorem Blk.c10 {W : World} {g : Nat} {t : TypeId} {a0 a1 a2 a3 a4 a5 a6 a7 a8 a9 : Value} (h : Blk W g #[a0, a1, a2, a3, a4, a5, a6, a7, a8, a9] t) : W.cell? ⟨g, 0, none⟩ = some a0 ∧ W.cell? ⟨g, 1, none⟩ = some a1 ∧ W.cell? ⟨g, 2, none⟩ = some a2 ∧ W.cell? ⟨g, 3, none⟩ = some a3 ∧ W.cell? ⟨g, 4, none⟩ = some a4 ∧ W.cell? ⟨g, 5, none⟩ = some a5 ∧ W.cell? ⟨g, 6, none⟩ = some a6 ∧ W.cell? ⟨g, 7, none⟩ = some a7 ∧ W.cell? ⟨g, 8, none⟩ = some a8 ∧ W.cell? ⟨g, 9, none⟩ = some a9 :=
  ⟨h.cell 0, h.cell 1, h.cell 2, h.cell 3, h.cell 4, h.cell 5, h.cell 6, h.cell 7, h.cell 8, h.cell 9⟩
theorem load61 (W : World) (g : Nat) (a0 a1 a2 a3 a4 a5 a6 a7 a8 a9 : Value) (h : Blk W g #[a0, a1, a2, a3, a4, a5, a6, a7, a8, a9] 61) : (loadVar 61 ⟨g, 0, none⟩).run Tryz.prog W = .ok (.agg #[a0, a1, a2, a3, a4, a5, a6, a7, a8, a9]) W := by
  obtain ⟨h0, h1, h2, h3, h4, h5, h6, h7, h8, h9⟩ := h.c10
  clear h
  go_simp

theorem ret43 {fn : Func} {p : Tmp} {tmps : Array Value} {W : World} {g : Nat} {cs : Array Value} {R : Ending → World → Prop} (hf : fn.results = #[.cell p 43]) (h : Blk W g cs 43) (hs : cs.size = 7) (hp : tmps.getD p undef = .pointer (some ⟨g, 0, none⟩)) (hR : R (.returned (.agg cs)) W) :
    bodyPost Tryz.prog fn R .ret { tmps := tmps, defers := [] } W :=
  bodyPost_ret (results_cell_row hf tmps W g 43 cs (0, 0) _ hp h.h Tryz.underlying43 rfl (by rw [hs]; kernel_rfl)) rfl hR
theorem ret25 {fn : Func} {p : Tmp} {tmps : Array Value} {W : World} {g : Nat} {cs : Array Value} {R : Ending → World → Prop} (hf : fn.results = #[.cell p 25]) (h : Blk W g cs 25) (hs : cs.size = 7) (hp : tmps.getD p undef = .pointer (some ⟨g, 0, none⟩)) (hR : R (.returned (.agg cs)) W) :
    bodyPost Tryz.prog fn R .ret { tmps := tmps, defers := [] } W :=
  bodyPost_ret (results_cell_row hf tmps W g 25 cs (0, 0) _ hp h.h Tryz.underlying25 rfl (by rw [hs]; kernel_rfl)) rfl hR
theorem ret25t {fn : Func} {p u : Tmp} {tmps : Array Value} {W : World} {g : Nat} {cs : Array Value} {v : Value} {R : Ending → World → Prop} (hf : fn.results = #[.cell p 25, .tmp u]) (h : Blk W g cs 25) (hs : cs.size = 7) (hp : tmps.getD p undef = .pointer (some ⟨g, 0, none⟩)) (hu : tmps.getD u undef = v)
    (hR : R (.returned (.tuple #[.agg cs, v])) W) : bodyPost Tryz.prog fn R .ret { tmps := tmps, defers := [] } W := by
  refine bodyPost_ret (v := .tuple #[.agg cs, v]) ((results_cell_tmp hf _ _ _).trans ?_) rfl hR
  have e : (asAddr (.pointer (some ⟨g, 0, none⟩))).run Tryz.prog W = .ok ⟨g, 0, none⟩ W := by go_simp
  show ((asAddr (tmps.getD p undef)).run Tryz.prog W).andThen _ = _
  rw [hp, e]
  show ((loadVar 25 ⟨g, 0, none⟩).run Tryz.prog W).andThen _ = _
  rw [run_loadVar_row W g 25 25 cs (0, 0) _ h.h Tryz.underlying25 rfl (by rw [hs]; kernel_rfl)]
  show Result.ok (Value.tuple #[.agg cs, tmps.getD u undef]) W = _
  rw [hu]
theorem ret4 {fn : Func} {p u p2 u2 : Tmp} {tmps : Array Value} {W : World} {g g2 : Nat} {cs cs2 : Array Value} {v v2 : Value} {R : Ending → World → Prop} (hf : fn.results = #[.cell p 25, .tmp u, .cell p2 43, .tmp u2]) (h : Blk W g cs 25) (hs : cs.size = 7) (h2 : Blk W g2 cs2 43) (hs2 : cs2.size = 7)
    (hp : tmps.getD p undef = .pointer (some ⟨g, 0, none⟩)) (hu : tmps.getD u undef = v) (hp2 : tmps.getD p2 undef = .pointer (some ⟨g2, 0, none⟩)) (hu2 : tmps.getD u2 undef = v2)
    (hR : R (.returned (.tuple #[.agg cs, v, .agg cs2, v2])) W) : bodyPost Tryz.prog fn R .ret { tmps := tmps, defers := [] } W := by
  refine bodyPost_ret (v := .tuple #[.agg cs, v, .agg cs2, v2]) ?_ rfl hR
  have e1 := run_loadVar_row (P := Tryz.prog) W g 25 25 cs (0, 0) _ h.h Tryz.underlying25 rfl (by rw [hs]; kernel_rfl)
  have e2 := run_loadVar_row (P := Tryz.prog) W g2 43 43 cs2 (0, 0) _ h2.h Tryz.underlying43 rfl (by rw [hs2]; kernel_rfl)
  have hp' : tmps[p]?.getD undef = .pointer (some ⟨g, 0, none⟩) := by simpa using hp
  have hp2' : tmps[p2]?.getD undef = .pointer (some ⟨g2, 0, none⟩) := by simpa using hp2
  have hu' : tmps[u]?.getD undef = v := by simpa using hu
  have hu2' : tmps[u2]?.getD undef = v2 := by simpa using hu2
  simp [results, hf, hp', hp2', hu', hu2', asAddr, e1, e2]
/-- A whole struct is loaded, stored. -/
theorem wpl_load25 {ops : Array Oper} {rest : List Oper} {o : Oper} {a : Act} {w : World} {Q : Exit → Act → World → Prop} (hgd : o.guard = none) (x : Operand) (ho : o.op = .load 25 x) (g : Nat) (cs : Array Value) (hx : a.eval x = .pointer (some ⟨g, 0, none⟩)) (hg : Blk w g cs 25) (hs : cs.size = 7)
    (h : wpList Tryz.prog ops Q rest (a.put o.dst (.agg cs)) w) : wpList Tryz.prog ops Q (o :: rest) a w :=
  wpList_load_row hgd 25 x ho g hx 25 cs (0, 0) _ hg.h Tryz.underlying25 rfl (by rw [hs]; kernel_rfl) h
theorem wpl_load43 {ops : Array Oper} {rest : List Oper} {o : Oper} {a : Act} {w : World} {Q : Exit → Act → World → Prop} (hgd : o.guard = none) (x : Operand) (ho : o.op = .load 43 x) (g : Nat) (cs : Array Value) (hx : a.eval x = .pointer (some ⟨g, 0, none⟩)) (hg : Blk w g cs 43) (hs : cs.size = 7)
    (h : wpList Tryz.prog ops Q rest (a.put o.dst (.agg cs)) w) : wpList Tryz.prog ops Q (o :: rest) a w :=
  wpList_load_row hgd 43 x ho g hx 43 cs (0, 0) _ hg.h Tryz.underlying43 rfl (by rw [hs]; kernel_rfl) h
theorem wpl_load61 {ops : Array Oper} {rest : List Oper} {o : Oper} {a : Act} {w : World} {Q : Exit → Act → World → Prop} (hgd : o.guard = none) (x : Operand) (ho : o.op = .load 61 x) (g : Nat) (cs : Array Value) (hx : a.eval x = .pointer (some ⟨g, 0, none⟩)) (hg : Blk w g cs 61) (hs : cs.size = 10)
    (h : wpList Tryz.prog ops Q rest (a.put o.dst (.agg cs)) w) : wpList Tryz.prog ops Q (o :: rest) a w :=
  wpList_load_row hgd 61 x ho g hx 61 cs (0, 0) _ hg.h Tryz.underlying61 rfl (by rw [hs]; kernel_rfl) h
theorem wpl_load28 {ops : Array Oper} {rest : List Oper} {o : Oper} {a : Act} {w : World} {Q : Exit → Act → World → Prop} (hgd : o.guard = none) (x : Operand) (ho : o.op = .load 28 x) (g : Nat) (cs : Array Value) (hx : a.eval x = .pointer (some ⟨g, 0, none⟩)) (hg : Blk w g cs 28) (hs : cs.size = 5)
    (h : wpList Tryz.prog ops Q rest (a.put o.dst (.agg cs)) w) : wpList Tryz.prog ops Q (o :: rest) a w :=
  wpList_load_row hgd 28 x ho g hx 28 cs (0, 0) _ hg.h Tryz.underlying28 rfl (by rw [hs]; kernel_rfl) h
theorem wpl_store {ty : TypeId} {ops : Array Oper} {rest : List Oper} {o : Oper} {a : Act} {w : World} {Q : Exit → Act → World → Prop} (hgd : o.guard = none) (x y : Operand) (ho : o.op = .store ty x y)
    (g : Nat) (cells : Array Value) (hx : a.eval x = .pointer (some ⟨g, 0, none⟩)) (hy : a.eval y = .agg cells)
    {t : TypeId} {old : Array Value} (hg : Blk w g old t) (hi : (Tryz.prog.info? ty).map (·.size) = some cells.size)
    (hold : old.size = cells.size) (h1 : cells.all (·.oneCell') = true)
    (h : wpList Tryz.prog ops Q rest (a.put o.dst undef) (w.setRow g cells)) : wpList Tryz.prog ops Q (o :: rest) a w :=
  wpList_store_row hgd ty x y ho g cells hx hy t old hg.h hi hold h1 h
theorem grown_setRow (w : World) (g : Nat) (cs : Array Value) : w.grownBy (w.setRow g cs) (some g) :=
  ⟨rfl, rfl, rfl, by simp [World.setRow], fun k _ hne => by
    simp only [World.setRow, Array.getElem?_modify]
    rw [if_neg (fun e => hne (by rw [e]))]⟩
theorem wpl_put {ty : TypeId} {ops : Array Oper} {rest : List Oper} {o : Oper} {a : Act} {w : World} {Q : Exit → Act → World → Prop} (hgd : o.guard = none) (x y : Operand) (ho : o.op = .store ty x y)
    (g : Nat) (cells : Array Value) (hx : a.eval x = .pointer (some ⟨g, 0, none⟩)) (hy : a.eval y = .agg cells)
    {t : TypeId} {old : Array Value} (hg : Blk w g old t) (hi : (Tryz.prog.info? ty).map (·.size) = some cells.size)
    (hold : old.size = cells.size) (h1 : cells.all (·.oneCell') = true)
    (h : ∀ W', Blk W' g cells t → w.grownBy W' (some g) → W'.heap.size = w.heap.size → wpList Tryz.prog ops Q rest (a.put o.dst undef) W') : wpList Tryz.prog ops Q (o :: rest) a w :=
  wpl_store hgd x y ho g cells hx hy hg hi hold h1 (h _ (hg.row cells) (grown_setRow w g cells) (by simp [World.setRow]))
/-- A struct is stored into a block that was made just before. -/
theorem wpl_fresh {ty : TypeId} {ops : Array Oper} {rest : List Oper} {o : Oper} {a : Act} {w : World} {Q : Exit → Act → World → Prop} (hgd : o.guard = none) (x y : Operand) (ho : o.op = .store ty x y)
    (cells old : Array Value) {t : TypeId} (hx : a.eval x = .pointer (some ⟨w.heap.size, 0, none⟩)) (hy : a.eval y = .agg cells)
    (hi : (Tryz.prog.info? ty).map (·.size) = some cells.size) (hold : old.size = cells.size) (h1 : cells.all (·.oneCell') = true)
    (h : ∀ W', Blk W' w.heap.size cells t → Below w.heap.size w W' → W'.heap.size = w.heap.size + 1 → wpList Tryz.prog ops Q rest (a.put o.dst undef) W') : wpList Tryz.prog ops Q (o :: rest) a (w.alloc (.cells old t)) :=
  wpl_put hgd x y ho w.heap.size cells hx hy (Blk.new w old t) hi hold h1 fun W' h2 h3 h4 => h W' h2 (((Below.refl _ w).alloc (Nat.le_refl _) _).grown h3 (by simp) (fun k hk => by injection hk with hk; omega)) (by rw [h4]; simp)
/-- A struct is stored into a row. -/
theorem wpl_putAt {ty : TypeId} {ops : Array Oper} {rest : List Oper} {o : Oper} {a : Act} {w : World} {Q : Exit → Act → World → Prop} (hgd : o.guard = none) (x y : Operand) (ho : o.op = .store ty x y)
    (g off : Nat) (cells : Array Value) (hx : a.eval x = .pointer (some ⟨g, off, none⟩)) (hy : a.eval y = .agg cells)
    {t : TypeId} {old : Array Value} (hg : Blk w g old t) (hi : (Tryz.prog.info? ty).map (·.size) = some cells.size)
    (hfit : off + cells.size ≤ old.size) (h1 : cells.all (·.oneCell') = true)
    (h : ∀ W', Blk W' g (old.toList.take off ++ cells.toList ++ old.toList.drop (off + cells.size)).toArray t → w.grownBy W' (some g) → W'.heap.size = w.heap.size → wpList Tryz.prog ops Q rest (a.put o.dst undef) W') : wpList Tryz.prog ops Q (o :: rest) a w := by
  refine wpList_plain hgd fun K hK => ?_
  have hst := run_storeCells_at Tryz.prog g off t cells.toList 0 old w hg.h (by simp; omega) (fun v hv => (Array.all_eq_true_iff_forall_mem.1 h1) v (by simpa using hv))
  simp only [Nat.add_zero, Array.length_toList] at hst
  have hrun : (storeVar ty ⟨g, off, none⟩ (.agg cells)).run Tryz.prog w = .ok () (w.setRow g (old.toList.take off ++ cells.toList ++ old.toList.drop (off + cells.size)).toArray) := by
    cases hq : Tryz.prog.info? ty with
    | none => simp [hq] at hi
    | some i =>
      have hs : cells.size = i.size := by simp [hq] at hi; omega
      simp [storeVar, sizeOf, typeInfo, hq, Value.cells, ← hs, hst]
  unfold Oper.wp execOp
  simp only [ho, hx, hy, Instr.storeAt, Instr.sureAddr, Sem.run_bind, Sem.run_pure, Result.andThen_ok, hrun]
  exact hK _ _ (h _ (hg.row _) (grown_setRow w g _) (by simp [World.setRow]))
theorem kt_grown {w w' : World} {g : Nat} {cs : Array Value} {t t' : TypeId} (h : Blk w g cs t) (hg : w.grownBy w' (some g)) (hne : t' ≠ t) : Kt t' w w' := fun k cur hk => by
  refine hg.block k (Array.getElem?_eq_some_iff.1 hk).1 (fun e => ?_)
  injection e with e
  subst e
  have h1 := h.h
  rw [hk] at h1
  injection h1 with e2
  injection e2 with _ e3 _
  exact hne e3
/-- The walk stands still here. -/
theorem wpl_halt {ops : Array Oper} {l : List Oper} {Q : Exit → Act → World → Prop} {a : Act} {w : World} (h : True → wpList Tryz.prog ops Q l a w) : wpList Tryz.prog ops Q l a w := h trivial
/-- One cell is stored. -/
theorem wpl_set {ty : TypeId} {ops : Array Oper} {rest : List Oper} {o : Oper} {a : Act} {w : World} {Q : Exit → Act → World → Prop} (hgd : o.guard = none) (x y : Operand) (ho : o.op = .store ty x y)
    (g j : Nat) (u : Value) (hx : a.eval x = .pointer (some ⟨g, j, none⟩)) (hy : a.eval y = u)
    {t : TypeId} {old : Array Value} (hg : Blk w g old t) (hi : (Tryz.prog.info? ty).map (·.size) = some 1) (hu : u.cells = #[u]) (h1 : u.oneCell' = true) (hj : j < old.size)
    (h : ∀ W', Blk W' g (old.setIfInBounds j u) t → w.grownBy W' (some g) → W'.heap.size = w.heap.size → wpList Tryz.prog ops Q rest (a.put o.dst undef) W') : wpList Tryz.prog ops Q (o :: rest) a w := by
  refine wpList_plain hgd fun K hK => ?_
  have hst := run_storeCells_at Tryz.prog g j t [u] 0 old w hg.h (by simp; omega) (fun v hv => by simp at hv; subst hv; exact h1)
  simp only [Nat.add_zero, List.length_singleton] at hst
  have hrun : (storeVar ty ⟨g, j, none⟩ u).run Tryz.prog w = .ok () (w.setRow g (old.toList.take j ++ [u] ++ old.toList.drop (j + 1)).toArray) := by
    cases hq : Tryz.prog.info? ty with
    | none => simp [hq] at hi
    | some i =>
      have hs : i.size = 1 := by simpa [hq] using hi
      simp [storeVar, sizeOf, typeInfo, hq, hu, hs, hst]
  have e : (old.toList.take j ++ [u] ++ old.toList.drop (j + 1)).toArray = old.setIfInBounds j u := by
    apply Array.ext'
    rw [Array.toList_setIfInBounds]
    simp [List.set_eq_take_append_cons_drop, hj]
  rw [e] at hrun
  unfold Oper.wp execOp
  simp only [ho, hx, hy, Instr.storeAt, Instr.sureAddr, Sem.run_bind, Sem.run_pure, Result.andThen_ok, hrun]
  exact hK _ _ (h _ (hg.row _) (grown_setRow w g _) (by simp [World.setRow]))
end Go.Proofs.YtlbcefocmdnlgaaGreatDoor

namespace Go.Proofs.YtlbcefocmdnlgaaGreatDoor
open Go.RowKit Go.Lib
set_option maxRecDepth 100000

theorem num_any (w : World) (n : Int) : Calls Tryz.prog 34 #[.int .i64 n] w fun e w' => e = .returned (.bool (numB n)) ∧ w' = w := by
  unfold numB
  by_cases h1 : (0 : Int) ≤ n <;> by_cases h2 : n ≤ (1099511627776 : Int)
  all_goals
    go_enter Tryz.func34, Tryz.ntmps34
    go_wp2
    go_ret
    exact ⟨ret_b (by simp [h1, h2]), rfl⟩
theorem dep_any (w : World) (n : Int) : Calls Tryz.prog 30 #[.int .i64 n] w fun e w' => e = .returned (.bool (depB n)) ∧ w' = w := by
  unfold depB
  by_cases h1 : (1 : Int) ≤ n <;> by_cases h2 : n ≤ (64 : Int)
  all_goals
    go_enter Tryz.func30, Tryz.ntmps30
    go_wp2
    go_ret
    exact ⟨ret_b (by simp [h1, h2]), rfl⟩
theorem con_any (w : World) (n : Int) : Calls Tryz.prog 49 #[.int .i64 n] w fun e w' => e = .returned (.bool (conB n)) ∧ w' = w := by
  unfold conB
  by_cases h1 : (0 : Int) ≤ n <;> by_cases h2 : n < (8 : Int)
  all_goals
    go_enter Tryz.func49, Tryz.ntmps49
    go_wp2
    go_ret
    exact ⟨ret_b (by simp [h1, h2]), rfl⟩
theorem giv_any (w : World) (n l : Int) : Calls Tryz.prog 66 #[.int .i64 n, .int .i64 l] w fun e w' => e = .returned (.bool (givB n l)) ∧ w' = w := by
  unfold givB
  by_cases h1 : (1 : Int) ≤ n <;> by_cases h2 : n ≤ l
  all_goals
    go_enter Tryz.func66, Tryz.ntmps66
    go_wp2
    go_ret
    exact ⟨ret_b (by simp [h1, h2]), rfl⟩
theorem len_any (w : World) (v : Value) (q : Que) (h : RdQ w v q) (hs : lenQ q ≤ 9223372036854775807) : Calls Tryz.prog 15 #[v] w fun e w' => e = .returned (.int .i64 (lenQ q)) ∧ Below w.heap.size w w' := by
  obtain ⟨iv, hv, rfl, hi, hh⟩ := h
  obtain ⟨ai, ci, rfl⟩ := hi.len
  obtain ⟨ah, ch, rfl⟩ := hh.len
  unfold lenQ at *
  unfold queV
  generalize q.items.length = ni at *
  generalize q.held.length = nh at *
  clear hi hh
  go_enter Tryz.func15, Tryz.ntmps15
  go_wp2
  go_ret
  refine ⟨ret_i ?_, (Below.refl _ w).alloc (Nat.le_refl _) _⟩
  go_num
end Go.Proofs.YtlbcefocmdnlgaaGreatDoor

namespace Go.Proofs.YtlbcefocmdnlgaaGreatDoor
open Go.RowKit Go.Lib
set_option maxRecDepth 100000
set_option linter.unusedSimpArgs false

theorem message_any (w : World) (hv : To.Vars w) (m : Msg) (pv : Value) (h : RdP w pv m.props) :
    Calls Tryz.prog 10 #[.agg (msgV m pv).toArray] w fun e w' => e = .returned (.bool (msgB m)) ∧ Below w.heap.size w w' := by
  obtain ⟨tp, bd, ps, du, ti⟩ := m
  unfold msgV msgB
  dsimp only at *
  have hb1 : Below w.heap.size w (w.alloc (.cells #[tx tp, tx bd, pv, .bool du, .int .i64 ti] 28)) := (Below.refl _ w).alloc (Nat.le_refl _) _
  have hN := Blk.new w #[tx tp, tx bd, pv, .bool du, .int .i64 ti] 28
  have hG := To.good_any _ (hv.below hb1) tp
  have HV : Hid (To.Vars w) := hv
  have HP : Hid (RdP w pv ps) := h
  clear hv h
  go_enter Tryz.func10, Tryz.ntmps10
  go_wp2_with fail
  refine hG.mono ?_
  rintro e w1 ⟨rfl, b1⟩
  have hN1 := hN.on b1
  have b01 := nxt hb1 b1
  clear hN hb1 hG b1
  obtain ⟨c0, c1, c2, c3, c4⟩ := hN1.c5
  cases hg : good tp with
  | false =>
    go_wp2
    go_ret
    exact ⟨ret_b (by simp [hg]), b01⟩
  | true =>
    by_cases hl : (bd.length : Int) ≤ 1024
    · have hl' : bd.length ≤ 1024 := by omega
      have hV := valid7 w1 pv ps (HP.out.on b01)
      go_wp2_with fail
      refine hV.mono ?_
      rintro e w2 ⟨rfl, b2⟩
      have b02 := nxt b01 b2
      obtain ⟨d0, d1, d2, d3, d4⟩ := (hN1.on b2).c5
      have hM := num_any w2 ti
      clear hV c0 c1 c2 c3 c4
      cases hva : validL ps with
      | false =>
        go_wp2
        go_ret
        exact ⟨ret_b (by simp [hva]), b02⟩
      | true =>
        go_wp2_with fail
        refine hM.mono ?_
        rintro e w3 ⟨rfl, rfl⟩
        go_wp2
        go_ret
        exact ⟨ret_b (by simp [hl', hg, hva]), b02⟩
    · have hl' : ¬ bd.length ≤ 1024 := by omega
      go_wp2
      go_ret
      exact ⟨ret_b (by simp [hl']), b01⟩

theorem goodItem_any (w : World) (hv : To.Vars w) (q : Que) (iv hv' : Value) (x : Itm) (pv : Value) (h : RdP w pv x.msg.props) :
    Calls Tryz.prog 63 #[queV q iv hv', .agg (itmV x pv).toArray] w fun e w' => e = .returned (.bool (itmB q.seq x)) ∧ Below w.heap.size w w' := by
  obtain ⟨sq, ag, m⟩ := x
  unfold itmB itmV queV
  dsimp only at *
  have hb1 : Below w.heap.size w ((w.alloc (.cells #[tx q.name, .bool q.dur, .int .i64 q.depth, .int .i64 q.seq, .int .i64 q.tag, iv, hv'] 25)).alloc (.cells #[.int .i64 sq, .bool ag, tx m.topic, tx m.body, pv, .bool m.dur, .int .i64 m.til] 43)) := ((Below.refl _ w).alloc (Nat.le_refl _) _).alloc (by simp) _
  have hG := giv_any ((w.alloc (.cells #[tx q.name, .bool q.dur, .int .i64 q.depth, .int .i64 q.seq, .int .i64 q.tag, iv, hv'] 25)).alloc (.cells #[.int .i64 sq, .bool ag, tx m.topic, tx m.body, pv, .bool m.dur, .int .i64 m.til] 43)) sq q.seq
  have hM := message_any _ (hv.below hb1) m pv (h.on hb1)
  unfold msgV at hM
  clear hv h
  go_enter Tryz.func63, Tryz.ntmps63
  go_wp2_with fail
  refine hG.mono ?_
  rintro e w1 ⟨rfl, rfl⟩
  clear hG
  cases hg : givB sq q.seq with
  | false =>
    go_wp2
    go_ret
    exact ⟨ret_b (by simp [hg]), hb1⟩
  | true =>
    go_wp2_with fail
    refine hM.mono ?_
    rintro e w2 ⟨rfl, b2⟩
    go_wp2
    go_ret
    exact ⟨ret_b (by simp [hg]), nxt hb1 b2⟩
end Go.Proofs.YtlbcefocmdnlgaaGreatDoor

namespace Go.Proofs.YtlbcefocmdnlgaaGreatDoor
open Go.RowKit Go.Lib

theorem itm_at {w W : World} {a : Option Addr} {n c : Nat} {zs : Zs Itm} (h : RdZ 7 (ItR (RdP w)) w (.slice a n c) zs) (hb : Below w.heap.size w W) {i : Nat} (hi : i < zs.length) :
    ∃ b o pv, a = some ⟨b, o, none⟩ ∧ (zs[i]).1 = itmV (zs[i]).2 pv ∧ RdP W pv (zs[i]).2.msg.props ∧ W.cell? ⟨b, o + i * 7, none⟩ = some (.int .i64 (zs[i]).2.seq) ∧ W.cell? ⟨b, o + i * 7 + 1, none⟩ = some (.bool (zs[i]).2.again) ∧ W.cell? ⟨b, o + i * 7 + 2, none⟩ = some (tx (zs[i]).2.msg.topic) ∧ W.cell? ⟨b, o + i * 7 + 3, none⟩ = some (tx (zs[i]).2.msg.body) ∧ W.cell? ⟨b, o + i * 7 + 4, none⟩ = some (pv) ∧ W.cell? ⟨b, o + i * 7 + 5, none⟩ = some (.bool (zs[i]).2.msg.dur) ∧ W.cell? ⟨b, o + i * 7 + 6, none⟩ = some (.int .i64 (zs[i]).2.msg.til) := by
  obtain ⟨b, o, c', e, hc⟩ := h.some (by omega)
  obtain ⟨rfl, _, _⟩ : a = some ⟨b, o, none⟩ ∧ n = zs.length ∧ c = c' := by
    injection e with e1 e2 e3
    exact ⟨e1, e2, e3⟩
  obtain ⟨hk, pv, hv, hp⟩ := h.2 _ (List.getElem_mem hi)
  have h1 := h.cells hi
  have key : ∀ j (hj : j < 7), W.cell? ⟨b, o + i * 7 + j, none⟩ = (itmV (zs[i]).2 pv)[j]? := fun j hj => by
    have e2 : ((zs[i]).1)[j]? = some (((zs[i]).1)[j]'(by rw [hk.1]; exact hj)) := List.getElem?_eq_getElem _
    have h2 := h1 j _ e2
    rw [hb.cell (World.block_lt_of_cell? w _ h2), h2, ← e2, hv]
  exact ⟨b, o, pv, rfl, hv, hp.on hb, key 0 (by omega), key 1 (by omega), key 2 (by omega), key 3 (by omega), key 4 (by omega), key 5 (by omega), key 6 (by omega)⟩

theorem hld_at {w W : World} {a : Option Addr} {n c : Nat} {zs : Zs Hld} (h : RdZ 10 (HeR (RdP w)) w (.slice a n c) zs) (hb : Below w.heap.size w W) {i : Nat} (hi : i < zs.length) :
    ∃ b o pv, a = some ⟨b, o, none⟩ ∧ (zs[i]).1 = hldV (zs[i]).2 pv ∧ RdP W pv (zs[i]).2.itm.msg.props ∧ W.cell? ⟨b, o + i * 10, none⟩ = some (.int .i64 (zs[i]).2.tag) ∧ W.cell? ⟨b, o + i * 10 + 1, none⟩ = some (.int .i64 (zs[i]).2.conn) ∧ W.cell? ⟨b, o + i * 10 + 2, none⟩ = some (.int .i64 (zs[i]).2.sub) ∧ W.cell? ⟨b, o + i * 10 + 3, none⟩ = some (.int .i64 (zs[i]).2.itm.seq) ∧ W.cell? ⟨b, o + i * 10 + 4, none⟩ = some (.bool (zs[i]).2.itm.again) ∧ W.cell? ⟨b, o + i * 10 + 5, none⟩ = some (tx (zs[i]).2.itm.msg.topic) ∧ W.cell? ⟨b, o + i * 10 + 6, none⟩ = some (tx (zs[i]).2.itm.msg.body) ∧ W.cell? ⟨b, o + i * 10 + 7, none⟩ = some (pv) ∧ W.cell? ⟨b, o + i * 10 + 8, none⟩ = some (.bool (zs[i]).2.itm.msg.dur) ∧ W.cell? ⟨b, o + i * 10 + 9, none⟩ = some (.int .i64 (zs[i]).2.itm.msg.til) := by
  obtain ⟨b, o, c', e, hc⟩ := h.some (by omega)
  obtain ⟨rfl, _, _⟩ : a = some ⟨b, o, none⟩ ∧ n = zs.length ∧ c = c' := by
    injection e with e1 e2 e3
    exact ⟨e1, e2, e3⟩
  obtain ⟨hk, pv, hv, hp⟩ := h.2 _ (List.getElem_mem hi)
  have h1 := h.cells hi
  have key : ∀ j (hj : j < 10), W.cell? ⟨b, o + i * 10 + j, none⟩ = (hldV (zs[i]).2 pv)[j]? := fun j hj => by
    have e2 : ((zs[i]).1)[j]? = some (((zs[i]).1)[j]'(by rw [hk.1]; exact hj)) := List.getElem?_eq_getElem _
    have h2 := h1 j _ e2
    rw [hb.cell (World.block_lt_of_cell? w _ h2), h2, ← e2, hv]
  exact ⟨b, o, pv, rfl, hv, hp.on hb, key 0 (by omega), key 1 (by omega), key 2 (by omega), key 3 (by omega), key 4 (by omega), key 5 (by omega), key 6 (by omega), key 7 (by omega), key 8 (by omega), key 9 (by omega)⟩
end Go.Proofs.YtlbcefocmdnlgaaGreatDoor

namespace Go.Proofs.YtlbcefocmdnlgaaGreatDoor
open Go.RowKit Go.Lib Ieee

theorem rising_next : ∀ (l : List Pr), rising l = true → ∀ i (h : i + 1 < l.length), Op.bytesLess (l[i]'(by omega)).name.toList l[i + 1].name.toList = true
  | a :: b :: l, h, 0, _ => by simp [rising] at h; simpa using h.1
  | a :: b :: l, h, i + 1, hi => by
    simp only [rising, Bool.and_eq_true] at h
    exact rising_next (b :: l) h.2 i (by simpa using hi)
  | [_], _, i, h => by simp at h
  | [], _, i, h => by simp at h
theorem rising_lt (l : List Pr) (hr : rising l = true) (i : Nat) : ∀ j (hj : j < l.length) (hij : i < j), Op.bytesLess (l[i]'(by omega)).name.toList l[j].name.toList = true
  | j + 1, hj, hij => by
    by_cases e : i = j
    · subst e; exact rising_next l hr i hj
    · exact bl_trans _ _ _ (rising_lt l hr i j (by omega) (by omega)) (rising_next l hr j hj)
def ltP (a b : Pr) : Prop := Op.bytesLess a.name.toList b.name.toList = true
theorem ltP_trans {a b c : Pr} (h : ltP a b) (h' : ltP b c) : ltP a c := bl_trans _ _ _ h h'
theorem pairs_of : ∀ (l : List Pr), rising l = true → l.Pairwise ltP
  | [], _ => List.Pairwise.nil
  | [a], _ => by simp
  | a :: b :: l, h => by
    simp only [rising, Bool.and_eq_true] at h
    have ih := pairs_of (b :: l) h.2
    refine List.Pairwise.cons ?_ ih
    intro c hc
    rcases List.mem_cons.1 hc with rfl | hc
    · exact h.1
    · exact ltP_trans (a := a) (b := b) h.1 ((List.pairwise_cons.1 ih).1 c hc)
theorem rising_of : ∀ (l : List Pr), l.Pairwise ltP → rising l = true
  | [], _ => rfl
  | [a], _ => rfl
  | a :: b :: l, h => by
    have h2 := List.pairwise_cons.1 h
    simp only [rising, Bool.and_eq_true]
    exact ⟨h2.1 b (by simp), rising_of (b :: l) h2.2⟩
theorem valid_parts {l : List Pr} (h : validL l = true) : l.length ≤ 16 ∧ (∀ q ∈ l, canB q = true) ∧ rising l = true := by
  unfold validL at h
  simp only [Bool.and_eq_true, decide_eq_true_eq, List.all_eq_true] at h
  exact ⟨h.1, h.2.1, h.2.2⟩
theorem RdP.shape {w : World} {v : Value} {l : List Pr} (h : RdP w v l) : ∃ a c, v = .slice a l.length c := by
  rcases h with ⟨⟨a, c, rfl⟩, rfl⟩ | ⟨b, o, c, rfl, _, _⟩
  · exact ⟨a, c, rfl⟩
  · exact ⟨_, c, rfl⟩
theorem box_on {w w' : World} {q : Nat} {j : Nat} {v : Value} (h : w.cell? ⟨q, j, none⟩ = some v) (hb : Below w.heap.size w w') : w'.cell? ⟨q, j, none⟩ = some v := by
  rw [hb.cell (World.block_lt_of_cell? w _ h)]; exact h
theorem RdP.some {w : World} {v : Value} {l : List Pr} (h : RdP w v l) (h0 : l ≠ []) : ∃ (b o c : Nat), v = .slice (some ⟨b, o, none⟩) l.length c ∧ l.length ≤ c ∧ ∀ i (h : i < l.length), PrAt w b (o + i * 5) l[i] := by
  rcases h with ⟨_, h⟩ | h
  · exact absurd h h0
  · exact h
theorem toList_inj {s t : ByteArray} (h : s.toList = t.toList) : s = t := by
  rw [ByteArray.toList_eq, ByteArray.toList_eq] at h
  exact ByteArray.ext (Array.ext' h)
theorem sameV_eq (a b : Val) : sameV a b = true ↔ a = b := by
  obtain ⟨k, n, t, r⟩ := a
  obtain ⟨k', n', t', r'⟩ := b
  simp only [sameV, Bool.and_eq_true, beq_iff_eq, Val.mk.injEq, Int.natCast_inj]
  constructor
  · rintro ⟨h1, h2, h3, h4⟩
    exact ⟨h1, h2, toList_inj h3, h4⟩
  · rintro ⟨h1, h2, rfl, h4⟩
    exact ⟨h1, h2, rfl, h4⟩
end Go.Proofs.YtlbcefocmdnlgaaGreatDoor

namespace Go.Proofs.YtlbcefocmdnlgaaGreatDoor
open Go.RowKit Go.Lib
set_option maxRecDepth 100000

theorem itm_at0 {w W : World} {a : Option Addr} {n c : Nat} {zs : Zs Itm} (h : RdZ 7 (ItR (RdP w)) w (.slice a n c) zs) (hb : Below w.heap.size w W) {i : Nat} (hi : i < zs.length) :
    ∃ b o pv, a = some ⟨b, o, none⟩ ∧ (zs[i]).1 = itmV (zs[i]).2 pv ∧ RdP w pv (zs[i]).2.msg.props ∧ W.cell? ⟨b, o + i * 7, none⟩ = some (.int .i64 (zs[i]).2.seq) ∧ W.cell? ⟨b, o + i * 7 + 1, none⟩ = some (.bool (zs[i]).2.again) ∧ W.cell? ⟨b, o + i * 7 + 2, none⟩ = some (tx (zs[i]).2.msg.topic) ∧ W.cell? ⟨b, o + i * 7 + 3, none⟩ = some (tx (zs[i]).2.msg.body) ∧ W.cell? ⟨b, o + i * 7 + 4, none⟩ = some (pv) ∧ W.cell? ⟨b, o + i * 7 + 5, none⟩ = some (.bool (zs[i]).2.msg.dur) ∧ W.cell? ⟨b, o + i * 7 + 6, none⟩ = some (.int .i64 (zs[i]).2.msg.til) := by
  obtain ⟨b, o, c', e, hc⟩ := h.some (by omega)
  obtain ⟨rfl, _, _⟩ : a = some ⟨b, o, none⟩ ∧ n = zs.length ∧ c = c' := by
    injection e with e1 e2 e3
    exact ⟨e1, e2, e3⟩
  obtain ⟨hk, pv, hv, hp⟩ := h.2 _ (List.getElem_mem hi)
  have h1 := h.cells hi
  have key : ∀ j (hj : j < 7), W.cell? ⟨b, o + i * 7 + j, none⟩ = (itmV (zs[i]).2 pv)[j]? := fun j hj => by
    have e2 : ((zs[i]).1)[j]? = some (((zs[i]).1)[j]'(by rw [hk.1]; exact hj)) := List.getElem?_eq_getElem _
    have h2 := h1 j _ e2
    rw [hb.cell (World.block_lt_of_cell? w _ h2), h2, ← e2, hv]
  exact ⟨b, o, pv, rfl, hv, hp, key 0 (by omega), key 1 (by omega), key 2 (by omega), key 3 (by omega), key 4 (by omega), key 5 (by omega), key 6 (by omega)⟩

theorem hld_at0 {w W : World} {a : Option Addr} {n c : Nat} {zs : Zs Hld} (h : RdZ 10 (HeR (RdP w)) w (.slice a n c) zs) (hb : Below w.heap.size w W) {i : Nat} (hi : i < zs.length) :
    ∃ b o pv, a = some ⟨b, o, none⟩ ∧ (zs[i]).1 = hldV (zs[i]).2 pv ∧ RdP w pv (zs[i]).2.itm.msg.props ∧ W.cell? ⟨b, o + i * 10, none⟩ = some (.int .i64 (zs[i]).2.tag) ∧ W.cell? ⟨b, o + i * 10 + 1, none⟩ = some (.int .i64 (zs[i]).2.conn) ∧ W.cell? ⟨b, o + i * 10 + 2, none⟩ = some (.int .i64 (zs[i]).2.sub) ∧ W.cell? ⟨b, o + i * 10 + 3, none⟩ = some (.int .i64 (zs[i]).2.itm.seq) ∧ W.cell? ⟨b, o + i * 10 + 4, none⟩ = some (.bool (zs[i]).2.itm.again) ∧ W.cell? ⟨b, o + i * 10 + 5, none⟩ = some (tx (zs[i]).2.itm.msg.topic) ∧ W.cell? ⟨b, o + i * 10 + 6, none⟩ = some (tx (zs[i]).2.itm.msg.body) ∧ W.cell? ⟨b, o + i * 10 + 7, none⟩ = some (pv) ∧ W.cell? ⟨b, o + i * 10 + 8, none⟩ = some (.bool (zs[i]).2.itm.msg.dur) ∧ W.cell? ⟨b, o + i * 10 + 9, none⟩ = some (.int .i64 (zs[i]).2.itm.msg.til) := by
  obtain ⟨b, o, c', e, hc⟩ := h.some (by omega)
  obtain ⟨rfl, _, _⟩ : a = some ⟨b, o, none⟩ ∧ n = zs.length ∧ c = c' := by
    injection e with e1 e2 e3
    exact ⟨e1, e2, e3⟩
  obtain ⟨hk, pv, hv, hp⟩ := h.2 _ (List.getElem_mem hi)
  have h1 := h.cells hi
  have key : ∀ j (hj : j < 10), W.cell? ⟨b, o + i * 10 + j, none⟩ = (hldV (zs[i]).2 pv)[j]? := fun j hj => by
    have e2 : ((zs[i]).1)[j]? = some (((zs[i]).1)[j]'(by rw [hk.1]; exact hj)) := List.getElem?_eq_getElem _
    have h2 := h1 j _ e2
    rw [hb.cell (World.block_lt_of_cell? w _ h2), h2, ← e2, hv]
  exact ⟨b, o, pv, rfl, hv, hp, key 0 (by omega), key 1 (by omega), key 2 (by omega), key 3 (by omega), key 4 (by omega), key 5 (by omega), key 6 (by omega), key 7 (by omega), key 8 (by omega), key 9 (by omega)⟩
/-- slices.IndexFunc of items, with a function that may change memory of its own: Inv tells what stands behind so many calls. -/
theorem indexI_any (w0 w : World) (a : Option Addr) (n c : Nat) (zs : Zs Itm) (h : RdZ 7 (ItR (RdP w0)) w0 (.slice a n c) zs) (hn : zs.length = n) (hbig : n ≤ 1000000) (g : Nat) (lb : Array Value) (eg : ∀ args w, (callFunc g args).run Tryz.prog w = .ok (.enter g args) w)
    (p : Nat → Bool) (Inv : Nat → World → Prop) (hI : ∀ i W, Inv i W → Below w0.heap.size w0 W) (h0 : Inv 0 w)
    (hcall : ∀ i (hi : i < zs.length) pv W, Inv i W → RdP w0 pv (zs[i]).2.msg.props → Calls Tryz.prog g (#[.agg (itmV (zs[i]).2 pv).toArray] ++ lb) W fun e W' => e = .returned (.bool (p i)) ∧ Inv (i + 1) W') :
    Calls Tryz.prog 86 #[.slice a n c, .func (.func g) #[] lb] w fun e w' => (∃ k, k < n ∧ e = .returned (.int .i64 (k : Nat)) ∧ p k = true ∧ (∀ j, j < k → p j = false) ∧ Inv (k + 1) w') ∨ (e = .returned (.int .i64 (-1)) ∧ (∀ j, j < n → p j = false) ∧ Inv n w') := by
  have HI : Hid (RdZ 7 (ItR (RdP w0)) w0 (.slice a n c) zs) := h
  have NI : Hid (zs.length = n) := hn
  have HC : Hid (∀ i (hi : i < zs.length) pv W, Inv i W → RdP w0 pv (zs[i]).2.msg.props → Calls Tryz.prog g (#[.agg (itmV (zs[i]).2 pv).toArray] ++ lb) W fun e W' => e = .returned (.bool (p i)) ∧ Inv (i + 1) W') := hcall
  have H0 : Hid (Inv 0 w) := h0
  have HB : Hid (∀ i W, Inv i W → Below w0.heap.size w0 W) := hI
  clear h hn hcall h0 hI
  go_enter Tryz.func86, Tryz.ntmps86
  go_wp2_with fail
  go_loopg [5, 8] n (fun gg _ s8 wr => ∃ kk : Nat, kk ≤ n ∧ n - kk ≤ gg ∧ s8 = .int .i64 kk ∧ Hid (Inv kk wr) ∧ Hid (∀ j, j < kk → p j = false))
  case atStart => exact ⟨0, Nat.zero_le _, by omega, rfl, H0.out, fun j hj => absurd hj (Nat.not_lt_zero _)⟩
  case round =>
    obtain ⟨kk, hkk, hg, rfl, HS, A⟩ := hrel
    clear H0
    by_cases hlt : kk < n
    · have hltz : (kk : Int) < (n : Int) := by omega
      obtain ⟨b, o, pv, rfl, hz1, hp, c0, c1, c2, c3, c4, c5, c6⟩ := itm_at0 HI.out (HB.out _ _ HS.out) (i := kk) (by rw [NI.out]; exact hlt)
      have hcl := HC.out kk (by rw [NI.out]; exact hlt) pv wr HS.out hp
      generalize (zs[kk]'(by rw [NI.out]; exact hlt)).2 = x at *
      obtain ⟨pa, pc, rfl⟩ := hp.shape
      generalize x.msg.props.length = pn at *
      clear hz1 hp
      unfold itmV at hcl
      cases hq : p kk with
      | true =>
        go_wp2_with fail
        refine hcl.mono ?_
        rintro e w' ⟨rfl, hin⟩
        rw [hq]
        clear hcl c0 c1 c2 c3 c4 c5 c6
        go_wp2
        go_ret
        exact .inl ⟨kk, hlt, rfl, hq, A.out, hin⟩
      | false =>
        go_wp2_with fail
        refine hcl.mono ?_
        rintro e w' ⟨rfl, hin⟩
        rw [hq]
        have HN : Hid (Inv (kk + 1) w') := hin
        clear hcl hin c0 c1 c2 c3 c4 c5 c6
        go_wp2
        go_roundg (n - (kk + 1))
        case measure => omega
        case rel =>
          refine ⟨kk + 1, by omega, by omega, by go_num, HN.out, (show Hid _ from fun j hj => ?_)⟩
          by_cases e : j = kk
          · subst e
            exact hq
          · exact A.out j (by omega)
    · have hltz : ¬ (kk : Int) < (n : Int) := by omega
      have : kk = n := by omega
      subst this
      go_wp2
      go_ret
      exact .inr ⟨rfl, A.out, HS.out⟩
/-- slices.IndexFunc of what is held, with a function that may change memory of its own: Inv tells what stands behind so many calls. -/
theorem indexH_any (w0 w : World) (a : Option Addr) (n c : Nat) (zs : Zs Hld) (h : RdZ 10 (HeR (RdP w0)) w0 (.slice a n c) zs) (hn : zs.length = n) (hbig : n ≤ 1000000) (g : Nat) (lb : Array Value) (eg : ∀ args w, (callFunc g args).run Tryz.prog w = .ok (.enter g args) w)
    (p : Nat → Bool) (Inv : Nat → World → Prop) (hI : ∀ i W, Inv i W → Below w0.heap.size w0 W) (h0 : Inv 0 w)
    (hcall : ∀ i (hi : i < zs.length) pv W, Inv i W → RdP w0 pv (zs[i]).2.itm.msg.props → Calls Tryz.prog g (#[.agg (hldV (zs[i]).2 pv).toArray] ++ lb) W fun e W' => e = .returned (.bool (p i)) ∧ Inv (i + 1) W') :
    Calls Tryz.prog 51 #[.slice a n c, .func (.func g) #[] lb] w fun e w' => (∃ k, k < n ∧ e = .returned (.int .i64 (k : Nat)) ∧ p k = true ∧ (∀ j, j < k → p j = false) ∧ Inv (k + 1) w') ∨ (e = .returned (.int .i64 (-1)) ∧ (∀ j, j < n → p j = false) ∧ Inv n w') := by
  have HI : Hid (RdZ 10 (HeR (RdP w0)) w0 (.slice a n c) zs) := h
  have NI : Hid (zs.length = n) := hn
  have HC : Hid (∀ i (hi : i < zs.length) pv W, Inv i W → RdP w0 pv (zs[i]).2.itm.msg.props → Calls Tryz.prog g (#[.agg (hldV (zs[i]).2 pv).toArray] ++ lb) W fun e W' => e = .returned (.bool (p i)) ∧ Inv (i + 1) W') := hcall
  have H0 : Hid (Inv 0 w) := h0
  have HB : Hid (∀ i W, Inv i W → Below w0.heap.size w0 W) := hI
  clear h hn hcall h0 hI
  go_enter Tryz.func51, Tryz.ntmps51
  go_wp2_with fail
  go_loopg [5, 8] n (fun gg _ s8 wr => ∃ kk : Nat, kk ≤ n ∧ n - kk ≤ gg ∧ s8 = .int .i64 kk ∧ Hid (Inv kk wr) ∧ Hid (∀ j, j < kk → p j = false))
  case atStart => exact ⟨0, Nat.zero_le _, by omega, rfl, H0.out, fun j hj => absurd hj (Nat.not_lt_zero _)⟩
  case round =>
    obtain ⟨kk, hkk, hg, rfl, HS, A⟩ := hrel
    clear H0
    by_cases hlt : kk < n
    · have hltz : (kk : Int) < (n : Int) := by omega
      obtain ⟨b, o, pv, rfl, hz1, hp, c0, c1, c2, c3, c4, c5, c6, c7, c8, c9⟩ := hld_at0 HI.out (HB.out _ _ HS.out) (i := kk) (by rw [NI.out]; exact hlt)
      have hcl := HC.out kk (by rw [NI.out]; exact hlt) pv wr HS.out hp
      generalize (zs[kk]'(by rw [NI.out]; exact hlt)).2 = x at *
      obtain ⟨pa, pc, rfl⟩ := hp.shape
      generalize x.itm.msg.props.length = pn at *
      clear hz1 hp
      unfold hldV at hcl
      cases hq : p kk with
      | true =>
        go_wp2_with fail
        refine hcl.mono ?_
        rintro e w' ⟨rfl, hin⟩
        rw [hq]
        clear hcl c0 c1 c2 c3 c4 c5 c6 c7 c8 c9
        go_wp2
        go_ret
        exact .inl ⟨kk, hlt, rfl, hq, A.out, hin⟩
      | false =>
        go_wp2_with fail
        refine hcl.mono ?_
        rintro e w' ⟨rfl, hin⟩
        rw [hq]
        have HN : Hid (Inv (kk + 1) w') := hin
        clear hcl hin c0 c1 c2 c3 c4 c5 c6 c7 c8 c9
        go_wp2
        go_roundg (n - (kk + 1))
        case measure => omega
        case rel =>
          refine ⟨kk + 1, by omega, by omega, by go_num, HN.out, (show Hid _ from fun j hj => ?_)⟩
          by_cases e : j = kk
          · subst e
            exact hq
          · exact A.out j (by omega)
    · have hltz : ¬ (kk : Int) < (n : Int) := by omega
      have : kk = n := by omega
      subst this
      go_wp2
      go_ret
      exact .inr ⟨rfl, A.out, HS.out⟩
end Go.Proofs.YtlbcefocmdnlgaaGreatDoor
