/- append to rows of the call's own: of items, of what is held, of properties. Conditions: those that each row states. -/
import Derived.Test.YtlbcefocmdnlgaaGreatDoorMm
namespace Go.Proofs.YtlbcefocmdnlgaaGreatDoor
open Go.RowKit Go.Lib
set_option maxRecDepth 100000

theorem wpl_appP {ops : Array Oper} {rest : List Oper} {o : Oper} {a : Act} {Q : Exit → Act → World → Prop} (hgd : o.guard = none) (s x : Operand)
    (ho : o.op = .call { callee := .builtin .append, args := #[s, x], argTypes := #[26, 26] }) (B : Nat) (v vx : Value) (l l2 : List Pr) (w : World)
    (hs : a.eval s = v) (hown : OwnP w B v l) (hx : a.eval x = vx) (hsrc : RdP w vx l2) (hn : l.length + l2.length ≤ 2513169434916) (hB : B ≤ w.heap.size)
    (h : ∀ v' w', OwnP w' B v' (l ++ l2) → w.grownBy w' v.ownBlock → wpList Tryz.prog ops Q rest (a.put o.dst v') w') : wpList Tryz.prog ops Q (o :: rest) a w := by
  refine wpList_plain hgd fun K hK => ?_
  obtain ⟨i0, hi, hz0, hz1, hz2⟩ := info_parts info33
  rcases hsrc with ⟨⟨ad, c, rfl⟩, rfl⟩ | ⟨b, off, c, rfl, hc, hsrc⟩
  · have hrun : (Builtin.append_ #[26, 26] o.type #[v, .slice ad 0 c]).run Tryz.prog w = .ok v w := by
      rcases hown.2 with ⟨rfl, _⟩ | ⟨g, cap, cur, rfl, _, _, hnc, _⟩
      · cases ad <;> simp [Builtin.append_, run_underlying Tryz.underlying26, sizeOf, typeInfo, hi, Builtin.lenOf, Builtin.firstCells, loadCells, loadCellsFrom]
      · cases ad <;> simp [Builtin.append_, run_underlying Tryz.underlying26, sizeOf, typeInfo, hi, Builtin.lenOf, Builtin.firstCells, hnc, storeCells, loadCells, loadCellsFrom]
    unfold Oper.wp execOp
    simp only [ho, resolve, invoke, builtin, Sem.run_bind, Sem.run_pure, Result.andThen_ok, List.map_toArray, List.map_cons, List.map_nil, hs, hx, hrun]
    exact hK _ _ (h v w (by rw [List.append_nil]; exact hown) (World.grownBy.refl _ _))
  · refine wp_append_own _ s x 26 ho B 54 i0 (.agg #[.string ⟨#[]⟩, .int .i64 0, .int .i64 0, .string ⟨#[]⟩, .float .f64 0]) 5 56 Tryz.underlying26 hi hz0 hz1 hz2 rfl (by decide) v l.length (cellsP l) hs hown ⟨b, off, none⟩ l2.length c (cellsP l2) hx (cellsP_len l2) ?_ (cellsP_one l2) (by unfold maxLen; omega) (by omega) hB ?_
    · intro j u hj
      rw [Addr.add_lit]
      exact prAt_cells hsrc j u hj
    · intro v' w' h1 h2 _
      refine hK _ _ (h v' w' ?_ h2)
      unfold OwnP
      rw [List.length_append, cellsP_app]
      exact h1

theorem info43 : (Tryz.prog.info? 43).map (fun i => (i.zero, i.size, i.bytes)) = some (some (.agg #[.int .i64 0, .bool false, .string ⟨#[]⟩, .string ⟨#[]⟩, .slice none 0 0, .bool false, .int .i64 0]), 7, 88) := by kernel_rfl
/-- append of one element to a row of the call's own. -/
theorem wpl_appI {ops : Array Oper} {rest : List Oper} {o : Oper} {a : Act} {Q : Exit → Act → World → Prop} (hgd : o.guard = none) (s x : Operand)
    (ho : o.op = .call { callee := .builtin .append, args := #[s, x], argTypes := #[22, 22] }) (B : Nat) (v : Value) (zs : Zs Itm) (R : List Value → Itm → Prop) (w : World)
    (hs : a.eval s = v) (hown : OwnZ 43 7 R w B v zs) (b c : Nat) (z : List Value × Itm) (hx : a.eval x = .slice (some ⟨b, 0, none⟩) 1 c) (hz : (z.1.length = 7 ∧ ∀ u ∈ z.1, u.oneCell' = true) ∧ R z.1 z.2)
    (hsrc : ∀ j u, z.1[j]? = some u → w.cell? ⟨b, j, none⟩ = some u) (hn : zs.length ≤ 100000) (hB : B ≤ w.heap.size)
    (h : ∀ v' w', OwnZ 43 7 R w' B v' (zs ++ [z]) → w.grownBy w' v.ownBlock → wpList Tryz.prog ops Q rest (a.put o.dst v') w') : wpList Tryz.prog ops Q (o :: rest) a w := by
  obtain ⟨i0, hi, hz0, hz1, hz2⟩ := info_parts info43
  refine wpList_plain hgd fun _ hK => wp_append_own _ s x 22 ho B 43 i0 (.agg #[.int .i64 0, .bool false, .string ⟨#[]⟩, .string ⟨#[]⟩, .slice none 0 0, .bool false, .int .i64 0]) 7 88 Tryz.underlying22 hi hz0 hz1 hz2 rfl (by decide) v zs.length (cellsZ zs) hs hown.1 ⟨b, 0, none⟩ 1 c z.1 hx (by rw [hz.1.1]) ?_ hz.1.2 (by unfold maxLen; omega) (by omega) hB ?_
  · intro j u hj
    rw [Addr.add_lit, Nat.zero_add]
    exact hsrc j u hj
  · intro v' w' h1 h2 _
    refine hK _ _ (h v' w' ⟨?_, ?_⟩ h2)
    · rw [cellsZ_app, List.length_append]
      simpa [cellsZ] using h1
    · intro y hy
      rcases List.mem_append.1 hy with hy | hy
      · exact hown.2 y hy
      · rw [List.mem_singleton.1 hy]
        exact hz

theorem info61 : (Tryz.prog.info? 61).map (fun i => (i.zero, i.size, i.bytes)) = some (some (.agg #[.int .i64 0, .int .i64 0, .int .i64 0, .int .i64 0, .bool false, .string ⟨#[]⟩, .string ⟨#[]⟩, .slice none 0 0, .bool false, .int .i64 0]), 10, 112) := by kernel_rfl
/-- append of one element to a row of the call's own. -/
theorem wpl_appH {ops : Array Oper} {rest : List Oper} {o : Oper} {a : Act} {Q : Exit → Act → World → Prop} (hgd : o.guard = none) (s x : Operand)
    (ho : o.op = .call { callee := .builtin .append, args := #[s, x], argTypes := #[23, 23] }) (B : Nat) (v : Value) (zs : Zs Hld) (R : List Value → Hld → Prop) (w : World)
    (hs : a.eval s = v) (hown : OwnZ 61 10 R w B v zs) (b c : Nat) (z : List Value × Hld) (hx : a.eval x = .slice (some ⟨b, 0, none⟩) 1 c) (hz : (z.1.length = 10 ∧ ∀ u ∈ z.1, u.oneCell' = true) ∧ R z.1 z.2)
    (hsrc : ∀ j u, z.1[j]? = some u → w.cell? ⟨b, j, none⟩ = some u) (hn : zs.length ≤ 100000) (hB : B ≤ w.heap.size)
    (h : ∀ v' w', OwnZ 61 10 R w' B v' (zs ++ [z]) → w.grownBy w' v.ownBlock → wpList Tryz.prog ops Q rest (a.put o.dst v') w') : wpList Tryz.prog ops Q (o :: rest) a w := by
  obtain ⟨i0, hi, hz0, hz1, hz2⟩ := info_parts info61
  refine wpList_plain hgd fun _ hK => wp_append_own _ s x 23 ho B 61 i0 (.agg #[.int .i64 0, .int .i64 0, .int .i64 0, .int .i64 0, .bool false, .string ⟨#[]⟩, .string ⟨#[]⟩, .slice none 0 0, .bool false, .int .i64 0]) 10 112 Tryz.underlying23 hi hz0 hz1 hz2 rfl (by decide) v zs.length (cellsZ zs) hs hown.1 ⟨b, 0, none⟩ 1 c z.1 hx (by rw [hz.1.1]) ?_ hz.1.2 (by unfold maxLen; omega) (by omega) hB ?_
  · intro j u hj
    rw [Addr.add_lit, Nat.zero_add]
    exact hsrc j u hj
  · intro v' w' h1 h2 _
    refine hK _ _ (h v' w' ⟨?_, ?_⟩ h2)
    · rw [cellsZ_app, List.length_append]
      simpa [cellsZ] using h1
    · intro y hy
      rcases List.mem_append.1 hy with hy | hy
      · exact hown.2 y hy
      · rw [List.mem_singleton.1 hy]
        exact hz
end Go.Proofs.YtlbcefocmdnlgaaGreatDoor
