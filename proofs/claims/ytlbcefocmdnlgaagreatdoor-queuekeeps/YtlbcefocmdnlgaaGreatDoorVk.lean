/- A list of items without its first one; append of several items. Conditions: those that each row states. -/
import Derived.Test.YtlbcefocmdnlgaaGreatDoorVf
namespace Go.Proofs.YtlbcefocmdnlgaaGreatDoor
open Go.RowKit Go.Lib
set_option maxRecDepth 100000

theorem wpl_cut1 {ops : Array Oper} {rest : List Oper} {o : Oper} {a : Act} {w : World} {Q : Exit → Act → World → Prop} (hgd : o.guard = none) (x : Operand) (ho : o.op = .slice 22 x (some (.const (.int .i64 1))) none none) (g nz cap : Nat) (hx : a.eval x = .slice (some ⟨g, 0, none⟩) nz cap) (h1 : 1 ≤ nz)
    (h : ∀ ba : Option Addr, (cap ≠ 1 → ba = some ⟨g, 7, none⟩) → wpList Tryz.prog ops Q rest (a.put o.dst (.slice ba (nz - 1) (cap - 1))) w) : wpList Tryz.prog ops Q (o :: rest) a w := by
  refine wpList_plain hgd fun K hK => ?_
  have h1z : (1 : Int) ≤ (nz : Int) := by omega
  have hrun : ∃ ba : Option Addr, (cap ≠ 1 → ba = some ⟨g, 7, none⟩) ∧ (Instr.sliceAt 22 (.slice (some ⟨g, 0, none⟩) nz cap) (some (.int .i64 1)) none none).run Tryz.prog w = .ok (.slice ba (nz - 1) (cap - 1)) w := by
    by_cases hc : cap = 1
    · refine ⟨some ⟨g, 0, none⟩, fun h => absurd hc h, ?_⟩
      go_simp
    · refine ⟨some ⟨g, 7, none⟩, fun _ => rfl, ?_⟩
      go_simp
  obtain ⟨ba, hb, hrun⟩ := hrun
  have e1 : a.eval (.const (.int .i64 1)) = .int .i64 1 := rfl
  unfold Oper.wp execOp
  simp only [ho, hx, Option.map_some, Option.map_none, e1, hrun, Sem.run_bind, Sem.run_pure, Result.andThen_ok]
  exact hK _ _ (h ba hb)
theorem rdz_drop1 {R : List Value → Itm → Prop} {w : World} {g nz cap : Nat} {zs : Zs Itm} (h : RdZ 7 R w (.slice (some ⟨g, 0, none⟩) nz cap) zs) (hn : zs.length = nz) (hc : nz ≤ cap) {ba : Option Addr} (hb : cap ≠ 1 → ba = some ⟨g, 7, none⟩) : RdZ 7 R w (.slice ba (nz - 1) (cap - 1)) (zs.drop 1) := by
  refine ⟨?_, fun z hz => h.2 z (List.mem_of_mem_drop hz)⟩
  by_cases h0 : nz ≤ 1
  · have e : nz - 1 = 0 := by omega
    rw [e]
    exact .inl ⟨⟨_, _, rfl⟩, List.drop_eq_nil_of_le (by omega)⟩
  · have hl : (zs.drop 1).length = nz - 1 := by rw [List.length_drop, hn]
    rw [hb (by omega)]
    refine .inr ⟨g, 7, cap - 1, by rw [hl], by omega, fun j u hu => ?_⟩
    rcases h.1 with ⟨_, rfl⟩ | ⟨b', o', c', e, _, h1⟩
    · simp at hn; omega
    · injection e with e1 e2 e3
      injection e1 with e1
      injection e1 with e1 e4 e5
      subst e1 e4
      have hk : ∀ z ∈ zs, z.1.length = 7 := fun z hz => (h.2 z hz).1.1
      rw [← cellsZ_drop hk 1, List.getElem?_drop] at hu
      have := h1 _ _ hu
      rwa [Nat.zero_add] at this
theorem wpl_appIn {ops : Array Oper} {rest : List Oper} {o : Oper} {a : Act} {Q : Exit → Act → World → Prop} (hgd : o.guard = none) (s x : Operand)
    (ho : o.op = .call { callee := .builtin .append, args := #[s, x], argTypes := #[22, 22] }) (B : Nat) (v vx : Value) (zs zs2 : Zs Itm) (R : List Value → Itm → Prop) (w : World)
    (hs : a.eval s = v) (hown : OwnZ 43 7 R w B v zs) (hx : a.eval x = vx) (hsrc : RdZ 7 R w vx zs2) (hn : zs.length + zs2.length ≤ 100000) (hB : B ≤ w.heap.size)
    (h : ∀ v' w', OwnZ 43 7 R w' B v' (zs ++ zs2) → w.grownBy w' v.ownBlock → wpList Tryz.prog ops Q rest (a.put o.dst v') w') : wpList Tryz.prog ops Q (o :: rest) a w := by
  refine wpList_plain hgd fun K hK => ?_
  obtain ⟨i0, hi, hz0, hz1, hz2⟩ := info_parts info43
  have hall : ∀ y ∈ zs ++ zs2, (y.1.length = 7 ∧ ∀ u ∈ y.1, u.oneCell' = true) ∧ R y.1 y.2 := fun y hy => by
    rcases List.mem_append.1 hy with hy | hy
    · exact hown.2 y hy
    · exact hsrc.2 y hy
  rcases hsrc.1 with ⟨⟨ad, c, rfl⟩, rfl⟩ | ⟨b, off, c, rfl, hc, hcell⟩
  · have hrun : (Builtin.append_ #[22, 22] o.type #[v, .slice ad 0 c]).run Tryz.prog w = .ok v w := by
      rcases hown.1.2 with ⟨rfl, _⟩ | ⟨g, cap, cur, rfl, _, _, hnc, _⟩
      · cases ad <;> simp [Builtin.append_, run_underlying Tryz.underlying22, sizeOf, typeInfo, hi, Builtin.lenOf, Builtin.firstCells, loadCells, loadCellsFrom]
      · cases ad <;> simp [Builtin.append_, run_underlying Tryz.underlying22, sizeOf, typeInfo, hi, Builtin.lenOf, Builtin.firstCells, hnc, storeCells, loadCells, loadCellsFrom]
    unfold Oper.wp execOp
    simp only [ho, resolve, invoke, builtin, Sem.run_bind, Sem.run_pure, Result.andThen_ok, List.map_toArray, List.map_cons, List.map_nil, hs, hx, hrun]
    exact hK _ _ (h v w (by rw [List.append_nil]; exact hown) (World.grownBy.refl _ _))
  · have hk : ∀ z ∈ zs2, z.1.length = 7 := fun z hz => (hsrc.2 z hz).1.1
    refine wp_append_own _ s x 22 ho B 43 i0 (.agg #[.int .i64 0, .bool false, .string ⟨#[]⟩, .string ⟨#[]⟩, .slice none 0 0, .bool false, .int .i64 0]) 7 88 Tryz.underlying22 hi hz0 hz1 hz2 rfl (by decide) v zs.length (cellsZ zs) hs hown.1 ⟨b, off, none⟩ zs2.length c (cellsZ zs2) hx (cellsZ_len hk) ?_ ?_ (by unfold maxLen; omega) (by omega) hB ?_
    · intro j u hj
      rw [Addr.add_lit]
      exact hcell j u hj
    · intro u hu
      simp only [cellsZ, List.mem_flatMap] at hu
      obtain ⟨z, hz, hu⟩ := hu
      exact (hsrc.2 z hz).1.2 u hu
    · intro v' w' h1 h2 _
      refine hK _ _ (h v' w' ⟨?_, hall⟩ h2)
      rw [cellsZ_app, List.length_append]
      exact h1
end Go.Proofs.YtlbcefocmdnlgaaGreatDoor
