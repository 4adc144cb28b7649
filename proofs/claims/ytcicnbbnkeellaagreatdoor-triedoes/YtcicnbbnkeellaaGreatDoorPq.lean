/- Lists of pairs in memory; append to them. Conditions: those that each row states. -/
import Derived.Test.YtcicnbbnkeellaaGreatDoorTw
import Derived.OwnWalk
import Derived.Deep.AppendLies
import Derived.Laws.AppendOwnNone
namespace Go.Proofs.YtcicnbbnkeellaaGreatDoor
open Go.RowKit

def prC (p : Pr) : List Value := [str p.1, .int .i64 p.2]
def prs (l : List Pr) : List Value := l.flatMap prC
theorem prs_len (l : List Pr) : (prs l).length = l.length * 2 := by
  induction l with
  | nil => rfl
  | cons a l ih => simp [prs, prC] at ih ⊢; omega
theorem prs_app (l m : List Pr) : prs (l ++ m) = prs l ++ prs m := by simp [prs]
theorem prs_at : ∀ (l : List Pr) (i : Nat) (h : i < l.length) (j : Nat), j < 2 → (prs l)[i * 2 + j]? = (prC l[i])[j]?
  | a :: l, 0, _, j, hj => by
    simp only [prs, List.flatMap_cons, List.getElem_cons_zero, Nat.zero_mul, Nat.zero_add]
    rw [List.getElem?_append_left (by simp [prC]; omega)]
  | a :: l, i + 1, h, j, hj => by
    have := prs_at l i (by simpa using h) j hj
    simp only [prs, List.flatMap_cons, List.getElem_cons_succ] at this ⊢
    rw [List.getElem?_append_right (by simp [prC]; omega), ← this]
    congr 1
    simp [prC]
    omega
theorem prs_one (l : List Pr) : ∀ u ∈ prs l, u.oneCell' = true := by
  intro u hu
  simp only [prs, List.mem_flatMap] at hu
  obtain ⟨p, _, hu⟩ := hu
  simp only [prC, List.mem_cons, List.not_mem_nil, or_false] at hu
  rcases hu with rfl | rfl <;> rfl
theorem info41 : (Tryz.prog.info? 41).map (fun i => (i.zero, i.size, i.bytes)) = some (some (.agg #[.string ⟨#[]⟩, .int .i64 0]), 2, 24) := by kernel_rfl
theorem under38 : Tryz.prog.underlying 38 = some (.slice 41) := by kernel_rfl

/-- Pairs that are the call's own, from block B on. -/
def OwnPr (w : World) (B : Nat) (v : Value) (l : List Pr) : Prop := w.ownsRow B 41 2 v l.length (prs l)
/-- Pairs that can be read. -/
def RdPr (w : World) (v : Value) (l : List Pr) : Prop := ((∃ a c, v = .slice a 0 c) ∧ l = []) ∨ ∃ b o c, v = .slice (some ⟨b, o, none⟩) l.length c ∧ l.length ≤ c ∧ ∀ j u, (prs l)[j]? = some u → w.cell? ⟨b, o + j, none⟩ = some u
theorem OwnPr.rd {w : World} {B : Nat} {v : Value} {l : List Pr} (h : OwnPr w B v l) : RdPr w v l := by
  obtain ⟨hl, h⟩ := h
  rcases h with ⟨rfl, h0⟩ | ⟨g, cap, cur, rfl, hb, hg, hc, hm, hs, ht⟩
  · exact .inl ⟨⟨_, _, rfl⟩, List.length_eq_zero_iff.1 h0⟩
  · refine .inr ⟨g, 0, cap, rfl, hc, fun j u hu => ?_⟩
    have hj := (List.getElem?_eq_some_iff.1 hu).1
    rw [prs_len] at hj
    rw [← ht, List.getElem?_take_of_lt (by omega)] at hu
    unfold World.cell?
    rw [hg]
    simpa using hu
theorem OwnPr.low {w : World} {B B' : Nat} {v : Value} {l : List Pr} (h : OwnPr w B' v l) (hB : B ≤ B') : OwnPr w B v l := by
  obtain ⟨hl, h⟩ := h
  refine ⟨hl, ?_⟩
  rcases h with h | ⟨g, cap, cur, hv, hb, h⟩
  · exact .inl h
  · exact .inr ⟨g, cap, cur, hv, by omega, h⟩
theorem OwnPr.up {w w' : World} {B : Nat} {v : Value} {l : List Pr} (h : OwnPr w B v l) (hb : Below w.heap.size w w') : OwnPr w' B v l := by
  obtain ⟨hl, h⟩ := h
  refine ⟨hl, ?_⟩
  rcases h with h | ⟨g, cap, cur, hv, hg, hc, h⟩
  · exact .inl h
  · exact .inr ⟨g, cap, cur, hv, hg, by rw [hb.block g (lt_of_some hc)]; exact hc, h⟩
theorem OwnPr.len {w : World} {B : Nat} {v : Value} {l : List Pr} (h : OwnPr w B v l) : ∃ a c, v = .slice a l.length c := by
  obtain ⟨hl, ⟨rfl, h0⟩ | ⟨g, cap, cur, rfl, _⟩⟩ := h
  · exact ⟨none, 0, by rw [h0]⟩
  · exact ⟨_, _, rfl⟩

theorem wpl_appP {ops : Array Oper} {rest : List Oper} {o : Oper} {a : Act} {Q : Exit → Act → World → Prop} (hgd : o.guard = none) (s x : Operand)
    (ho : o.op = .call { callee := .builtin .append, args := #[s, x], argTypes := #[38, 38] }) (B : Nat) (v vx : Value) (l l2 : List Pr) (w : World)
    (hs : a.eval s = v) (hown : OwnPr w B v l) (hx : a.eval x = vx) (hsrc : RdPr w vx l2) (hn : l.length + l2.length ≤ 100000) (hB : B ≤ w.heap.size)
    (h : ∀ v' w', Hid (OwnPr w' B v' (l ++ l2)) → Hid (Below B w w') → Hid (∀ k, k < w.heap.size → v.ownBlock ≠ some k → w'.heap[k]? = w.heap[k]?) → wpList Tryz.prog ops Q rest (a.put o.dst v') w') :
    wpList Tryz.prog ops Q (o :: rest) a w := by
  obtain ⟨i0, hi, hz0, hz1, hz2⟩ := info_parts info41
  rcases hsrc with ⟨⟨ad, c, rfl⟩, rfl⟩ | ⟨b, of, c, rfl, hc, hsrc⟩
  · cases ad with
    | none =>
      by_cases hc0 : c = 0
      · subst hc0
        refine wpList_append_own_none hgd s x 38 ho B 41 i0 2 under38 hi v l.length (prs l) hs hown hx ?_
        exact h v w (by rw [List.append_nil]; exact hown) (Below.refl _ _) (fun _ _ _ => rfl)
      · have hrun : (Builtin.append_ #[38, 38] o.type #[v, .slice none 0 c]).run Tryz.prog w = .ok v w := by
          rcases hown.2 with ⟨rfl, _⟩ | ⟨g, cap, cur, rfl, _, _, hnc, _⟩
          · simp [Builtin.append_, run_underlying under38, sizeOf, typeInfo, hi, Builtin.lenOf, Builtin.firstCells]
          · simp [Builtin.append_, run_underlying under38, sizeOf, typeInfo, hi, Builtin.lenOf, Builtin.firstCells, hnc, storeCells]
        refine wpList_plain hgd fun K hK => ?_
        unfold Oper.wp execOp
        simp only [ho, resolve, invoke, builtin, Sem.run_bind, Sem.run_pure, Result.andThen_ok, List.map_toArray, List.map_cons, List.map_nil, hs, hx, hrun]
        exact hK _ _ (h v w (by rw [List.append_nil]; exact hown) (Below.refl _ _) (fun _ _ _ => rfl))
    | some ad =>
      refine wpList_append_own _ hgd s x 38 ho B 41 i0 (.agg #[.string ⟨#[]⟩, .int .i64 0]) 2 24 under38 hi hz0 hz1 hz2 rfl (by decide) v l.length (prs l) hs hown ad 0 c [] hx rfl (fun j u hj => by simp at hj) (fun u hu => by cases hu) (by unfold maxLen; omega) (by omega) hB ?_
      intro v' w' h2 h3 _
      refine h v' w' ?_ ((Below.refl B w).grown h3 hB (fun k hk => (World.ownsRow.lt hown k hk).1)) (fun k hk hne => h3.block k hk (fun e => hne e.symm))
      show w'.ownsRow B 41 2 v' (l ++ []).length (prs (l ++ []))
      rw [List.length_append, prs_app]
      exact h2
  · refine wpList_append_own _ hgd s x 38 ho B 41 i0 (.agg #[.string ⟨#[]⟩, .int .i64 0]) 2 24 under38 hi hz0 hz1 hz2 rfl (by decide) v l.length (prs l) hs hown ⟨b, of, none⟩ l2.length c (prs l2) hx (prs_len l2) ?_ (prs_one l2) (by unfold maxLen; omega) (by omega) hB ?_
    · intro j u hj
      rw [Addr.add_lit]
      exact hsrc j u hj
    · intro v' w' h2 h3 _
      refine h v' w' ?_ ((Below.refl B w).grown h3 hB (fun k hk => (World.ownsRow.lt hown k hk).1)) (fun k hk hne => h3.block k hk (fun e => hne e.symm))
      show w'.ownsRow B 41 2 v' (l ++ l2).length (prs (l ++ l2))
      rw [List.length_append, prs_app]
      exact h2
end Go.Proofs.YtcicnbbnkeellaaGreatDoor
