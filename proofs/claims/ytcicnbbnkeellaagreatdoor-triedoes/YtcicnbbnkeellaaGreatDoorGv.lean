/- Rows of values of one cell each: what can be read, what is a call's own; append to them. Conditions: those that each row states. -/
import Derived.Test.YtcicnbbnkeellaaGreatDoorProg
import Derived.WalkKit
import Derived.WalkLawsBesides
import Derived.Below
import Derived.Deep.AppendLies
import Derived.Laws.AppendOwnNone
namespace Go.Proofs.YtcicnbbnkeellaaGreatDoor.To
open Go.RowKit Go.Lib

/-- A slice of values that reads as xs. -/
def RdV (w : World) (v : Value) (xs : List Value) : Prop :=
  (v = .slice none 0 0 ∧ xs = []) ∨ ((∃ a c, v = .slice (some a) 0 c) ∧ xs = []) ∨ ∃ b o c, v = .slice (some ⟨b, o, none⟩) xs.length c ∧ xs.length ≤ c ∧ ∀ j (h : j < xs.length), w.cell? ⟨b, o + j, none⟩ = some xs[j]
/-- Values that are the call's own, from block B on. -/
def OwnV (e : TypeId) (w : World) (B : Nat) (v : Value) (xs : List Value) : Prop := w.ownsRow B e 1 v xs.length xs
theorem OwnV.nil (e : TypeId) (w : World) (B : Nat) : OwnV e w B (.slice none 0 0) [] := World.ownsRow_nil _ _ _ _
theorem OwnV.empty (e : TypeId) (w : World) (B : Nat) (hB : B ≤ w.heap.size) : OwnV e (w.alloc (.cells #[] e)) B (.slice (some ⟨w.heap.size, 0, none⟩) 0 0) [] :=
  World.ownsRow_made w #[] 0 hB (Nat.zero_le _) rfl
theorem OwnV.len {e : TypeId} {w : World} {B : Nat} {v : Value} {xs : List Value} (h : OwnV e w B v xs) : ∃ a c, v = .slice a xs.length c ∧ xs.length ≤ c := by
  obtain ⟨_, ⟨rfl, h0⟩ | ⟨g, cap, cur, rfl, _, _, h4, _⟩⟩ := h
  · exact ⟨none, 0, by rw [h0], by omega⟩
  · exact ⟨_, cap, rfl, h4⟩
theorem OwnV.rd {e : TypeId} {w : World} {B : Nat} {v : Value} {xs : List Value} (h : OwnV e w B v xs) : RdV w v xs := by
  obtain ⟨_, ⟨rfl, h0⟩ | ⟨g, cap, cur, rfl, _, h3, h4, _, h6, h7⟩⟩ := h
  · exact .inl ⟨rfl, List.eq_nil_of_length_eq_zero h0⟩
  · refine .inr (.inr ⟨g, 0, cap, rfl, h4, fun j hj => ?_⟩)
    have : cur.toList[j]? = some xs[j] := by
      rw [← List.getElem?_take_of_lt (show j < xs.length * 1 by omega), h7]
      simp [hj]
    unfold World.cell?
    rw [h3]
    simpa using this
theorem OwnV.on {e : TypeId} {w w' : World} {B : Nat} {v : Value} {xs : List Value} (h : OwnV e w B v xs) (hb : Below w.heap.size w w') : OwnV e w' B v xs := by
  obtain ⟨h1, h2 | ⟨g, cap, cur, e1, e2, e3, e4⟩⟩ := h
  · exact ⟨h1, .inl h2⟩
  · exact ⟨h1, .inr ⟨g, cap, cur, e1, e2, (hb.block g (Array.getElem?_eq_some_iff.1 e3).1).trans e3, e4⟩⟩
theorem RdV.on {w w' : World} {v : Value} {xs : List Value} (h : RdV w v xs) (hb : Below w.heap.size w w') : RdV w' v xs := by
  rcases h with h | h | ⟨b, o, c, e1, e2, h⟩
  · exact .inl h
  · exact .inr (.inl h)
  · refine .inr (.inr ⟨b, o, c, e1, e2, fun j hj => ?_⟩)
    rw [hb.cell (p := ⟨b, o + j, none⟩) (World.block_lt_of_cell? w _ (h j hj))]
    exact h j hj
theorem RdV.len {w : World} {v : Value} {xs : List Value} (h : RdV w v xs) : ∃ a c, v = .slice a xs.length c := by
  rcases h with ⟨rfl, rfl⟩ | ⟨⟨a, c, rfl⟩, rfl⟩ | ⟨b, o, c, rfl, _⟩
  · exact ⟨_, _, rfl⟩
  · exact ⟨_, _, rfl⟩
  · exact ⟨_, _, rfl⟩
theorem RdV.at {w : World} {a : Option Addr} {n c : Nat} {xs : List Value} (h : RdV w (.slice a n c) xs) {j : Nat} (hj : j < xs.length) : ∃ b o, a = some ⟨b, o, none⟩ ∧ w.cell? ⟨b, o + j, none⟩ = some xs[j] := by
  rcases h with ⟨_, rfl⟩ | ⟨_, rfl⟩ | ⟨b, o, c', e, _, h⟩
  · simp at hj
  · simp at hj
  · injection e with e1 _ _
    exact ⟨b, o, e1, h j hj⟩

/-- What a type of one cell is told by. -/
structure Cell1 (t e : TypeId) (z : Value) (by' : Nat) : Prop where
  under : Tryz.prog.underlying t = some (.slice e)
  info : (Tryz.prog.info? e).map (fun i => (i.zero, i.size, i.bytes)) = some (some z, 1, by')
  cells : z.cells.size = 1
  few : by' ≤ 24
theorem Cell1.parts {t e : TypeId} {z : Value} {by' : Nat} (h : Cell1 t e z by') : ∃ i, Tryz.prog.info? e = some i ∧ i.zero = some z ∧ i.size = 1 ∧ i.bytes = by' := by
  have h := h.info
  cases hi : Tryz.prog.info? e with
  | none => rw [hi] at h; simp at h
  | some i =>
    rw [hi] at h
    simp only [Option.map_some, Option.some.injEq, Prod.mk.injEq] at h
    exact ⟨i, rfl, h.1, h.2.1, h.2.2⟩

theorem wpl_appV {ops : Array Oper} {rest : List Oper} {o : Oper} {a : Act} {Q : Exit → Act → World → Prop} {t e : TypeId} {z : Value} {by' : Nat} (H : Cell1 t e z by') (hgd : o.guard = none) (s x : Operand)
    (ho : o.op = .call { callee := .builtin .append, args := #[s, x], argTypes := #[t, t] }) (B : Nat) (v vx : Value) (l lx : List Value) (w : World)
    (hs : a.eval s = v) (hown : OwnV e w B v l) (hx : a.eval x = vx) (hr : RdV w vx lx) (h1 : ∀ u ∈ lx, u.oneCell' = true) (hl : l.length + lx.length ≤ 1000000) (hB : B ≤ w.heap.size)
    (h : ∀ v' w', Hid (OwnV e w' B v' (l ++ lx)) → Hid (Below B w w') → Hid (∀ k, k < w.heap.size → v.ownBlock ≠ some k → w'.heap[k]? = w.heap[k]?) → wpList Tryz.prog ops Q rest (a.put o.dst v') w') :
    wpList Tryz.prog ops Q (o :: rest) a w := by
  obtain ⟨i0, hi, hz0, hz1, hz2⟩ := H.parts
  have hby := H.few
  have hbytes : (l.length + lx.length) * by' ≤ 140737488355328 := by
    have : (l.length + lx.length) * by' ≤ 1000000 * 24 := Nat.mul_le_mul hl hby
    omega
  rcases hr with ⟨rfl, rfl⟩ | ⟨⟨ad, c, rfl⟩, rfl⟩ | ⟨b, of, c, rfl, _, hc⟩
  · refine wpList_append_own_none hgd s x t ho B e i0 1 H.under hi v l.length l hs hown hx ?_
    exact h v w (by rw [List.append_nil]; exact hown) (Below.refl _ _) (fun _ _ _ => rfl)
  · refine wpList_append_own _ hgd s x t ho B e i0 z 1 by' H.under hi hz0 hz1 hz2 H.cells (by decide) v l.length l hs hown ad 0 c [] hx rfl (fun j u hj => by simp at hj) (fun u hu => by cases hu) (by unfold maxLen; omega) (by simpa using hbytes) hB ?_
    intro v' w' h2 h3 _
    refine h v' w' ?_ ((Below.refl B w).grown h3 hB (fun k hk => (World.ownsRow.lt hown k hk).1)) (fun k hk hne => h3.block k hk (fun e => hne e.symm))
    show w'.ownsRow B e 1 v' (l ++ []).length (l ++ [])
    rw [List.length_append]
    exact h2
  · refine wpList_append_own _ hgd s x t ho B e i0 z 1 by' H.under hi hz0 hz1 hz2 H.cells (by decide) v l.length l hs hown ⟨b, of, none⟩ lx.length c lx hx (by omega) ?_ h1 (by unfold maxLen; omega) hbytes hB ?_
    · intro j u hj
      have hjl : j < lx.length := (List.getElem?_eq_some_iff.1 hj).1
      rw [Addr.add_lit, hc j hjl]
      rw [List.getElem?_eq_getElem hjl] at hj
      exact hj
    · intro v' w' h2 h3 _
      refine h v' w' ?_ ((Below.refl B w).grown h3 hB (fun k hk => (World.ownsRow.lt hown k hk).1)) (fun k hk hne => h3.block k hk (fun e => hne e.symm))
      show w'.ownsRow B e 1 v' (l ++ lx).length (l ++ lx)
      rw [List.length_append]
      exact h2
end Go.Proofs.YtcicnbbnkeellaaGreatDoor.To
