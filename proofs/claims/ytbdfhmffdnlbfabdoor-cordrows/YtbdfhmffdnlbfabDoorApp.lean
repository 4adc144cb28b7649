/- Appending bytes that can be read to bytes of the call's own, of such lengths as fit into memory. -/
import Derived.Test.YtbdfhmffdnlbfabDoorDigits
import Derived.Laws.AppendOwnNone
namespace Go.Proofs.YtbdfhmffdnlbfabDoor
open Go.RowKit Go.Lib

theorem own_empty (w : World) (B : Nat) (hB : B ≤ w.heap.size) : Own (w.alloc (.cells #[] 5)) B (.slice (some ⟨w.heap.size, 0, none⟩) 0 0) [] :=
  World.ownsRow_made w #[] 0 hB (Nat.zero_le _) rfl

theorem appB {ops : Array Oper} {rest : List Oper} {o : Oper} {a : Act} {Q : Exit → Act → World → Prop} (hgd : o.guard = none) (s x : Operand)
    (ho : o.op = .call { callee := .builtin .append, args := #[s, x], argTypes := #[25, 25] }) (B : Nat) (v vx : Value) (l lx : List UInt8) (w : World)
    (hs : a.eval s = v) (hown : Own w B v l) (hx : a.eval x = vx) (hr : RdA w vx lx) (hl : l.length + lx.length ≤ 140737488355328) (hB : B ≤ w.heap.size)
    (h : ∀ v' w', Own w' B v' (l ++ lx) → Below B w w' → wpList Tryd.prog ops Q rest (a.put o.dst v') w') :
    wpList Tryd.prog ops Q (o :: rest) a w := by
  obtain ⟨i0, hi, hz0, hz1, hz2⟩ := info_parts info5
  rcases hr with (⟨rfl, rfl⟩ | ⟨b, of, c, rfl, _, hc⟩) | ⟨⟨ad, c, rfl⟩, rfl⟩
  · refine wpList_append_own_none hgd s x 25 ho B 5 i0 1 Tryd.underlying25 hi v l.length (byteCells l) hs hown hx ?_
    exact h v w (by simpa using hown) (Below.refl _ _)
  · refine wpList_append_own _ hgd s x 25 ho B 5 i0 (.int .u8 0) 1 1 Tryd.underlying25 hi hz0 hz1 hz2 rfl (by decide) v l.length (byteCells l) hs hown ⟨b, of, none⟩ lx.length c (byteCells lx) hx (by simp [byteCells_length]) ?_ ?_ (by unfold maxLen; omega) (by omega) hB ?_
    · intro j u hj
      have hjl : j < lx.length := by
        have := (List.getElem?_eq_some_iff.1 hj).1
        simpa [byteCells_length] using this
      rw [Addr.add_lit, hc j hjl]
      rw [← hj]
      simp [byteCells, List.getElem?_eq_getElem hjl]
    · intro u hu
      obtain ⟨x, _, rfl⟩ := List.mem_map.1 hu
      rfl
    · intro v' w' h1 h2 _
      refine h v' w' ?_ ((Below.refl B w).grown h2 hB (fun k hk => (World.ownsRow.lt hown k hk).1))
      unfold Own
      rw [List.length_append, byteCells_append]
      exact h1

  · refine wpList_append_own _ hgd s x 25 ho B 5 i0 (.int .u8 0) 1 1 Tryd.underlying25 hi hz0 hz1 hz2 rfl (by decide) v l.length (byteCells l) hs hown ad 0 c [] hx rfl (fun j u hj => by simp at hj) (fun u hu => by cases hu) (by unfold maxLen; omega) (by omega) hB ?_
    intro v' w' h1 h2 _
    refine h v' w' ?_ ((Below.refl B w).grown h2 hB (fun k hk => (World.ownsRow.lt hown k hk).1))
    simpa [Own] using h1

theorem below_new (w : World) (o : Obj) : Below w.heap.size w (w.alloc o) := (Below.refl _ _).alloc (Nat.le_refl _) _

theorem Own.on {w w' : World} {B : Nat} {v : Value} {l : List UInt8} (h : Own w B v l) (hb : Below w.heap.size w w') : Own w' B v l :=
  World.ownsRow.kept h (⟨hb.os, hb.tape, hb.output, hb.size, fun k hk _ => hb.block k hk⟩ : w.grownBy w' none) (by cases e : v.ownBlock <;> simp)

end Go.Proofs.YtbdfhmffdnlbfabDoor
