/- What the document's own Num and Str (trivetref01) answer of any bytes that can be read, a number, a text of such lengths as fit into memory, where the library's table of powers of ten reads as it was laid. -/
import Derived.Test.YtbdfhmffdnlbfaaDoorDigits
import Derived.Laws.AppendOwnNone
namespace Go.Proofs.YtbdfhmffdnlbfaaDoor
open Go.RowKit Go.Lib

theorem own_empty (w : World) (B : Nat) (hB : B ≤ w.heap.size) : Own (w.alloc (.cells #[] 5)) B (.slice (some ⟨w.heap.size, 0, none⟩) 0 0) [] :=
  World.ownsRow_made w #[] 0 hB (Nat.zero_le _) rfl

theorem appB {ops : Array Oper} {rest : List Oper} {o : Oper} {a : Act} {Q : Exit → Act → World → Prop} (hgd : o.guard = none) (s x : Operand)
    (ho : o.op = .call { callee := .builtin .append, args := #[s, x], argTypes := #[22, 22] }) (B : Nat) (v vx : Value) (l lx : List UInt8) (w : World)
    (hs : a.eval s = v) (hown : Own w B v l) (hx : a.eval x = vx) (hr : RdA w vx lx) (hl : l.length + lx.length ≤ 140737488355328) (hB : B ≤ w.heap.size)
    (h : ∀ v' w', Own w' B v' (l ++ lx) → Below B w w' → wpList Tryd.prog ops Q rest (a.put o.dst v') w') :
    wpList Tryd.prog ops Q (o :: rest) a w := by
  obtain ⟨i0, hi, hz0, hz1, hz2⟩ := info_parts info5
  rcases hr with (⟨rfl, rfl⟩ | ⟨b, of, c, rfl, _, hc⟩) | ⟨⟨ad, c, rfl⟩, rfl⟩
  · refine wpList_append_own_none hgd s x 22 ho B 5 i0 1 Tryd.underlying22 hi v l.length (byteCells l) hs hown hx ?_
    exact h v w (by simpa using hown) (Below.refl _ _)
  · refine wpList_append_own _ hgd s x 22 ho B 5 i0 (.int .u8 0) 1 1 Tryd.underlying22 hi hz0 hz1 hz2 rfl (by decide) v l.length (byteCells l) hs hown ⟨b, of, none⟩ lx.length c (byteCells lx) hx (by simp [byteCells_length]) ?_ ?_ (by unfold maxLen; omega) (by omega) hB ?_
    · intro j u hj
      have hjl : j < lx.length := by
        have := (List.getElem?_eq_some_iff.1 hj).1
        simpa [byteCells_length] using this
      rw [Addr.add_lit, hc j hjl]
      rw [← hj]
      simp [byteCells, List.getElem?_eq_getElem hjl]
    · intro u hu
      obtain ⟨x, _, rfl⟩ := List.mem_map.1 hu
      rfl
    · intro v' w' h1 h2 _
      refine h v' w' ?_ ((Below.refl B w).grown h2 hB (fun k hk => (World.ownsRow.lt hown k hk).1))
      unfold Own
      rw [List.length_append, byteCells_append]
      exact h1

  · refine wpList_append_own _ hgd s x 22 ho B 5 i0 (.int .u8 0) 1 1 Tryd.underlying22 hi hz0 hz1 hz2 rfl (by decide) v l.length (byteCells l) hs hown ad 0 c [] hx rfl (fun j u hj => by simp at hj) (fun u hu => by cases hu) (by unfold maxLen; omega) (by omega) hB ?_
    intro v' w' h1 h2 _
    refine h v' w' ?_ ((Below.refl B w).grown h2 hB (fun k hk => (World.ownsRow.lt hown k hk).1))
    simpa [Own] using h1

theorem below_new (w : World) (o : Obj) : Below w.heap.size w (w.alloc o) := (Below.refl _ _).alloc (Nat.le_refl _) _

theorem Own.on {w w' : World} {B : Nat} {v : Value} {l : List UInt8} (h : Own w B v l) (hb : Below w.heap.size w w') : Own w' B v l :=
  World.ownsRow.kept h (⟨hb.os, hb.tape, hb.output, hb.size, fun k hk _ => hb.block k hk⟩ : w.grownBy w' none) (by cases e : v.ownBlock <;> simp)

set_option maxHeartbeats 400000 in
theorem refnum_any (w : World) (v : Value) (l : List UInt8) (n : Int) (h : RdA w v l) (hl : l.length + 100 ≤ 140737488355328) (h0 : -9223372036854775808 ≤ n) (h1 : n ≤ 9223372036854775807) (hV : Vars w.heap.size w) :
    Calls Tryd.prog 10 #[v, .int .i64 n] w fun e w' => ∃ v', e = .returned v' ∧ Own w' w.heap.size v' (l ++ (itoa n ++ [59])) ∧ Below w.heap.size w w' := by
  have hil := itoa_length n h0 h1
  have hr := h.on (below_new w (.cells #[] 5))
  go_enter Tryd.func10, Tryd.ntmps10
  go_wp2_with (at_builtin; refine appB rfl (.tmp 5) (.tmp 6) rfl w.heap.size _ v [] l (w.alloc (.cells #[] 5)) rfl (own_empty w _ (Nat.le_refl _)) rfl hr (by simp; omega) (by simp) ?_)
  intro v1 w1 ho1 hb1
  have b1 := (below_new w (.cells #[] 5)).trans hb1
  have hs1 := b1.size
  clear hr hb1 h
  go_wp2_with fail
  refine (itoa_any w1 w.heap.size n h0 h1 (hV.on b1)).mono ?_
  rintro e w2 ⟨rfl, hb2⟩
  have ho2 := ho1.on hb2
  have b2 := b1.trans (hb2.mono hs1)
  have hs2 := b2.size
  clear hb2 ho1 b1
  have hil' : (⟨(itoa n).toArray⟩ : ByteArray).size ≤ 20 := by simpa [ByteArray.size] using hil
  generalize hs : (⟨(itoa n).toArray⟩ : ByteArray) = s at *
  have HS : Hid (⟨(itoa n).toArray⟩ = s) := hs
  clear hs
  go_wp2_with (at_builtin; refine appS rfl (.tmp 7) (.tmp 9) rfl w.heap.size v1 _ w2 s rfl ho2 rfl (by omega) (by omega) ?_)
  intro v3 w3 ho3 hb3
  have hs3 := hb3.size
  go_wp2_with (at_builtin; refine app1 rfl (.tmp 10) (.tmp 11) rfl w.heap.size v3 _ w3 59 59 rfl rfl ho3 rfl (by rw [List.length_append, show s.data.toList.length = s.size from rfl]; omega) (by omega) ?_)
  intro v4 w4 ho4 hb4
  go_wp2
  go_ret
  refine ⟨v4, rfl, ?_, (b2.trans hb3).trans hb4⟩
  have e : s.data.toList = itoa n := by rw [← HS.out]
  rw [← e]
  simpa using ho4

set_option maxHeartbeats 400000 in
theorem refstr_any (w : World) (v : Value) (l : List UInt8) (t : ByteArray) (h : RdA w v l) (hl : l.length + t.size + 100 ≤ 140737488355328) (hV : Vars w.heap.size w) :
    Calls Tryd.prog 13 #[v, .string t] w fun e w' => ∃ v', e = .returned v' ∧ Own w' w.heap.size v' (l ++ encS t.data.toList) ∧ Below w.heap.size w w' := by
  have hil := itoa_length t.size (by omega) (by omega)
  have hr := h.on (below_new w (.cells #[] 5))
  go_enter Tryd.func13, Tryd.ntmps13
  go_wp2_with (at_builtin; refine appB rfl (.tmp 6) (.tmp 7) rfl w.heap.size _ v [] l (w.alloc (.cells #[] 5)) rfl (own_empty w _ (Nat.le_refl _)) rfl hr (by simp; omega) (by simp) ?_)
  intro v1 w1 ho1 hb1
  have b1 := (below_new w (.cells #[] 5)).trans hb1
  have hs1 := b1.size
  clear hr hb1 h
  go_wp2_with fail
  refine (itoa_any w1 w.heap.size t.size (by omega) (by omega) (hV.on b1)).mono ?_
  rintro e w2 ⟨rfl, hb2⟩
  have ho2 := ho1.on hb2
  have b2 := b1.trans (hb2.mono hs1)
  have hs2 := b2.size
  clear hb2 ho1 b1
  have hil' : (⟨(itoa t.size).toArray⟩ : ByteArray).size ≤ 20 := by show (itoa t.size).toArray.size ≤ 20; rw [List.size_toArray]; exact hil
  generalize hs : (⟨(itoa t.size).toArray⟩ : ByteArray) = s at *
  have HS : Hid (⟨(itoa t.size).toArray⟩ = s) := hs
  clear hs
  have e1 : s.data.toList.length = s.size := rfl
  have e2 : t.data.toList.length = t.size := rfl
  have E1 : Hid (s.data.toList.length = s.size) := e1
  have E2 : Hid (t.data.toList.length = t.size) := e2
  clear e1 e2
  go_wp2_with (at_builtin; refine appS rfl (.tmp 8) (.tmp 11) rfl w.heap.size v1 _ w2 s rfl ho2 rfl (by omega) (by omega) ?_)
  intro v3 w3 ho3 hb3
  have hs3 := hb3.size
  go_wp2_with (at_builtin; refine app1 rfl (.tmp 12) (.tmp 13) rfl w.heap.size v3 _ w3 58 58 rfl rfl ho3 rfl (by rw [List.length_append, E1.out]; omega) (by omega) ?_)
  intro v4 w4 ho4 hb4
  have hs4 := hb4.size
  go_wp2_with (at_builtin; refine appS rfl (.tmp 15) (.tmp 16) rfl w.heap.size v4 _ w4 t rfl ho4 rfl (by simp only [List.length_append, E1.out, List.length_cons, List.length_nil]; omega) (by omega) ?_)
  intro v5 w5 ho5 hb5
  have hs5 := hb5.size
  go_wp2_with (at_builtin; refine app1 rfl (.tmp 17) (.tmp 18) rfl w.heap.size v5 _ w5 44 44 rfl rfl ho5 rfl (by simp only [List.length_append, E1.out, E2.out, List.length_cons]; omega) (by omega) ?_)
  intro v6 w6 ho6 hb6
  go_wp2
  go_ret
  refine ⟨v6, rfl, ?_, (((b2.trans hb3).trans hb4).trans hb5).trans hb6⟩
  have e : s.data.toList = itoa t.size := by rw [← HS.out]
  unfold encS
  rw [E2.out, ← e]
  simpa using ho6
end Go.Proofs.YtbdfhmffdnlbfaaDoor
