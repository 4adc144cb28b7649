/- Rows of frames and of ints in memory; append to one of them leaves the other as it was. Conditions: those that each row states. -/
import Derived.Test.YtlkinkbdhoejiaaWl
import Derived.Test.YtlkinkbdhoejiaaMc
import Derived.Test.YtlkinkbdhoejiaaAa0
namespace Go.Proofs.Ytlkinkbdhoejiaa
open Go.RowKit Go.Lib
set_option maxRecDepth 100000

theorem info3 : (Try.prog.info? 3).map (fun i => (i.zero, i.size, i.bytes)) = some (some (.int .i64 0), 1, 8) := by kernel_rfl
/-- A slice of ints in the call's own memory, from block B on. -/
def OwnI (w : World) (B : Nat) (v : Value) (ns : List Int) : Prop := w.ownsRow B 3 1 v ns.length (ns.map (Value.int .i64))
theorem OwnI.nil (w : World) (B : Nat) : OwnI w B (.slice none 0 0) [] := World.ownsRow_nil _ _ _ _
theorem OwnI.on {w w' : World} {B : Nat} {v : Value} {ns : List Int} (h : OwnI w B v ns) (hb : Below w.heap.size w w') : OwnI w' B v ns :=
  World.ownsRow.kept h (⟨hb.os, hb.tape, hb.output, hb.size, fun k hk _ => hb.block k hk⟩ : w.grownBy w' none) (by cases e : v.ownBlock <;> simp)
theorem own_apart {w : World} {B B' : Nat} {v v' : Value} {l : List UInt8} {ns : List Int} (h : Own w B v l) (h' : OwnI w B' v' ns) : (v.ownBlock = none ∨ v.ownBlock ≠ v'.ownBlock) ∧ (v'.ownBlock = none ∨ v'.ownBlock ≠ v.ownBlock) := by
  rcases h.2 with ⟨rfl, _⟩ | ⟨g, cap, cur, rfl, _, hg, _⟩
  · refine ⟨.inl rfl, ?_⟩
    rcases h'.2 with ⟨rfl, _⟩ | ⟨g', cap', cur', rfl, _, hg', _⟩
    · exact .inl rfl
    · exact .inr (by simp [Value.ownBlock])
  · rcases h'.2 with ⟨rfl, _⟩ | ⟨g', cap', cur', rfl, _, hg', _⟩
    · exact ⟨.inr (by simp [Value.ownBlock]), .inl rfl⟩
    · have hne : g ≠ g' := by
        rintro rfl
        rw [hg] at hg'
        simp at hg'
      exact ⟨.inr (by simpa [Value.ownBlock] using hne), .inr (by simpa [Value.ownBlock] using Ne.symm hne)⟩
theorem Own.kept {w w' : World} {B : Nat} {v : Value} {l : List UInt8} {row : Option Nat} (h : Own w B v l) (hg : w.grownBy w' row) (hne : v.ownBlock = none ∨ v.ownBlock ≠ row) : Own w' B v l := World.ownsRow.kept h hg hne
theorem OwnI.kept {w w' : World} {B : Nat} {v : Value} {l : List Int} {row : Option Nat} (h : OwnI w B v l) (hg : w.grownBy w' row) (hne : v.ownBlock = none ∨ v.ownBlock ≠ row) : OwnI w' B v l := World.ownsRow.kept h hg hne

theorem appG {ops : Array Oper} {rest : List Oper} {o : Oper} {a : Act} {Q : Exit → Act → World → Prop} (hgd : o.guard = none) (s x : Operand)
    (ho : o.op = .call { callee := .builtin .append, args := #[s, x], argTypes := #[25, 25] }) (B : Nat) (v vx : Value) (l lx : List UInt8) (w : World)
    (hs : a.eval s = v) (hown : Own w B v l) (hx : a.eval x = vx) (hr : RdB w vx lx) (hl : l.length + lx.length ≤ 140737488355328) (hB : B ≤ w.heap.size)
    (h : ∀ v' w', Own w' B v' (l ++ lx) → Below B w w' → w.grownBy w' v.ownBlock → wpList Try.prog ops Q rest (a.put o.dst v') w') :
    wpList Try.prog ops Q (o :: rest) a w := by
  obtain ⟨i0, hi, hz0, hz1, hz2⟩ := info_parts info5
  rcases hr with ⟨rfl, rfl⟩ | ⟨b, of, c, rfl, _, hc⟩
  · refine wpList_append_own_none hgd s x 25 ho B 5 i0 1 Try.underlying25 hi v l.length (byteCells l) hs hown hx ?_
    exact h v w (by simpa using hown) (Below.refl _ _) ⟨rfl, rfl, rfl, Nat.le_refl _, fun _ _ _ => rfl⟩
  · refine wpList_append_own _ hgd s x 25 ho B 5 i0 (.int .u8 0) 1 1 Try.underlying25 hi hz0 hz1 hz2 rfl (by decide) v l.length (byteCells l) hs hown ⟨b, of, none⟩ lx.length c (byteCells lx) hx (by simp [byteCells_length]) ?_ ?_ (by unfold maxLen; omega) (by omega) hB ?_
    · intro j u hj
      have hjl : j < lx.length := by
        have := (List.getElem?_eq_some_iff.1 hj).1
        simpa [byteCells_length] using this
      rw [Addr.add_lit, hc j hjl]
      rw [← hj]
      simp [byteCells, List.getElem?_eq_getElem hjl]
    · intro u hu
      obtain ⟨x, _, rfl⟩ := List.mem_map.1 hu
      rfl
    · intro v' w' h1 h2 _
      refine h v' w' ?_ ((Below.refl B w).grown h2 hB (fun k hk => (World.ownsRow.lt hown k hk).1)) h2
      unfold Own
      rw [List.length_append, byteCells_append]
      exact h1

theorem appI {ops : Array Oper} {rest : List Oper} {o : Oper} {a : Act} {Q : Exit → Act → World → Prop} (hgd : o.guard = none) (s x : Operand)
    (ho : o.op = .call { callee := .builtin .append, args := #[s, x], argTypes := #[42, 42] }) (B : Nat) (v : Value) (ns : List Int) (w : World) (z : Int)
    (hs : a.eval s = v) (hown : OwnI w B v ns) (hx : a.eval x = .slice (some ⟨w.heap.size, 0, none⟩) 1 1) (hl : ns.length + 1 ≤ 1000000) (hB : B ≤ w.heap.size)
    (h : ∀ v' w', OwnI w' B v' (ns ++ [z]) → Below B w w' → (w.alloc (.cells #[.int .i64 z] 3)).grownBy w' v.ownBlock → wpList Try.prog ops Q rest (a.put o.dst v') w') :
    wpList Try.prog ops Q (o :: rest) a (w.alloc (.cells #[.int .i64 z] 3)) := by
  obtain ⟨i0, hi, hz0, hz1, hz2⟩ := info_parts info3
  refine wpList_append_own _ hgd s x 42 ho B 3 i0 (.int .i64 0) 1 8 Try.underlying42 hi hz0 hz1 hz2 rfl (by decide) v ns.length (ns.map (Value.int .i64)) hs (World.ownsRow.alloc hown _) ⟨w.heap.size, 0, none⟩ 1 1 [.int .i64 z] hx rfl ?_ ?_ (by unfold maxLen; omega) (by omega) (by simp; omega) ?_
  · intro j u hj
    match j, hj with
    | 0, hj => simp at hj; subst hj; simp [Addr.add_lit, World.cell?_alloc_new]
  · intro u hu; simp at hu; subst hu; rfl
  · intro v' w' h1 h2 _
    refine h v' w' ?_ ?_ h2
    · unfold OwnI
      rw [List.length_append, List.map_append]
      exact h1
    · exact ((Below.refl B w).alloc hB _).grown h2 (by simp; omega) (fun k hk => (World.ownsRow.lt hown k hk).1)

theorem Own.len {w : World} {B : Nat} {v : Value} {l : List UInt8} (h : Own w B v l) : ∃ a c, v = .slice a l.length c := by
  rcases h.rd with ⟨rfl, rfl⟩ | ⟨b, o, c, rfl, _⟩
  · exact ⟨_, _, rfl⟩
  · exact ⟨_, _, rfl⟩
theorem conv_take {w : World} {a : Option Addr} {c : Nat} {l : List UInt8} (h : RdB w (.slice a l.length c) l) (q : Nat) (hq : q ≤ l.length) : l.length ≤ c ∧ (convert 25 9 (.slice a q c)).run Try.prog w = .ok (str (l.take q)) w := by
  rcases h with ⟨e, rfl⟩ | ⟨b, o, c', e, hc, hr⟩
  · cases e
    have : q = 0 := by simpa using hq
    subst this
    exact ⟨Nat.le_refl _, conv_any (.inl ⟨rfl, rfl⟩)⟩
  · cases e
    refine ⟨hc, ?_⟩
    have hl : (l.take q).length = q := by rw [List.length_take]; omega
    have := conv_any (w := w) (v := .slice (some ⟨b, o, none⟩) (l.take q).length c) (l := l.take q) (.inr ⟨b, o, c, rfl, by omega, fun i hi => by
      rw [hr i (by omega)]
      congr 2
      simp [List.getD_eq_getElem?_getD, List.getElem?_take_of_lt (show i < q by omega)]⟩)
    rwa [hl] at this
theorem OwnI.get {w : World} {B : Nat} {v : Value} {ns : List Int} (h : OwnI w B v ns) (h0 : 0 < ns.length) : ∃ g c, v = .slice (some ⟨g, 0, none⟩) ns.length c ∧ g < w.heap.size ∧ ns.length ≤ c ∧ ∀ j z, ns[j]? = some z → w.cell? ⟨g, j, none⟩ = some (.int .i64 z) := by
  rcases h.2 with ⟨_, h1⟩ | ⟨g, cap, cur, rfl, _, hg, hc, _, hs, ht⟩
  · omega
  · refine ⟨g, cap, rfl, ?_, hc, fun j z hz => ?_⟩
    · exact (Array.getElem?_eq_some_iff.1 hg).1
    · have hj : j < ns.length := (List.getElem?_eq_some_iff.1 hz).1
      have e : (cur.toList.take (ns.length * 1))[j]? = (ns.map (Value.int .i64))[j]? := by rw [ht]
      rw [List.getElem?_take_of_lt (by omega), List.getElem?_map, hz, Option.map_some] at e
      simp only [World.cell?, hg]
      simpa using e
/-- Frames that lie one behind the other. -/
def FrsAt (w : World) (b o : Nat) (fs : List Fr) : Prop := ∀ i (h : i < fs.length), w.cell? ⟨b, o + i * 3, none⟩ = some (.int .i64 fs[i].t) ∧ w.cell? ⟨b, o + i * 3 + 1, none⟩ = some (.int .i64 fs[i].c) ∧ w.cell? ⟨b, o + i * 3 + 2, none⟩ = some (str fs[i].p)
theorem FrsAt.below {w w' : World} {b o B : Nat} {fs : List Fr} (h : FrsAt w b o fs) (hb : Below B w w') (hB : b < B) : FrsAt w' b o fs := fun i hi => by
  obtain ⟨h0, h1, h2⟩ := h i hi
  exact ⟨by rw [hb.cell (p := ⟨b, _, none⟩) hB]; exact h0, by rw [hb.cell (p := ⟨b, _, none⟩) hB]; exact h1, by rw [hb.cell (p := ⟨b, _, none⟩) hB]; exact h2⟩
/-- Where the frames end. -/
def endsL (fs : List Fr) (k : Nat) : List Int := (List.range k).map fun j => (off fs (j + 1) : Int)
theorem endsL_len (fs : List Fr) (k : Nat) : (endsL fs k).length = k := by simp [endsL]
theorem endsL_snoc (fs : List Fr) (k : Nat) : endsL fs (k + 1) = endsL fs k ++ [(off fs (k + 1) : Int)] := by simp [endsL, List.range_succ]
theorem endsL_get (fs : List Fr) (k j : Nat) (h : j < k) : (endsL fs k)[j]? = some (off fs (j + 1) : Int) := by simp [endsL, h]
end Go.Proofs.Ytlkinkbdhoejiaa
