
/- The document's Reader.Table. Conditions: those that each row states. -/
import Derived.Test.YtmaaacaifpgpaaaDoorTm
namespace Go.Proofs.YtmaaacaifpgpaaaDoor
open Go.RowKit Go.Lib
set_option maxRecDepth 100000
set_option linter.unusedSimpArgs false

theorem wpl_putAt {ty : TypeId} {ops : Array Oper} {rest : List Oper} {o : Oper} {a : Act} {w : World} {Q : Exit → Act → World → Prop} (hgd : o.guard = none) (x y : Operand) (ho : o.op = .store ty x y)
    (g off : Nat) (cells : Array Value) (hx : a.eval x = .pointer (some ⟨g, off, none⟩)) (hy : a.eval y = .agg cells)
    {t : TypeId} {old : Array Value} (hg : Blk w g old t) (hi : (Tryd.prog.info? ty).map (·.size) = some cells.size)
    (hfit : off + cells.size ≤ old.size) (h1 : cells.all (·.oneCell') = true)
    (h : ∀ W', Blk W' g (old.toList.take off ++ cells.toList ++ old.toList.drop (off + cells.size)).toArray t → w.grownBy W' (some g) → W'.heap.size = w.heap.size → wpList Tryd.prog ops Q rest (a.put o.dst undef) W') : wpList Tryd.prog ops Q (o :: rest) a w := by
  refine wpList_plain hgd fun K hK => ?_
  have hst := run_storeCells_at Tryd.prog g off t cells.toList 0 old w hg.h (by simp; omega) (fun v hv => (Array.all_eq_true_iff_forall_mem.1 h1) v (by simpa using hv))
  simp only [Nat.add_zero, Array.length_toList] at hst
  have hrun : (storeVar ty ⟨g, off, none⟩ (.agg cells)).run Tryd.prog w = .ok () (w.setRow g (old.toList.take off ++ cells.toList ++ old.toList.drop (off + cells.size)).toArray) := by
    cases hq : Tryd.prog.info? ty with
    | none => simp [hq] at hi
    | some i =>
      have hs : cells.size = i.size := by simp [hq] at hi; omega
      simp [storeVar, sizeOf, typeInfo, hq, Value.cells, ← hs, hst]
  unfold Oper.wp execOp
  simp only [ho, hx, hy, Instr.storeAt, Instr.sureAddr, Sem.run_bind, Sem.run_pure, Result.andThen_ok, hrun]
  exact hK _ _ (h _ (hg.row _) (grown_setRow w g _) (by simp [World.setRow]))
/-- A property's cells. -/
abbrev prA (p : Pr) : Array Value := #[.string p.name, .int .i64 p.val.kind, .int .i64 p.val.num, .string p.val.text, .float .f64 p.val.real]
theorem wpl_appP {ops : Array Oper} {rest : List Oper} {o : Oper} {a : Act} {Q : Exit → Act → World → Prop} (hgd : o.guard = none) (s x : Operand)
    (ho : o.op = .call { callee := .builtin .append, args := #[s, x], argTypes := #[22, 22] }) (B : Nat) (v : Value) (l : List Pr) (p : Pr) (w : World)
    (hs : a.eval s = v) (hown : OwnP w B v l) (hx : a.eval x = .slice (some ⟨w.heap.size, 0, none⟩) 1 1) (hn : l.length ≤ 90000) (hB : B ≤ w.heap.size)
    (h : ∀ v' w', OwnP w' B v' (l ++ [p]) → Below B w w' → (∀ (k : Nat) (cs : Array Value) (t : TypeId) (fr : Nat × Nat), k < B ∨ t ≠ 51 ∨ v.ownBlock ≠ some k → w.heap[k]? = some (Obj.cells cs t fr) → w'.heap[k]? = some (Obj.cells cs t fr)) → wpList Tryd.prog ops Q rest (a.put o.dst v') w') : wpList Tryd.prog ops Q (o :: rest) a (w.alloc (.cells (prA p) 51)) := by
  have hb := below_new w (.cells (prA p) 51)
  obtain ⟨i0, hi, hz0, hz1, hz2⟩ := info_parts info33
  have hsrc : ∀ i (h : i < [p].length), PrAt (w.alloc (.cells (prA p) 51)) w.heap.size (0 + i * 5) [p][i] := fun i hi => by
    have : i = 0 := by simpa using hi
    subst this
    exact ⟨World.cell?_alloc_new .., World.cell?_alloc_new .., World.cell?_alloc_new .., World.cell?_alloc_new .., World.cell?_alloc_new ..⟩
  have hown2 := hown.up hb
  refine wpList_plain hgd fun K hK => ?_
  refine wp_append_own _ s x 22 ho B 51 i0 (.agg #[.string ⟨#[]⟩, .int .i64 0, .int .i64 0, .string ⟨#[]⟩, .float .f64 0]) 5 56 Tryd.underlying22 hi hz0 hz1 hz2 rfl (by decide) v l.length (cellsP l) hs hown2 ⟨w.heap.size, 0, none⟩ 1 1 (cellsP [p]) hx (cellsP_len [p]) ?_ (cellsP_one [p]) (by unfold maxLen; omega) (by omega) (by simp; omega) ?_
  · intro j u hj
    rw [Addr.add_lit]
    exact prAt_cells hsrc j u hj
  · intro v' w' h1 h2 _
    refine hK _ _ (h v' w' ?_ ?_ ?_)
    · unfold OwnP
      rw [List.length_append, cellsP_app]
      exact h1
    · exact (hb.mono hB).trans ((Below.refl B _).grown h2 (by simp; omega) (fun k hk => (World.ownsRow.lt hown2 k hk).1))
    · intro k cs t fr hk hc
      have hlt := (Array.getElem?_eq_some_iff.1 hc).1
      have hc2 : (w.alloc (.cells (prA p) 51)).heap[k]? = some (Obj.cells cs t fr) := by rw [hb.block k hlt]; exact hc
      rw [h2.block k (by simp; omega) (fun e => ?_)]
      · exact hc2
      · rcases hk with hk | hk | hk
        · have := (World.ownsRow.lt hown2 k e.symm).1
          omega
        · rcases hown2.2 with ⟨rfl, _⟩ | ⟨g, cap, cur, rfl, _, hg, _⟩
          · simp [Value.ownBlock] at e
          · simp [Value.ownBlock] at e
            subst e
            rw [hc2] at hg
            injection hg with hg
            injection hg with _ hg _
            exact hk hg
        · exact hk e.symm
theorem Rd.on {w w' : World} {b : Nat} {s : List UInt8} {bad : Bool} (h : Rd w b s bad) (hb : w'.heap[b]? = w.heap[b]?) : Rd w' b s bad := by
  refine ⟨?_, ?_, ?_, ?_⟩
  · have := h.c0; unfold World.cell? at this ⊢; simp only [hb]; exact this
  · have := h.c1; unfold World.cell? at this ⊢; simp only [hb]; exact this
  · have := h.f0; unfold World.frozen? at this ⊢; simp only [hb]; exact this
  · have := h.f1; unfold World.frozen? at this ⊢; simp only [hb]; exact this
theorem OwnP.alb {w w' : World} {B b : Nat} {v : Value} {l : List Pr} (h : OwnP w B v l) (hb : Alb w.heap.size w w' b) (hB : b < B) : OwnP w' B v l := by
  obtain ⟨hl, h⟩ := h
  refine ⟨hl, ?_⟩
  rcases h with h | ⟨g, cap, cur, hv, hg, hc, h⟩
  · exact .inl h
  · exact .inr ⟨g, cap, cur, hv, hg, by rw [hb.block g (Array.getElem?_eq_some_iff.1 hc).1 (by omega)]; exact hc, h⟩
theorem Blk.alb {w w' : World} {g b : Nat} {cs : Array Value} {t : TypeId} (h : Blk w g cs t) (hb : Alb w.heap.size w w' b) (hne : g ≠ b) : Blk w' g cs t := ⟨(hb.block g h.lt hne).trans h.h⟩
theorem rd_set (w : World) (b : Nat) (s : List UInt8) (bad : Bool) (h : Rd w b s bad) : Rd (w.setCell ⟨b, 1, none⟩ (.bool true)) b s true :=
  ⟨by rw [World.cell?_setCell_other (h := by simp)]; exact h.c0, World.cell?_setCell_same (h := h.c1) .., by rw [World.frozen?_setCell]; exact h.f0, by rw [World.frozen?_setCell]; exact h.f1⟩
def lenAt (w : World) (b : Nat) : Nat := match w.cell? ⟨b, 0, none⟩ with
  | some (.string s) => s.size
  | _ => 0
theorem Rd.lenAt {w : World} {b : Nat} {s : List UInt8} {bad : Bool} (h : Rd w b s bad) : lenAt w b = s.length := by
  unfold Proofs.YtmaaacaifpgpaaaDoor.lenAt
  rw [h.c0]
  rfl
/-- How the document's Table stands at the head of its loop. -/
structure DT (w w' : World) (b bi : Nat) (st1 st : Rs) (v : Value) (L : List Pr) : Prop where
  r : RdS w' b st1
  i : RdS w' bi st
  o : OwnP w' (bi + 1) v L
  f : Alb w.heap.size w w' b
  s : bi + 1 ≤ w'.heap.size
theorem DT.alb {w w1 w2 : World} {b bi : Nat} {st1 st st' : Rs} {v : Value} {L : List Pr} (h : DT w w1 b bi st1 st v L) (hb : b < bi) (hw : w.heap.size ≤ bi) (ha : Alb w1.heap.size w1 w2 bi) (hr : RdS w2 bi st') : DT w w2 b bi st1 st' v L :=
  ⟨h.r.on (ha.block b (by have := h.s; omega) (by omega)), hr, h.o.alb ha (by omega), ⟨ha.os.trans h.f.os, ha.tape.trans h.f.tape, ha.output.trans h.f.output, Nat.le_trans h.f.size ha.size, fun k hk hk2 => (ha.block k (by have := h.s; omega) (by omega)).trans (h.f.block k hk hk2)⟩, Nat.le_trans h.s ha.size⟩
theorem DT.low {w w1 w2 : World} {b bi : Nat} {st1 st : Rs} {v v' : Value} {L L' : List Pr} (h : DT w w1 b bi st1 st v L) (hb : b < bi) (hw : w.heap.size ≤ bi) (ha : Below (bi + 1) w1 w2) (ho : OwnP w2 (bi + 1) v' L') : DT w w2 b bi st1 st v' L' :=
  ⟨h.r.below ha (by omega), h.i.below ha (by omega), ho, h.f.trans (.below (ha.mono (by omega))), Nat.le_trans h.s ha.size⟩
end Go.Proofs.YtmaaacaifpgpaaaDoor
