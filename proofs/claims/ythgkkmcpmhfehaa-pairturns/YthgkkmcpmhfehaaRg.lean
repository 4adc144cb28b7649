/- A range over a function whose rounds may panic: the statement, and the function that holds it. -/
import Derived.Test.YthgkkmcpmhfehaaRf
namespace Go.Proofs.Ythgkkmcpmhfehaa
open Go Go.RowKit
variable {P : Program} {f0 : FuncId} {Q : Exit → Act → World → Prop} {a : Act} {w : World}

theorem wpF_block {id : Nat} {c : Code} (h : wpF P f0 c (Exit.inBlock id Q) a w) : wpF P f0 (Code.block id c) Q a w := by
  intro b k cs hf hr
  obtain ⟨e, a₁, w₁, hq, harr⟩ := h b (.inBlock id :: k) cs hf hr
  cases e with
  | normal => exact ⟨.normal, a₁, w₁, hq, .head step_block (Steps.trans harr (.one step_inBlock))⟩
  | exit id' =>
    by_cases hid : id' = id
    · simp only [Exit.inBlock, hid, if_true] at hq
      exact ⟨.normal, a₁, w₁, hq, .head step_block (harr k (by simp [exitTo, hid]))⟩
    · simp only [Exit.inBlock, hid, if_false] at hq
      refine ⟨.exit id', a₁, w₁, hq, fun k' hk => .head step_block (harr k' ?_)⟩
      have : (id == id') = false := by simp; exact fun h => hid h.symm
      simp [exitTo, this, hk]
  | goto l => exact ⟨_, a₁, w₁, hq, fun k' hk => .head step_block (harr k' (by simp [gotoIn, hk]))⟩
  | ret => exact ⟨_, a₁, w₁, hq, .of_steps (.one step_block) harr⟩
  | panic ch => exact ⟨_, a₁, w₁, hq, .of_steps (.one step_block) harr⟩
  | outgrown => exact ⟨_, a₁, w₁, hq, .of_steps (b := b) (k := k) (cs := cs) (e := .outgrown) (.one step_block) harr⟩

/-- The statement: the record is laid; the one call. -/
theorem wpF_rangeFunc {g : Operand} {ps : Array Tmp} {assign body : Code} {l : Nat} {mark : List Deferred} {w₁ w₁' w₂ : World} {d : Deferred} {f : FuncId} {args : Array Value}
    (he : (Instr.enterLoop f0 a.tmps ps assign body none).run P w = .ok (l, mark) w₁)
    (hres : (resolve a.eval (rangeCall g l) 0).run P w₁ = .ok d w₁') (hinv : (invoke d.target d.args).run P w₁' = .ok (.enter f args) w₂)
    (hcall : Calls P f args w₂ fun e w₃ => (∃ v w₄, e = .returned v ∧ (Instr.endLoop l).run P w₃ = .ok none w₄ ∧ Q .normal { a with defers := mark ++ a.defers } w₄) ∨
      (∃ ch, e = .panicked ch ∧ Q (.panic ch) { a with defers := mark ++ a.defers } w₃)) :
    wpF P f0 (Code.rangeFunc g ps assign body) Q a w := by
  intro b k cs hf hro
  have hat : ∀ a k, b.at a k = b.atR a k := fun a k => (Frame.atR_of_none hro a k).symm
  have he' : (Instr.enterLoop b.fn a.tmps ps assign body b.roundOf).run P w = .ok (l, mark) w₁ := by rw [hf, hro]; exact he
  have henter := stepR_rangeFunc (P := P) (b := b) (a := a) (k := k) (cs := cs) (w := w) he' hres hinv
  obtain ⟨e, w₃, fr, hR, hsteps, hfn, hleave⟩ := hcall (b.atR { a with defers := mark ++ a.defers } (.inRangeFunc l :: k) :: cs)
  rcases hR with ⟨v, w₄, rfl, hend, hq⟩ | ⟨ch, rfl, hq⟩
  · refine ⟨.normal, _, w₄, hq, ?_⟩
    show Steps P _ _
    rw [hat, hat]
    refine .head henter (Steps.trans hsteps (.head ?_ (.one (stepR_endRangeFunc hend))))
    rw [← finish_atR_inRangeFunc l v]; exact step_leave_returned hleave
  · refine ⟨.panic ch, _, w₃, hq, .inRangeFunc l :: k, ?_⟩
    rw [hat, hat]
    refine .head henter (Steps.trans hsteps (.one ?_))
    rw [← Frame.raise_atR]; exact step_leave_panicked hleave

/-- What the body of a function with one such loop must achieve: the mark alone is left. -/
def bodyPostF (P : Program) (fn : Func) (R : Ending → World → Prop) : Exit → Act → World → Prop
  | .normal, a, w | .ret, a, w => ∃ D args w' v, a.defers = [{ target := .collected D, args := args }] ∧ (Instr.takeDeferred D).run P w = .ok [] w' ∧ (results fn a.tmps).run P w' = .ok v w' ∧ R (.returned v) w'
  | .panic chain, a, w => (a.defers = [] ∧ R (.panicked chain) w) ∨ ∃ D args w', a.defers = [{ target := .collected D, args := args }] ∧ (Instr.takeDeferred D).run P w = .ok [] w' ∧ R (.panicked chain) w'
  | _, _, _ => False

theorem calls_of_wpF {f : FuncId} {fn : Func} {c : Code} {args : Array Value} {w : World} {R : Ending → World → Prop}
    (hf : P.funcs[f]? = some fn) (hb : fn.body = some c)
    (h : wpF P f c (bodyPostF P fn R) { tmps := args ++ Array.replicate (fn.ntmps - args.size) undef, defers := [] } w) : Calls P f args w R := by
  intro cs
  let b : Frame := { (default : Frame) with fn := f, kind := .normal }
  have henter : Frame.enter P f args .normal =
      b.at { tmps := args ++ Array.replicate (fn.ntmps - args.size) undef, defers := [] } [.code c] := by
    simp [Frame.enter, Frame.at, hf, hb, b]
  obtain ⟨e, a', w', hq, harr⟩ := h b [] cs rfl rfl
  rw [← henter] at harr
  cases e with
  | normal =>
    obtain ⟨D, ar, w₂, v, hd, ht, hr, hR⟩ := hq
    refine ⟨.returned v, w₂, { b.at a' [] with mode := .returning, defers := [] }, hR, ?_, rfl, rfl, rfl, rfl, fn, hf, hr⟩
    refine Steps.trans (Steps.trans harr (.one step_end)) (.one ?_)
    exact step_collected (fr := { b.at a' [] with mode := .returning }) (by simp) (ds := []) hd rfl ht
  | ret =>
    obtain ⟨D, ar, w₂, v, hd, ht, hr, hR⟩ := hq
    obtain ⟨todo, hs⟩ := harr
    refine ⟨.returned v, w₂, { b.at a' todo with mode := .returning, defers := [] }, hR, ?_, rfl, rfl, rfl, rfl, fn, hf, hr⟩
    exact Steps.trans hs (.one (step_collected (fr := { b.at a' todo with mode := .returning }) (by simp) (ds := []) hd rfl ht))
  | panic chain =>
    obtain ⟨todo, hs⟩ := harr
    rcases hq with ⟨hd, hR⟩ | ⟨D, ar, w₂, hd, ht, hR⟩
    · exact ⟨.panicked chain, w', { b.at a' todo with mode := .panicking chain }, hR, hs, rfl, rfl, hd, fn, hf⟩
    · refine ⟨.panicked chain, w₂, { b.at a' todo with mode := .panicking chain, defers := [] }, hR, ?_, rfl, rfl, rfl, fn, hf⟩
      exact Steps.trans hs (.one (step_collected (fr := { b.at a' todo with mode := .panicking chain }) (by simp) (ds := []) hd rfl ht))
  | exit id => exact hq.elim
  | goto l => exact hq.elim
  | outgrown => exact hq.elim

/-- From one world to another: nothing is changed but the two blocks of a loop. -/
structure Book (D : Nat) (A B : World) : Prop where
  os : B.os = A.os
  tape : B.tape = A.tape
  output : B.output = A.output
  size : B.heap.size = A.heap.size
  block : ∀ k, k ≠ D → k ≠ D + 1 → B.heap[k]? = A.heap[k]?

theorem Book.put {D : Nat} {A : World} (o : Obj) (k : Nat) (hk : k = D ∨ k = D + 1) : Book D A (A.putObj k o) :=
  ⟨rfl, rfl, rfl, by simp [World.putObj], fun j h1 h2 => World.putObj_heap_other (by omega)⟩

/-- An iterator that hands N arrays of values to its rounds, in order, and panics if one does. -/
def Iter (P : Program) (gf : Nat) (lb : Array Value) (encs : Nat → Array Value) (N : Nat) (Caps : World → Prop) : Prop :=
  ∀ (l : Nat) (J : Nat → World → Prop) (Y : List PanicEntry → World → Prop) (W : World), (∀ k W, J k W → Caps W) →
    (∀ k W, k < N → J k W → YieldAt Fence.wide 1 P l (encs k) W fun e W' => (e = .returned (.bool true) ∧ J (k + 1) W') ∨ (∃ ch, e = .panicked ch ∧ Y ch W')) →
    J 0 W → Calls P gf (#[.func (.yield l) #[] #[]] ++ lb) W fun e W' => (e = .returned (.tuple #[]) ∧ J N W') ∨ (∃ ch, e = .panicked ch ∧ Y ch W')

theorem wpF_range {g : Operand} {ps : Array Tmp} {assign body : Code} {fn0 : Func} (hf0 : P.funcs[f0]? = some fn0) {gf : Nat} {lb : Array Value} (hg : a.eval g = .func (.func gf) #[] lb) (eg : ∀ args w, (callFunc gf args).run P w = .ok (.enter gf args) w)
    {encs : Nat → Array Value} {N : Nat} {Caps : World → Prop} (hit : Iter P gf lb encs N Caps) (hps : ∀ k, (encs k).size = ps.size)
    (I : Nat → World → Prop) (X : List PanicEntry → World → Prop) (hcap : ∀ k W, I k W → Caps W) (hI : ∀ k A B, I k A → Book w.heap.size A B → I k B)
    (h0 : ∀ W, Below w.heap.size w W → W.heap.size = w.heap.size + 2 → I 0 W) (a₁ : Nat → Act)
    (hassign : ∀ (l : Nat) (k : Nat) (W : World) (K : Act → World → Prop), K (a₁ k) W →
      assign.wpIn (Fence.wide.inRound l) 1 P (Exit.then K (fun _ _ _ => False)) { tmps := (ps.zip (encs k)).foldl (fun t (p, v) => t.setIfInBounds p v) a.tmps, defers := [] } W)
    (hbody : ∀ (l k : Nat) (W : World), k < N → I k W → W.heap[w.heap.size]? = some (.deferred (some [])) → (∃ r, W.heap[w.heap.size + 1]? = some (.loop r)) → body.wpIn (Fence.wide.inRound l) 1 P (fun e a' W' =>
      (W'.heap[w.heap.size]? = W.heap[w.heap.size]? ∧ W'.heap[w.heap.size + 1]? = W.heap[w.heap.size + 1]?) ∧ ((e = .normal ∧ I (k + 1) W') ∨ (∃ ch, e = .panic ch ∧ a'.defers = [] ∧ X ch W'))) (a₁ k) W)
    (hdone : ∀ W, I N W → W.heap[w.heap.size]? = some (.deferred (some [])) → Q .normal { a with defers := { target := .collected w.heap.size, args := #[] } :: a.defers } W)
    (hstop : ∀ ch W, X ch W → W.heap[w.heap.size]? = some (.deferred (some [])) → Q (.panic ch) { a with defers := { target := .collected w.heap.size, args := #[] } :: a.defers } W) :
    wpF P f0 (Code.rangeFunc g ps assign body) Q a w := by
  obtain ⟨rec, hrec⟩ : ∃ rec : LoopState → Option Code → Loop, rec = fun st pe => { state := st, pending := pe, fn := f0, tmps := a.tmps, params := ps, assign, body, defers := w.heap.size } := ⟨_, rfl⟩
  obtain ⟨W1, hW1⟩ : ∃ W1, (w.alloc (.deferred (some []))).alloc (.loop (rec .ready none)) = W1 := ⟨_, rfl⟩
  have hL1 : W1.heap[w.heap.size + 1]? = some (.loop (rec .ready none)) := by
    rw [← hW1]; have := World.alloc_heap_new (w.alloc (.deferred (some []))) (.loop (rec .ready none)); rwa [World.size_alloc] at this
  have hK1 : W1.heap[w.heap.size]? = some (.deferred (some [])) := by
    rw [← hW1]; exact (Below.heap_alloc _ _ _ (by simp)).trans (World.alloc_heap_new w _)
  have hI1 : I 0 W1 := by
    rw [← hW1]; exact h0 _ (((Below.refl _ w).alloc (Nat.le_refl _) _).alloc (by simp) _) (by simp)
  refine wpF_rangeFunc (l := w.heap.size + 1) (mark := [{ target := .collected w.heap.size, args := #[] }]) (w₁ := W1) (d := { target := .fn (.func gf) lb, args := #[.func (.yield (w.heap.size + 1)) #[] #[]] }) (w₁' := W1) (f := gf) (args := #[.func (.yield (w.heap.size + 1)) #[] #[]] ++ lb) (w₂ := W1) ?_ ?_ ?_ ?_
  · rw [← hW1, hrec]; exact run_enterLoop_outer _ _ _ _ _
  · simp only [resolve, hg]
    simp [go_sem]
  · simp [invoke, go_sem, eg]
  · refine (hit (w.heap.size + 1)
      (fun k W => I k W ∧ W.heap[w.heap.size + 1]? = some (.loop (rec .ready none)) ∧ W.heap[w.heap.size]? = some (.deferred (some [])))
      (fun ch W => X ch W ∧ W.heap[w.heap.size]? = some (.deferred (some []))) W1 (fun k W h => hcap k W h.1) ?_ ⟨hI1, hL1, hK1⟩).mono ?_
    · rintro k W hk ⟨hi, hl, hd⟩
      have hlt : w.heap.size + 1 < W.heap.size := (Array.getElem?_eq_some_iff.1 hl).1
      have hy := run_yield (P := P) (args := encs k) hl (by rw [hrec]; exact hps k)
      rw [hrec] at hy
      refine ⟨f0, _, assign, body, hy, roundIn_panics trivial hf0 (hassign _ k W _ ⟨_, run_beginRound hl (by rw [hrec]), ?_⟩)⟩
      have hl2 : (W.putObj (w.heap.size + 1) (.loop { rec .ready none with state := .busy })).heap[w.heap.size + 1]? = some (.loop { rec .ready none with state := .busy }) := World.putObj_heap_same hlt
      have hk2 : (W.putObj (w.heap.size + 1) (.loop { rec .ready none with state := .busy })).heap[w.heap.size]? = some (.deferred (some [])) := (World.putObj_heap_other (by omega)).trans hd
      refine wpIn_mono (hbody _ k _ hk (hI k _ _ hi (Book.put _ _ (.inr rfl))) hk2 ⟨_, hl2⟩) ?_
      rintro e a3 W3 ⟨⟨hs1, hs2⟩, hp⟩
      have hl3 := hs2.trans hl2
      have hk3 := hs1.trans hk2
      rcases hp with ⟨rfl, hi3⟩ | ⟨ch, rfl, hd3, hx3⟩
      · refine ⟨_, _, run_endRound (P := P) none hl3, .inl ⟨rfl, hI _ _ _ hi3 (Book.put _ _ (.inr rfl)), ?_, (World.putObj_heap_other (by omega)).trans hk3⟩⟩
        rw [World.putObj_heap_same (Array.getElem?_eq_some_iff.1 hl3).1, hrec]
        simp
      · exact ⟨hd3, .inr ⟨ch, rfl, hx3, hk3⟩⟩
    · rintro e W2 (⟨rfl, hi, hl, hd⟩ | ⟨ch, rfl, hx, hd⟩)
      · have hend : (Instr.endLoop (w.heap.size + 1)).run P W2 = .ok none (W2.putObj (w.heap.size + 1) (.loop { rec .ready none with state := .exhausted })) := by
          have := run_endLoop (P := P) hl (by rw [hrec]; simp)
          rw [hrec] at this
          rw [hrec]; exact this
        exact .inl ⟨_, _, rfl, hend, hdone _ (hI _ _ _ hi (Book.put _ _ (.inr rfl))) ((World.putObj_heap_other (by omega)).trans hd)⟩
      · exact .inr ⟨ch, rfl, hstop _ _ hx hd⟩
end Go.Proofs.Ythgkkmcpmhfehaa
