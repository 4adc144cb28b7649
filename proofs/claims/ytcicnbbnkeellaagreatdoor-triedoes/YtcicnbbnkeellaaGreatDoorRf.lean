/- A range over a function whose rounds may return: the statement, and the function that holds it. -/
import Derived.RangeFuncLeaves
import Derived.RangeFuncOwn
import Derived.RangeFuncCalls
import Derived.RangeFuncRecord
namespace Go.Proofs.YtcicnbbnkeellaaGreatDoor
open Go Go.RowKit
variable {F : Fence} {n : Nat} {P : Program}

/-- The walk of a piece of the body of one function. -/
def wpF (P : Program) (f0 : FuncId) (c : Code) (Q : Exit → Act → World → Prop) (a : Act) (w : World) : Prop :=
  ∀ (b : Frame) (k : List Item) (cs : List Frame), b.fn = f0 → b.roundOf = none → ∃ e a' w', Q e a' w' ∧ Arrives P (lone (b.at a (.code c :: k)) cs w) b k cs e a' w'
variable {f0 : FuncId} {Q : Exit → Act → World → Prop} {a : Act} {w : World}
theorem wpF_of_wp {c : Code} (h : c.wp P Q a w) : wpF P f0 c Q a w := fun b k cs _ _ => h b k cs
theorem wpF_seq {x y : Code} (h : wpF P f0 x (Exit.then (wpF P f0 y Q) Q) a w) : wpF P f0 (Code.seq x y) Q a w := by
  intro b k cs hf hr
  obtain ⟨e, a₁, w₁, hq, harr⟩ := h b (.code y :: k) cs hf hr
  cases e with
  | normal =>
    obtain ⟨e₂, a₂, w₂, hq₂, harr₂⟩ := hq b k cs hf hr
    exact ⟨e₂, a₂, w₂, hq₂, .of_steps (.head step_seq harr) harr₂⟩
  | exit id => exact ⟨_, a₁, w₁, hq, .of_steps (.one step_seq) (.pass (x := .code y) rfl (fun _ _ => .inl (by simp)) harr)⟩
  | goto l => exact ⟨_, a₁, w₁, hq, .of_steps (.one step_seq) (.pass (x := .code y) rfl (fun _ _ => .inl (by simp)) harr)⟩
  | ret => exact ⟨_, a₁, w₁, hq, .of_steps (.one step_seq) (.pass (x := .code y) rfl (fun _ _ => .inl (by simp)) harr)⟩
  | panic ch => exact ⟨_, a₁, w₁, hq, .of_steps (.one step_seq) (.pass (x := .code y) rfl (fun _ _ => .inl (by simp)) harr)⟩
  | outgrown => exact ⟨_, a₁, w₁, hq, .of_steps (.one step_seq) (.pass (x := .code y) rfl (fun _ _ => .inl (by simp)) harr)⟩
theorem wpF_mono {c : Code} {Q' : Exit → Act → World → Prop} (h : wpF P f0 c Q a w) (hq : ∀ e a w, Q e a w → Q' e a w) : wpF P f0 c Q' a w :=
  fun b k cs hf hr => let ⟨e, a', w', q, r⟩ := h b k cs hf hr; ⟨e, a', w', hq _ _ _ q, r⟩
theorem wpF_block {id : Nat} {c : Code} (h : wpF P f0 c (Exit.inBlock id Q) a w) : wpF P f0 (Code.block id c) Q a w := by
  intro b k cs hf hr
  obtain ⟨e, a₁, w₁, hq, harr⟩ := h b (.inBlock id :: k) cs hf hr
  cases e with
  | normal => exact ⟨.normal, a₁, w₁, hq, .head step_block (Steps.trans harr (.one step_inBlock))⟩
  | exit id' =>
    by_cases hid : id' = id
    · simp only [Exit.inBlock, hid, if_true] at hq
      exact ⟨.normal, a₁, w₁, hq, .head step_block (harr k (by simp [exitTo, hid]))⟩
    · simp only [Exit.inBlock, hid, if_false] at hq
      refine ⟨.exit id', a₁, w₁, hq, fun k' hk => .head step_block (harr k' ?_)⟩
      have : (id == id') = false := by simp; exact fun h => hid h.symm
      simp [exitTo, this, hk]
  | goto l => exact ⟨_, a₁, w₁, hq, fun k' hk => .head step_block (harr k' (by simp [gotoIn, hk]))⟩
  | ret => exact ⟨_, a₁, w₁, hq, .of_steps (.one step_block) harr⟩
  | panic ch => exact ⟨_, a₁, w₁, hq, .of_steps (.one step_block) harr⟩
  | outgrown => exact ⟨_, a₁, w₁, hq, .of_steps (b := b) (k := k) (cs := cs) (e := .outgrown) (.one step_block) harr⟩

/-- The statement: the record is laid; the one call; a return that is pending. -/
theorem wpF_rangeFunc {g : Operand} {ps : Array Tmp} {assign body : Code} {l : Nat} {mark : List Deferred} {w₁ w₁' w₂ : World} {d : Deferred} {f : FuncId} {args : Array Value}
    (he : (Instr.enterLoop f0 a.tmps ps assign body none).run P w = .ok (l, mark) w₁)
    (hres : (resolve a.eval (rangeCall g l) 0).run P w₁ = .ok d w₁') (hinv : (invoke d.target d.args).run P w₁' = .ok (.enter f args) w₂)
    (hcall : Calls P f args w₂ fun e w₃ => (∃ v w₄, e = .returned v ∧ (Instr.endLoop l).run P w₃ = .ok none w₄ ∧ Q .normal { a with defers := mark ++ a.defers } w₄) ∨
      (∃ v w₄, e = .returned v ∧ (Instr.endLoop l).run P w₃ = .ok (some .ret) w₄ ∧ Q .ret { a with defers := mark ++ a.defers } w₄)) :
    wpF P f0 (Code.rangeFunc g ps assign body) Q a w := by
  intro b k cs hf hro
  have hat : ∀ a k, b.at a k = b.atR a k := fun a k => (Frame.atR_of_none hro a k).symm
  have he' : (Instr.enterLoop b.fn a.tmps ps assign body b.roundOf).run P w = .ok (l, mark) w₁ := by rw [hf, hro]; exact he
  have henter := stepR_rangeFunc (P := P) (b := b) (a := a) (k := k) (cs := cs) (w := w) he' hres hinv
  obtain ⟨e, w₃, fr, hR, hsteps, hfn, hleave⟩ := hcall (b.atR { a with defers := mark ++ a.defers } (.inRangeFunc l :: k) :: cs)
  rcases hR with ⟨v, w₄, rfl, hend, hq⟩ | ⟨v, w₄, rfl, hend, hq⟩
  · refine ⟨.normal, _, w₄, hq, ?_⟩
    show Steps P _ _
    rw [hat, hat]
    refine .head henter (Steps.trans hsteps (.head ?_ (.one (stepR_endRangeFunc hend))))
    rw [← finish_atR_inRangeFunc l v]; exact step_leave_returned hleave
  · obtain ⟨e2, a2, w5, hq2, harr⟩ := wp_ret (P := P) (Q := fun e a' w' => e = .ret ∧ a' = { a with defers := mark ++ a.defers } ∧ w' = w₄) (a := { a with defers := mark ++ a.defers }) (w := w₄) ⟨rfl, rfl, rfl⟩ b k cs
    obtain ⟨rfl, rfl, rfl⟩ := hq2
    refine ⟨.ret, _, w5, hq, .of_steps ?_ harr⟩
    rw [hat, hat]
    refine .head henter (Steps.trans hsteps (.head ?_ (.one (stepR_endRangeFunc hend))))
    rw [← finish_atR_inRangeFunc l v]; exact step_leave_returned hleave

/-- What the body of a function with one such loop must achieve: the mark alone is left, or nothing. -/
def bodyPostF (P : Program) (fn : Func) (R : Ending → World → Prop) : Exit → Act → World → Prop
  | .normal, a, w | .ret, a, w => (∃ D args w' v, a.defers = [{ target := .collected D, args := args }] ∧ (Instr.takeDeferred D).run P w = .ok [] w' ∧ (results fn a.tmps).run P w' = .ok v w' ∧ R (.returned v) w') ∨ (a.defers = [] ∧ ∃ v, (results fn a.tmps).run P w = .ok v w ∧ R (.returned v) w)
  | _, _, _ => False

theorem calls_of_wpF {f : FuncId} {fn : Func} {c : Code} {args : Array Value} {w : World} {R : Ending → World → Prop}
    (hf : P.funcs[f]? = some fn) (hb : fn.body = some c)
    (h : wpF P f c (bodyPostF P fn R) { tmps := args ++ Array.replicate (fn.ntmps - args.size) undef, defers := [] } w) : Calls P f args w R := by
  intro cs
  let b : Frame := { (default : Frame) with fn := f, kind := .normal }
  have henter : Frame.enter P f args .normal =
      b.at { tmps := args ++ Array.replicate (fn.ntmps - args.size) undef, defers := [] } [.code c] := by
    simp [Frame.enter, Frame.at, hf, hb, b]
  obtain ⟨e, a', w', hq, harr⟩ := h b [] cs rfl rfl
  rw [← henter] at harr
  cases e with
  | normal =>
    rcases hq with ⟨D, ar, w₂, v, hd, ht, hr, hR⟩ | ⟨hd, v, hr, hR⟩
    · refine ⟨.returned v, w₂, { b.at a' [] with mode := .returning, defers := [] }, hR, ?_, rfl, rfl, rfl, rfl, fn, hf, hr⟩
      refine Steps.trans (Steps.trans harr (.one step_end)) (.one ?_)
      exact step_collected (fr := { b.at a' [] with mode := .returning }) (by simp) (ds := []) hd rfl ht
    · exact ⟨.returned v, w', { b.at a' [] with mode := .returning }, hR, Steps.trans harr (.one step_end), rfl, rfl, hd, rfl, fn, hf, hr⟩
  | ret =>
    obtain ⟨todo, hs⟩ := harr
    rcases hq with ⟨D, ar, w₂, v, hd, ht, hr, hR⟩ | ⟨hd, v, hr, hR⟩
    · refine ⟨.returned v, w₂, { b.at a' todo with mode := .returning, defers := [] }, hR, ?_, rfl, rfl, rfl, rfl, fn, hf, hr⟩
      exact Steps.trans hs (.one (step_collected (fr := { b.at a' todo with mode := .returning }) (by simp) (ds := []) hd rfl ht))
    · exact ⟨.returned v, w', { b.at a' todo with mode := .returning }, hR, hs, rfl, rfl, hd, rfl, fn, hf, hr⟩
  | panic chain => exact hq.elim
  | exit id => exact hq.elim
  | goto l => exact hq.elim
  | outgrown => exact hq.elim

/-- From one world to another: nothing is changed but blocks of a set. -/
structure Chg (Z : Nat → Prop) (A B : World) : Prop where
  os : B.os = A.os
  tape : B.tape = A.tape
  output : B.output = A.output
  size : B.heap.size = A.heap.size
  block : ∀ k, ¬ Z k → B.heap[k]? = A.heap[k]?
theorem Chg.put {Z : Nat → Prop} {A : World} (o : Obj) (k : Nat) (hk : Z k) : Chg Z A (A.putObj k o) :=
  ⟨rfl, rfl, rfl, by simp [World.putObj], fun j h1 => World.putObj_heap_other (fun e => h1 (e ▸ hk))⟩

/-- An iterator that hands N arrays of values to its rounds, in order, until one says no more; its own state: C; what it changes itself: Z. -/
def Iter (P : Program) (gf : Nat) (lb : Array Value) (encs : Nat → Array Value) (N : Nat) (Z : Nat → Prop) (C : Nat → World → Prop) : Prop :=
  ∀ (l : Nat) (J : Nat → World → Prop) (Y : World → Prop) (W : World), (∀ k A B, J k A → Chg Z A B → J k B) →
    (∀ k W, k < N → J k W → C k W → YieldAt Fence.wide 1 P l (encs k) W fun e W' => (e = .returned (.bool true) ∧ J (k + 1) W' ∧ C k W') ∨ (e = .returned (.bool false) ∧ Y W')) →
    J 0 W → C 0 W → Calls P gf (#[.func (.yield l) #[] #[]] ++ lb) W fun e W' => e = .returned (.tuple #[]) ∧ (J N W' ∨ Y W')

theorem wpF_range {g : Operand} {ps : Array Tmp} {assign body : Code} {gf : Nat} {lb : Array Value} (hg : a.eval g = .func (.func gf) #[] lb) (eg : ∀ args w, (callFunc gf args).run P w = .ok (.enter gf args) w)
    {encs : Nat → Array Value} {N : Nat} {Z : Nat → Prop} {C : Nat → World → Prop} (hit : Iter P gf lb encs N Z C) (hps : ∀ k, (encs k).size = ps.size)
    (I : Nat → World → Prop) (X : World → Prop) (hZ : ∀ b, Z b → b < w.heap.size) (hI : ∀ k A B, I k A → Chg (fun b => Z b ∨ b = w.heap.size ∨ b = w.heap.size + 1) A B → I k B) (hX : ∀ A B, X A → Chg (fun b => b = w.heap.size ∨ b = w.heap.size + 1) A B → X B)
    (hC : ∀ k A B, C k A → (∀ b, b < w.heap.size → B.heap[b]? = A.heap[b]?) → C k B)
    (h0 : ∀ W, Below w.heap.size w W → W.heap.size = w.heap.size + 2 → I 0 W ∧ C 0 W) (a₁ : Nat → Act)
    (hassign : ∀ (l : Nat) (k : Nat) (W : World) (K : Act → World → Prop), K (a₁ k) W →
      assign.wpIn (Fence.wide.inRound l) 1 P (Exit.then K (fun _ _ _ => False)) { tmps := (ps.zip (encs k)).foldl (fun t (p, v) => t.setIfInBounds p v) a.tmps, defers := [] } W)
    (hbody : ∀ (l k : Nat) (W : World), k < N → I k W → C k W → (∃ o, W.heap[w.heap.size + 1]? = some (.loop o)) → body.wpIn (Fence.wide.inRound l) 1 P (fun e _ W' =>
      (W'.heap[w.heap.size]? = W.heap[w.heap.size]? ∧ W'.heap[w.heap.size + 1]? = W.heap[w.heap.size + 1]?) ∧ ((e = .normal ∧ I (k + 1) W' ∧ C k W') ∨ (e = .ret ∧ X W'))) (a₁ k) W)
    (hdone : ∀ W, I N W → W.heap[w.heap.size]? = some (.deferred (some [])) → Q .normal { a with defers := { target := .collected w.heap.size, args := #[] } :: a.defers } W)
    (hstop : ∀ W, X W → W.heap[w.heap.size]? = some (.deferred (some [])) → Q .ret { a with defers := { target := .collected w.heap.size, args := #[] } :: a.defers } W) :
    wpF P f0 (Code.rangeFunc g ps assign body) Q a w := by
  obtain ⟨rec, hrec⟩ : ∃ rec : LoopState → Option Code → Loop, rec = fun st pe => { state := st, pending := pe, fn := f0, tmps := a.tmps, params := ps, assign, body, defers := w.heap.size } := ⟨_, rfl⟩
  obtain ⟨W1, hW1⟩ : ∃ W1, (w.alloc (.deferred (some []))).alloc (.loop (rec .ready none)) = W1 := ⟨_, rfl⟩
  have hL1 : W1.heap[w.heap.size + 1]? = some (.loop (rec .ready none)) := by
    rw [← hW1]; have := World.alloc_heap_new (w.alloc (.deferred (some []))) (.loop (rec .ready none)); rwa [World.size_alloc] at this
  have hK1 : W1.heap[w.heap.size]? = some (.deferred (some [])) := by
    rw [← hW1]; exact (Below.heap_alloc _ _ _ (by simp)).trans (World.alloc_heap_new w _)
  have hI1 : I 0 W1 ∧ C 0 W1 := by
    rw [← hW1]; exact h0 _ (((Below.refl _ w).alloc (Nat.le_refl _) _).alloc (by simp) _) (by simp)
  have hCp : ∀ k A o, C k A → C k (A.putObj (w.heap.size + 1) o) := fun k A o h => hC k _ _ h (fun b hb => World.putObj_heap_other (by omega))
  refine wpF_rangeFunc (l := w.heap.size + 1) (mark := [{ target := .collected w.heap.size, args := #[] }]) (w₁ := W1) (d := { target := .fn (.func gf) lb, args := #[.func (.yield (w.heap.size + 1)) #[] #[]] }) (w₁' := W1) (f := gf) (args := #[.func (.yield (w.heap.size + 1)) #[] #[]] ++ lb) (w₂ := W1) ?_ ?_ ?_ ?_
  · rw [← hW1, hrec]; exact run_enterLoop_outer _ _ _ _ _
  · simp only [resolve, hg]
    simp [go_sem]
  · simp [invoke, go_sem, eg]
  · refine (hit (w.heap.size + 1)
      (fun k W => I k W ∧ W.heap[w.heap.size + 1]? = some (.loop (rec .ready none)) ∧ W.heap[w.heap.size]? = some (.deferred (some [])))
      (fun W => X W ∧ W.heap[w.heap.size + 1]? = some (.loop (rec .done (some .ret))) ∧ W.heap[w.heap.size]? = some (.deferred (some []))) W1 ?_ ?_ ⟨hI1.1, hL1, hK1⟩ hI1.2).mono ?_
    · rintro k A B ⟨hi, hl, hd⟩ hc
      have hn : ∀ b, w.heap.size ≤ b → ¬ Z b := fun b hb hz => by have := hZ b hz; omega
      exact ⟨hI k A B hi ⟨hc.os, hc.tape, hc.output, hc.size, fun b hb => hc.block b (fun hz => hb (.inl hz))⟩, (hc.block _ (hn _ (by omega))).trans hl, (hc.block _ (hn _ (Nat.le_refl _))).trans hd⟩
    · rintro k W hk ⟨hi, hl, hd⟩ hcw
      have hlt : w.heap.size + 1 < W.heap.size := (Array.getElem?_eq_some_iff.1 hl).1
      have hy := run_yield (P := P) (args := encs k) hl (by rw [hrec]; exact hps k)
      rw [hrec] at hy
      refine ⟨f0, _, assign, body, hy, roundIn_of_wpIn trivial (hassign _ k W _ ⟨_, run_beginRound hl (by rw [hrec]), ?_⟩)⟩
      have hl2 : (W.putObj (w.heap.size + 1) (.loop { rec .ready none with state := .busy })).heap[w.heap.size + 1]? = some (.loop { rec .ready none with state := .busy }) := World.putObj_heap_same hlt
      have hk2 : (W.putObj (w.heap.size + 1) (.loop { rec .ready none with state := .busy })).heap[w.heap.size]? = some (.deferred (some [])) := (World.putObj_heap_other (by omega)).trans hd
      refine wpIn_mono (hbody _ k _ hk (hI k _ _ hi (Chg.put _ _ (.inr (.inr rfl)))) (hCp _ _ _ hcw) ⟨_, hl2⟩) ?_
      rintro e a3 W3 ⟨⟨hs1, hs2⟩, hp⟩
      have hl3 := hs2.trans hl2
      have hk3 := hs1.trans hk2
      rcases hp with ⟨rfl, hi3, hc3⟩ | ⟨rfl, hx3⟩
      · refine ⟨_, _, run_endRound (P := P) none hl3, .inl ⟨rfl, ⟨hI _ _ _ hi3 (Chg.put _ _ (.inr (.inr rfl))), ?_, (World.putObj_heap_other (by omega)).trans hk3⟩, hCp _ _ _ hc3⟩⟩
        rw [World.putObj_heap_same (Array.getElem?_eq_some_iff.1 hl3).1, hrec]
        simp
      · refine ⟨_, _, run_endRound (P := P) (some .ret) hl3, .inr ⟨rfl, hX _ _ hx3 (Chg.put _ _ (.inr rfl)), ?_, (World.putObj_heap_other (by omega)).trans hk3⟩⟩
        rw [World.putObj_heap_same (Array.getElem?_eq_some_iff.1 hl3).1, hrec]
        simp
    · rintro e W2 ⟨rfl, (⟨hi, hl, hd⟩ | ⟨hx, hl, hd⟩)⟩
      · have hend : (Instr.endLoop (w.heap.size + 1)).run P W2 = .ok none (W2.putObj (w.heap.size + 1) (.loop { rec .ready none with state := .exhausted })) := by
          have := run_endLoop (P := P) hl (by rw [hrec]; simp)
          rw [hrec] at this
          rw [hrec]; exact this
        exact .inl ⟨_, _, rfl, hend, hdone _ (hI _ _ _ hi (Chg.put _ _ (.inr (.inr rfl)))) ((World.putObj_heap_other (by omega)).trans hd)⟩
      · have hend : (Instr.endLoop (w.heap.size + 1)).run P W2 = .ok (some .ret) (W2.putObj (w.heap.size + 1) (.loop { rec .done (some .ret) with state := .exhausted })) := by
          have := run_endLoop (P := P) hl (by rw [hrec]; simp)
          rw [hrec] at this
          rw [hrec]; exact this
        exact .inr ⟨_, _, rfl, hend, hstop _ (hX _ _ hx (Chg.put _ _ (.inr rfl))) ((World.putObj_heap_other (by omega)).trans hd)⟩
end Go.Proofs.YtcicnbbnkeellaaGreatDoor
