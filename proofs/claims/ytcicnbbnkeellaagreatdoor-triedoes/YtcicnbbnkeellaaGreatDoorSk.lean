/- (*node).seek: the node that a text's words lead to. Conditions: those that each row states. -/
import Derived.Test.YtcicnbbnkeellaaGreatDoorSr
import Derived.Test.YtcicnbbnkeellaaGreatDoorNe
namespace Go.Proofs.YtcicnbbnkeellaaGreatDoor
open Go.RowKit Go.Shelf
attribute [local go_sem] Oper.semAt_some
set_option maxRecDepth 100000

theorem alloc_at' (w : World) (o : Obj) (k : Nat) : (w.alloc o).heap[k]? = if k = w.heap.size then some o else w.heap[k]? := by
  by_cases h : k = w.heap.size
  · rw [if_pos h, h]; exact World.alloc_heap_new w o
  · rw [if_neg h]
    by_cases h2 : k < w.heap.size
    · exact Below.heap_alloc _ _ _ h2
    · rw [Array.getElem?_eq_none (by rw [World.size_alloc]; omega), Array.getElem?_eq_none (by omega)]
/-- What a walk along words has laid. -/
structure SkS (w W : World) (v r : Value) : Prop where
  below : Below w.heap.size w W
  size : w.heap.size + 5 ≤ W.heap.size
  b0 : W.heap[w.heap.size]? = some (.cells #[v] 47 (0, 0))
  b1 : W.heap[w.heap.size + 1]? = some (.cells #[r] 47 (0, 0))
def skW (w : World) (q : Nat) (l : List UInt8) : World := ((((w.alloc (.cells #[ptrO (some q)] 47)).alloc (.cells #[.pointer none] 47)).alloc (.cells #[str l] 9)).alloc (.cells #[str [46]] 9)).alloc (.cells #[.int .i64 0] 3)
theorem skW_size (w : World) (q : Nat) (l : List UInt8) : (skW w q l).heap.size = w.heap.size + 5 := by simp only [skW, World.size_alloc]
theorem skW_new (w : World) (q : Nat) (l : List UInt8) : SkS w (skW w q l) (ptrO (some q)) (.pointer none) ∧ SqC l (w.heap.size + 3) (w.heap.size + 2) (w.heap.size + 4) 0 (skW w q l) := by
  have hs := skW_size w q l
  unfold skW at *
  refine ⟨⟨?_, by omega, ?_, ?_⟩, ?_, ?_, ?_⟩
  · exact (((((Below.refl _ w).alloc (Nat.le_refl _) _).alloc (by simp only [World.size_alloc]; omega) _).alloc (by simp only [World.size_alloc]; omega) _).alloc (by simp only [World.size_alloc]; omega) _).alloc (by simp only [World.size_alloc]; omega) _
  all_goals
    simp only [alloc_at', World.size_alloc]
    repeat (first | rw [if_pos (by omega)] | rw [if_neg (by omega)])
    try rfl
theorem SkS.on {w W W' : World} {v r : Value} (h : SkS w W v r) (hb : Below (w.heap.size + 2) W W') : SkS w W' v r :=
  ⟨h.below.trans (hb.mono (by omega)), Nat.le_trans h.size hb.size, (hb.block _ (by omega)).trans h.b0, (hb.block _ (by omega)).trans h.b1⟩
theorem SkS.chg {w W W' : World} {v r : Value} (h : SkS w W v r) {Z : Nat → Prop} (hc : Chg Z W W') (hz : ∀ b, Z b → w.heap.size + 2 ≤ b) : SkS w W' v r :=
  h.on ⟨hc.os, hc.tape, hc.output, Nat.le_of_eq hc.size.symm, fun k hk => hc.block k (fun e => by have := hz k e; omega)⟩
theorem SkS.put {w W : World} {v r : Value} (h : SkS w W v r) (v' : Value) : SkS w (W.setCell ⟨w.heap.size, 0, none⟩ v') v' r := by
  refine ⟨h.below.setCell (p := ⟨w.heap.size, 0, none⟩) (Nat.le_refl _) _, by simpa using h.size, ?_, ?_⟩
  · simp only [World.setCell, Array.getElem?_modify, if_pos, h.b0]
    simp
  · rw [RowKit.Below.heap_setCell _ _ _ _ (show w.heap.size + 1 ≠ w.heap.size by omega)]
    exact h.b1
theorem SkS.putr {w W : World} {v r : Value} (h : SkS w W v r) (r' : Value) : SkS w (W.setCell ⟨w.heap.size + 1, 0, none⟩ r') v r' := by
  refine ⟨h.below.setCell (p := ⟨w.heap.size + 1, 0, none⟩) (Nat.le_succ _) _, by simpa using h.size, ?_, ?_⟩
  · rw [RowKit.Below.heap_setCell _ _ _ _ (show w.heap.size ≠ w.heap.size + 1 by omega)]
    exact h.b0
  · simp only [World.setCell, Array.getElem?_modify, if_pos, h.b1]
    simp

theorem words_len_le (l : List UInt8) : ∀ k ∈ wordsL l, k.length ≤ l.length := by
  induction l with
  | nil => intro k hk; simp [wordsL] at hk; simp [hk]
  | cons c l ih =>
    intro k hk
    by_cases hc : c = 46
    · subst hc
      rw [wordsL_dot] at hk
      rcases List.mem_cons.1 hk with rfl | h
      · simp
      · have := ih k h; simp; omega
    · obtain ⟨x, xs, h1, h2⟩ := wordsL_other c l hc
      rw [h2] at hk
      rcases List.mem_cons.1 hk with rfl | h
      · have := ih x (by rw [h1]; simp)
        simp; omega
      · have := ih k (by rw [h1]; simp [h])
        simp; omega
set_option maxHeartbeats 2000000 in
theorem seek_any (hix : IdxDot) (w : World) {N : Nat} {T : Tr} (h : TrW w N T) {nd : Nd} (hp : T [] = some nd) (l : List UInt8) (hl : l.length ≤ 9223372036854775807) :
    Calls Tryz.prog 22 #[ptrO (some nd.q), str l] w fun e w' => e = .returned (ptrO ((T (wordsL l)).map Nd.q)) ∧ Below w.heap.size w w' := by
  obtain ⟨hN1, hN2⟩ := skW_new w nd.q l
  have hsz := skW_size w nd.q l
  have hSp := split_w ((w.alloc (.cells #[ptrO (some nd.q)] 47)).alloc (.cells #[.pointer none] 47)) l
  obtain ⟨res, hres⟩ : ∃ res, ptrO ((T (wordsL l)).map Nd.q) = res := ⟨_, rfl⟩
  rw [hres]
  have HR : Hid (ptrO ((T (wordsL l)).map Nd.q) = res) := hres
  clear hres
  have H1 : Hid (SkS w (skW w nd.q l) (ptrO (some nd.q)) (.pointer none)) := hN1
  have H2 : Hid (SqC l (w.heap.size + 3) (w.heap.size + 2) (w.heap.size + 4) 0 (skW w nd.q l)) := hN2
  clear hN1 hN2
  simp only [World.size_alloc] at hSp
  simp only [ptrO, str] at hSp ⊢
  refine calls_of_wpF Tryz.func22 rfl ?_
  simp only [Tryz.ntmps22, List.size_toArray, List.length_cons, List.length_nil, Nat.reduceAdd, Nat.reduceSub, Array.replicate_succ, Array.replicate_zero, List.push_toArray, List.append_toArray, List.nil_append, List.cons_append]
  refine wpF_seq (wpF_of_wp ?_)
  go_wp2
  refine wpF_seq (wpF_seq (wpF_of_wp ?_))
  go_wp2_with (go_at_call 31; refine hSp.mono ?_; rintro e w1 ⟨rfl, hw1⟩)
  simp only [Nat.add_assoc, Nat.reduceAdd]
  show wpF Tryz.prog 22 _ _ _ (skW w nd.q l)
  clear hw1 hSp
  generalize skW w nd.q l = W0 at *
  have hnp : nd.q = nd.q := rfl
  refine wpF_block (wpF_range rfl (enters_of Tryz.func77 (by kernel_rfl) rfl) (split_iter hix l (w.heap.size + 3) (w.heap.size + 2) (w.heap.size + 4) (by omega) hl) (fun _ => rfl)
    (fun k W => ∃ nk, T ((wordsL l).take k) = some nk ∧ SkS w W (ptrO (some nk.q)) (.pointer none)) (fun W => T (wordsL l) = none ∧ ∃ v, SkS w W v (.pointer none)) ?hZ ?hI ?hX ?hC ?h0
    (fun k => { tmps := #[.pointer (some ⟨nd.q, 0, none⟩), .string ⟨l.toArray⟩, .pointer (some ⟨w.heap.size, 0, none⟩), undef, .pointer (some ⟨w.heap.size + 1, 0, none⟩), str ((wordsL l).getD k []), .string ⟨l.toArray⟩, .func (.func 77) #[] #[.pointer (some ⟨w.heap.size + 3, 0, none⟩), .pointer (some ⟨w.heap.size + 2, 0, none⟩), .pointer (some ⟨w.heap.size + 4, 0, none⟩)], str ((wordsL l).getD k []), undef, undef, undef, undef, undef, undef, undef, undef, undef], defers := [] }) ?assign ?body ?done ?stop)
  case hZ => intro b hb; omega
  case hI =>
    rintro k A B ⟨nk, h1, h2⟩ hc
    exact ⟨nk, h1, h2.chg hc (fun b hb => by omega)⟩
  case hX =>
    rintro A B ⟨h1, v, h2⟩ hc
    exact ⟨h1, v, h2.chg hc (fun b hb => by omega)⟩
  case hC =>
    rintro k A B hc hb
    exact ⟨(hb _ (by omega)).trans hc.s, (hb _ (by omega)).trans hc.p, (hb _ (by omega)).trans hc.v⟩
  case h0 =>
    intro W hb hs
    refine ⟨⟨nd, by simpa using hp, H1.out.on (hb.mono (by omega))⟩, ?_⟩
    exact ⟨(hb.block _ (by omega)).trans H2.out.s, (hb.block _ (by omega)).trans H2.out.p, (hb.block _ (by omega)).trans H2.out.v⟩
  case assign =>
    intro lo k W K hK
    simp only [str] at hK ⊢
    gi_wp2
    exact hK
  case body =>
    rintro lo k W hk ⟨nk, hnk, hS⟩ hC ⟨rc, hL⟩
    have hW := h.below hS.below
    have hat := hW.at' _ nk hnk
    obtain ⟨c0, _, _, _⟩ := cell_q hat.cells
    have d0 := (cell_1 hS.b0).1
    have d1 := (cell_1 hS.b1).1
    have f0 := (cell_1 hS.b0).2
    have f1 := (cell_1 hS.b1).2
    have hgd : (wordsL l).getD k [] = (wordsL l)[k] := by rw [List.getD_eq_getElem?_getD, List.getElem?_eq_getElem hk]; rfl
    have htk : (wordsL l).take (k + 1) = (wordsL l).take k ++ [(wordsL l).getD k []] := by rw [hgd, List.take_succ_eq_append_getElem hk]
    have hwl : ((wordsL l).getD k []).length ≤ maxLen := by
      rw [hgd]
      have := words_len_le l _ (List.getElem_mem hk)
      unfold maxLen
      omega
    have hlk := hat.map.look hwl
    rw [← htk] at hlk
    have hkeep : ∀ (b : Nat), w.heap.size + 2 ≤ b → ∀ v, (W.setCell ⟨w.heap.size, 0, none⟩ v).heap[b]? = W.heap[b]? := fun b hb v => RowKit.Below.heap_setCell _ _ _ _ (show b ≠ w.heap.size by omega)
    have hkeep2 : ∀ (b : Nat), w.heap.size + 2 ≤ b → ∀ v v', ((W.setCell ⟨w.heap.size, 0, none⟩ v).setCell ⟨w.heap.size + 1, 0, none⟩ v').heap[b]? = W.heap[b]? := fun b hb v v' => (RowKit.Below.heap_setCell _ _ _ _ (show b ≠ w.heap.size + 1 by omega)).trans (hkeep b hb v)
    have HK : Hid (∀ (b : Nat), w.heap.size + 2 ≤ b → ∀ v, (W.setCell ⟨w.heap.size, 0, none⟩ v).heap[b]? = W.heap[b]?) := hkeep
    have HK2 : Hid (∀ (b : Nat), w.heap.size + 2 ≤ b → ∀ v v', ((W.setCell ⟨w.heap.size, 0, none⟩ v).setCell ⟨w.heap.size + 1, 0, none⟩ v').heap[b]? = W.heap[b]?) := hkeep2
    clear hkeep hkeep2
    cases hx : T ((wordsL l).take (k + 1)) with
    | none =>
      rw [hx] at hlk
      have HT : Hid (T (wordsL l) = none) := by
        show T (wordsL l) = none
        cases e : T (wordsL l) with
        | none => rfl
        | some _ =>
          have := h.up' ((wordsL l).drop (k + 1)) ((wordsL l).take (k + 1)) (by rw [List.take_append_drop, e]; simp)
          exact absurd hx this
      have HP := hS.put (.pointer none)
      have g1 := (cell_1 HP.b1).1
      have e1 := (cell_1 HP.b1).2
      have g0 := (cell_1 HP.b0).1
      have HS : Hid _ := HP.putr (.pointer none)
      clear htk hgd hwl HP
      generalize (wordsL l).getD k [] = x at *
      simp only [ptrO, Option.map_none, str] at *
      gi_wp2
      refine ⟨⟨HK2.out _ (by omega) _ _, HK2.out _ (by omega) _ _⟩, HT.out, _, HS.out⟩
    | some nk2 =>
      rw [hx, Option.map_some] at hlk
      have HP := hS.put (ptrO (some nk2.q))
      have g0 := (cell_1 HP.b0).1
      have HS : Hid _ := HP
      have HC : Hid (SqC l (w.heap.size + 3) (w.heap.size + 2) (w.heap.size + 4) k W) := hC
      clear htk hgd hwl HP hC
      generalize (wordsL l).getD k [] = x at *
      generalize hq2 : nk2.q = q2 at *
      have HQ : Hid (nk2.q = q2) := hq2
      clear hq2
      simp only [ptrO, str] at *
      gi_wp2
      refine ⟨⟨HK.out _ (by omega) _, HK.out _ (by omega) _⟩, ?_, ?_⟩
      · have := HS.out
        rw [HQ.out]
        exact this
      · have hc := HC.out
        exact ⟨(HK.out _ (by omega) _).trans hc.s, (HK.out _ (by omega) _).trans hc.p, (HK.out _ (by omega) _).trans hc.v⟩
  case done =>
    rintro W ⟨nk, hnk, hS⟩ hD
    rw [List.take_length] at hnk
    have d0 := (cell_1 hS.b0).1
    have d1 := (cell_1 hS.b1).1
    have f1 := (cell_1 hS.b1).2
    have HS : Hid _ := hS.putr (ptrO (some nk.q))
    have e1 : res = ptrO (some nk.q) := by rw [← HR.out, hnk]; rfl
    subst e1
    have hD2 : Hid (∀ v, (W.setCell ⟨w.heap.size + 1, 0, none⟩ v).heap[W0.heap.size]? = some (.deferred (some []))) := fun v => (RowKit.Below.heap_setCell _ _ _ _ (show W0.heap.size ≠ w.heap.size + 1 by omega)).trans hD
    clear HR hnk hS hD
    simp only [ptrO] at *
    refine wpF_of_wp ?_
    go_wp2
    refine .inl ⟨W0.heap.size, #[], _, .pointer (some ⟨nk.q, 0, none⟩), rfl, run_takeDeferred (hD2.out _), ?_, rfl, ?_⟩
    · have hS2 := HS.out.chg (Chg.put (Z := fun b => b = W0.heap.size) (.deferred none) W0.heap.size rfl) (fun b hb => by omega)
      have := (cell_1 hS2.b1).1
      simp [results, Tryz.results22, go_sem, this]
    · exact (HS.out.chg (Chg.put (Z := fun b => b = W0.heap.size) (.deferred none) W0.heap.size rfl) (fun b hb => by omega)).below
  case stop =>
    rintro W ⟨hT, v, hS⟩ hD
    have hS2 := hS.chg (Chg.put (Z := fun b => b = W0.heap.size) (.deferred none) W0.heap.size rfl) (fun b hb => by omega)
    have e1 : res = .pointer none := by rw [← HR.out, hT]; rfl
    subst e1
    refine .inl ⟨W0.heap.size, #[], _, .pointer none, rfl, run_takeDeferred hD, ?_, rfl, hS2.below⟩
    have := (cell_1 hS2.b1).1
    simp [results, Tryz.results22, go_sem, this]
end Go.Proofs.YtcicnbbnkeellaaGreatDoor
