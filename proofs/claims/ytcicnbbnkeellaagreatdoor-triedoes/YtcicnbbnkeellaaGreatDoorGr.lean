/- (*node).grow: the node that a pattern's words lead to, made where it isn't there. Conditions: those that each row states. -/
import Derived.Test.YtcicnbbnkeellaaGreatDoorSk
import Derived.Test.YtcicnbbnkeellaaGreatDoorGw
import Derived.Test.YtcicnbbnkeellaaGreatDoorRh
namespace Go.Proofs.YtcicnbbnkeellaaGreatDoor
open Go.RowKit Go.Shelf
attribute [local go_sem] Oper.semAt_some
set_option maxRecDepth 100000

def ClnW : Prop := ∀ (l : List UInt8) (w : World), l.length ≤ 64 → Calls Tryz.prog 50 #[str l] w fun e w' => e = .returned (str l) ∧ Below w.heap.size w w'

/-- How far a tree has grown. -/
structure GrS (w W : World) (N : Nat) (T : Tr) (p : List Wd) (T' : Tr) (nk : Nd) : Prop where
  os : W.os = w.os
  tape : W.tape = w.tape
  output : W.output = w.output
  size : w.heap.size + 4 ≤ W.heap.size
  keep : ∀ b, b < w.heap.size → ¬ XT T b → W.heap[b]? = w.heap[b]?
  new : ∀ b, XT T' b → (XT T b ∧ b < w.heap.size) ∨ w.heap.size + 6 ≤ b
  b0 : W.heap[w.heap.size]? = some (.cells #[ptrO (some nk.q)] 47 (0, 0))
  at' : T' p = some nk
  tr : TrW W (N + p.length) T'
  ext : ∀ p nd, T p = some nd → T' p = some nd
  ids : ∀ p, idsAt T' p = idsAt T p
def gwW (w : World) (q : Nat) (l : List UInt8) : World := (((w.alloc (.cells #[ptrO (some q)] 47)).alloc (.cells #[str l] 9)).alloc (.cells #[str [46]] 9)).alloc (.cells #[.int .i64 0] 3)
theorem gwW_size (w : World) (q : Nat) (l : List UInt8) : (gwW w q l).heap.size = w.heap.size + 4 := by simp only [gwW, World.size_alloc]
theorem gwW_new (w : World) (q : Nat) (l : List UInt8) : Below w.heap.size w (gwW w q l) ∧ (gwW w q l).heap[w.heap.size]? = some (.cells #[ptrO (some q)] 47 (0, 0)) ∧ SqC l (w.heap.size + 2) (w.heap.size + 1) (w.heap.size + 3) 0 (gwW w q l) := by
  have hs := gwW_size w q l
  unfold gwW at *
  refine ⟨?_, ?_, ?_, ?_, ?_⟩
  · exact ((((Below.refl _ w).alloc (Nat.le_refl _) _).alloc (by simp only [World.size_alloc]; omega) _).alloc (by simp only [World.size_alloc]; omega) _).alloc (by simp only [World.size_alloc]; omega) _
  all_goals
    simp only [alloc_at', World.size_alloc]
    repeat (first | rw [if_pos (by omega)] | rw [if_neg (by omega)])
    try rfl
theorem GrS.chg {w W W' : World} {N : Nat} {T T' : Tr} {p : List Wd} {nk : Nd} (h : GrS w W N T p T' nk) {Z : Nat → Prop} (hc : Chg Z W W') (hz : ∀ b, Z b → w.heap.size < b ∧ b < w.heap.size + 6) : GrS w W' N T p T' nk := by
  have hx : ∀ b, XT T' b → ¬ Z b := fun b hb hzb => by
    have h1 := hz b hzb
    rcases h.new b hb with h2 | h2
    · have := h2.2; omega
    · omega
  exact ⟨hc.os.trans h.os, hc.tape.trans h.tape, hc.output.trans h.output, by rw [hc.size]; exact h.size, fun b hb hn => (hc.block b (fun e => by have := hz b e; omega)).trans (h.keep b hb hn), h.new, (hc.block _ (fun e => by have := hz _ e; omega)).trans h.b0, h.at', h.tr.on (fun b hb => hc.block b (hx b hb)), h.ext, h.ids⟩
theorem GrS.start {w : World} {N : Nat} {T : Tr} (h : TrW w N T) {nd : Nd} (hp : T [] = some nd) (l : List UInt8) : GrS w (gwW w nd.q l) N T [] T nd := by
  obtain ⟨h1, h2, h3⟩ := gwW_new w nd.q l
  exact ⟨h1.os, h1.tape, h1.output, Nat.le_of_eq (gwW_size w nd.q l).symm, fun b hb _ => h1.block b hb, fun b hb => .inl ⟨hb, h.lt hb⟩, h2, hp, h.below h1, fun _ _ e => e, fun _ => rfl⟩
/-- The child is there. -/
theorem GrS.go {w W : World} {N : Nat} {T T' : Tr} {p : List Wd} {nk nx : Nd} (h : GrS w W N T p T' nk) {k : Wd} (hx : T' (p ++ [k]) = some nx) : GrS w (W.setCell ⟨w.heap.size, 0, none⟩ (ptrO (some nx.q))) N T (p ++ [k]) T' nx := by
  have hk : ∀ b, b ≠ w.heap.size → (W.setCell ⟨w.heap.size, 0, none⟩ (ptrO (some nx.q))).heap[b]? = W.heap[b]? := fun b hb => RowKit.Below.heap_setCell _ _ _ _ hb
  have hX : ∀ b, XT T' b → b ≠ w.heap.size := fun b hb => by
    rcases h.new b hb with h2 | h2
    · have := h2.2; omega
    · omega
  refine ⟨h.os, h.tape, h.output, by simpa using h.size, fun b hb hn => (hk b (by omega)).trans (h.keep b hb hn), h.new, ?_, hx, ?_, h.ext, h.ids⟩
  · simp only [World.setCell, Array.getElem?_modify, if_pos, h.b0]
    simp
  · exact (h.tr.on (fun b hb => hk b (hX b hb))).mono (by simp)
/-- The child is made. -/
theorem GrS.made {w W W' : World} {N : Nat} {T T' : Tr} {p : List Wd} {nk : Nd} (h : GrS w W N T p T' nk) {k : Wd} (hx : T' (p ++ [k]) = none) (hw : k.length ≤ 64 ∧ ∀ c ∈ k, c ≠ 46) (hd : p.length < 8) (hD : w.heap.size + 6 ≤ W.heap.size) {q m : Nat}
    (hqn : W.heap.size ≤ q) (hmn : W.heap.size ≤ m) (hq : W'.heap[q]? = some (.cells #[.map (some m), .slice none 0 0] 58 (0, 0))) (hm : MapF W' m 0 (fun _ => none)) (ho : W'.os = W.os) (ht : W'.tape = W.tape) (hou : W'.output = W.output) (hsz : W.heap.size ≤ W'.heap.size)
    (hpm : MapF W' nk.m (N + p.length + 1) (updF (fun x => (T' (p ++ [x])).map Nd.q) k (some q))) (hst : ∀ b, b < W.heap.size → b ≠ nk.m → W'.heap[b]? = W.heap[b]?) :
    TrW W' (N + (p ++ [k]).length) (addN T' (p ++ [k]) ⟨q, m, .slice none 0 0, []⟩) ∧
    GrS w (W'.setCell ⟨w.heap.size, 0, none⟩ (ptrO (some q))) N T (p ++ [k]) (addN T' (p ++ [k]) ⟨q, m, .slice none 0 0, []⟩) ⟨q, m, .slice none 0 0, []⟩ := by
  have hxm : XT T' nk.m := ⟨p, nk, h.at', .inr (.inl rfl)⟩
  have ht2 := h.tr.add h.at' hx hw hd hq hm hqn hmn hpm (fun b hb hne => hst b (h.tr.lt hb) hne)
  rw [show N + p.length + 1 = N + (p ++ [k]).length by simp; omega] at ht2
  have hm0 : nk.m ≠ w.heap.size := fun e => by
    rcases h.new _ hxm with h2 | h2
    · have := h2.2; omega
    · omega
  have hX : ∀ b, XT (addN T' (p ++ [k]) ⟨q, m, .slice none 0 0, []⟩) b → (XT T b ∧ b < w.heap.size) ∨ w.heap.size + 6 ≤ b := fun b hb => by
    rcases XT_add hb with h1 | rfl | rfl
    · exact h.new b h1
    · right; omega
    · right; omega
  refine ⟨ht2, ⟨ho.trans h.os, ht.trans h.tape, hou.trans h.output, by have := h.size; simp; omega, fun b hb hn => ?_, hX, ?_, addN_same _ _ _, ?_, fun x nx hnx => ?_, fun x => ?_⟩⟩
  · rw [RowKit.Below.heap_setCell _ _ _ _ (show b ≠ w.heap.size by omega), hst b (by have := h.size; omega) (fun e => hn (by
      rcases h.new _ hxm with h2 | h2
      · rw [e]; exact h2.1
      · omega))]
    exact h.keep b hb hn
  · have e1 : W'.heap[w.heap.size]? = W.heap[w.heap.size]? := hst _ (by have := h.size; omega) (fun e => hm0 e.symm)
    simp only [World.setCell, Array.getElem?_modify, if_pos, e1, h.b0]
    simp
  · refine ht2.on (fun b hb => RowKit.Below.heap_setCell _ _ _ _ (fun e => ?_))
    rcases hX b hb with h2 | h2
    · have h3 := h2.2
      have h4 : b = w.heap.size := e
      omega
    · have h4 : b = w.heap.size := e
      omega
  · have := h.ext x nx hnx
    rw [addN_other _ _ _ (fun e => by rw [e, hx] at this; cases this)]
    exact this
  · rw [addN_ids _ _ _ _ hx]
    exact h.ids x
end Go.Proofs.YtcicnbbnkeellaaGreatDoor
