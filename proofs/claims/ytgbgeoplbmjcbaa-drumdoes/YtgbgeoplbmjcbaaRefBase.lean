/- The document's own drum in memory. -/
import Derived.Test.YtgbgeoplbmjcbaaLastWalk
namespace Go.Proofs.Ytgbgeoplbmjcbaa
open Go.RowKit Go.Lib

/-- A page of the document's drum: 256 bytes at the head of a block. -/
def PgAt (w : World) (Y : Nat → Prop) (v : Value) (l : List UInt8) : Prop :=
  ∃ b c arr, v = .slice (some ⟨b, 0, none⟩) 256 c ∧ Y b ∧ w.heap[b]? = some (.cells arr 5 (0, 0)) ∧ arr.toList.take 256 = byteCells l ∧ l.length = 256
theorem PgAt.on {w w' : World} {Y Y' : Nat → Prop} {v : Value} {l : List UInt8} (h : PgAt w Y v l) (hb : ∀ b arr, Y b → w.heap[b]? = some (.cells arr 5 (0, 0)) → w'.heap[b]? = some (.cells arr 5 (0, 0))) (hy : ∀ k, Y k → Y' k) : PgAt w' Y' v l := by
  obtain ⟨b, c, arr, rfl, h1, h2, h3, h4⟩ := h
  exact ⟨b, c, arr, rfl, hy b h1, hb b arr h1 h2, h3, h4⟩
theorem PgAt.range {w : World} {Y : Nat → Prop} {v : Value} {l : List UInt8} (h : PgAt w Y v l) : ∃ b c, v = .slice (some ⟨b, 0, none⟩) 256 c ∧ w.rangeAt b 0 (byteCells l) := by
  obtain ⟨b, c, arr, rfl, h1, h2, h3, h4⟩ := h
  refine ⟨b, c, rfl, fun j u hj => ?_⟩
  have hjl := (List.getElem?_eq_some_iff.1 hj).1
  rw [byteCells_length, h4] at hjl
  rw [Nat.zero_add, cell_of_row _ _ _ _ _ _ h2, ← hj, ← h3, List.getElem?_take_of_lt hjl, Array.getElem?_toList]

/-- Its blocks: its own at m with the cells C; the lists of what is safe, of which pages wait, and of what was written. -/
structure RefR (w : World) (Y : Nat → Prop) (m n : Nat) (C : Array Value) (sv wv hv : Value) (ss hs : List Value) (safe : List UInt8) (log : List (Nat × List UInt8)) : Prop where
  hm : Y m
  lt : ∀ k, Y k → k < w.heap.size
  ys : ∀ k, sv.ownBlock = some k → Y k
  yw : ∀ k, wv.ownBlock = some k → Y k
  yh : ∀ k, hv.ownBlock = some k → Y k
  ne : ∀ k, sv.ownBlock = some k → hv.ownBlock ≠ some k
  b0 : w.heap[m]? = some (.cells C 32 (0, 0))
  bs : w.ownsRow 0 37 1 sv n ss
  bw : w.ownsRow 0 3 1 wv log.length (log.map fun x => .int .i64 (x.1 : Int))
  bh : w.ownsRow 0 37 1 hv log.length hs
  ps : ∀ i : Nat, i < n → ∃ v, ss[i]? = some v ∧ PgAt w Y v (pageOf safe i)
  ph : ∀ (j : Nat) (x : Nat × List UInt8), log[j]? = some x → ∃ v, hs[j]? = some v ∧ PgAt w Y v x.2

/-- Only blocks of other kinds than those of pages, lists and its own are changed: what is behind. -/
theorem RefR.keep {w w' : World} {Y Y' : Nat → Prop} {m n : Nat} {C : Array Value} {sv wv hv : Value} {ss hs : List Value} {safe : List UInt8} {log : List (Nat × List UInt8)} (h : RefR w Y m n C sv wv hv ss hs safe log)
    (hb : ∀ k, Y k → w'.heap[k]? = w.heap[k]?) (hy : ∀ k, Y k → Y' k) (hl : ∀ k, Y' k → k < w'.heap.size) : RefR w' Y' m n C sv wv hv ss hs safe log := by
  refine ⟨hy m h.hm, hl, fun k hk => hy k (h.ys k hk), fun k hk => hy k (h.yw k hk), fun k hk => hy k (h.yh k hk), h.ne, (hb m h.hm).trans h.b0,
    ownsRow_block h.bs (fun k hk => hb k (h.ys k hk)), ownsRow_block h.bw (fun k hk => hb k (h.yw k hk)), ownsRow_block h.bh (fun k hk => hb k (h.yh k hk)), ?_, ?_⟩
  · intro i hi
    obtain ⟨v, e, hp⟩ := h.ps i hi
    exact ⟨v, e, hp.on (fun b arr hyb he => (hb b hyb).trans he) hy⟩
  · intro j x hj
    obtain ⟨v, e, hp⟩ := h.ph j x hj
    exact ⟨v, e, hp.on (fun b arr hyb he => (hb b hyb).trans he) hy⟩
theorem RefR.on {w w' : World} {X X' Y : Nat → Prop} {m n : Nat} {C : Array Value} {sv wv hv : Value} {ss hs : List Value} {safe : List UInt8} {log : List (Nat × List UInt8)} (h : RefR w Y m n C sv wv hv ss hs safe log) (hs' : Step X X' w w') (hd : ∀ k, Y k → ¬ X k) : RefR w' Y m n C sv wv hv ss hs safe log :=
  h.keep (fun k hk => hs'.block k (h.lt k hk) (hd k hk)) (fun _ h => h) (fun k hk => Nat.lt_of_lt_of_le (h.lt k hk) hs'.size)
theorem RefR.drew {w : World} {Y : Nat → Prop} {m n : Nat} {C : Array Value} {sv wv hv : Value} {ss hs : List Value} {safe : List UInt8} {log : List (Nat × List UInt8)} (h : RefR w Y m n C sv wv hv ss hs safe log) : RefR w.drew Y m n C sv wv hv ss hs safe log :=
  h.keep (fun _ _ => rfl) (fun _ h => h) h.lt

/-- One of the drum's own cells is set. -/
theorem RefR.set {w : World} {Y : Nat → Prop} {m n : Nat} {C : Array Value} {sv wv hv : Value} {ss hs : List Value} {safe : List UInt8} {log : List (Nat × List UInt8)} (h : RefR w Y m n C sv wv hv ss hs safe log) (i : Nat) (x : Value) : RefR (w.setCell ⟨m, i, none⟩ x) Y m n (C.setIfInBounds i x) sv wv hv ss hs safe log := by
  have hne : ∀ (k : Nat) (c : Array Value) (t : TypeId) (f : Nat × Nat), w.heap[k]? = some (Obj.cells c t f) → t ≠ 32 → (w.setCell ⟨m, i, none⟩ x).heap[k]? = w.heap[k]? := fun k c t f hk ht => heap_setCell_other _ _ _ _ (ne_type hk h.b0 ht)
  have hrow : ∀ (v : Value) (e : TypeId) (k : Nat) (xs : List Value) (N : Nat), e ≠ 32 → w.ownsRow 0 e 1 v N xs → v.ownBlock = some k → (w.setCell ⟨m, i, none⟩ x).heap[k]? = w.heap[k]? := fun v e k xs N he ho hk => by
    obtain ⟨c, hc⟩ := own_ne ho hk
    exact hne k c e _ hc he
  refine ⟨h.hm, fun k hk => by simpa using h.lt k hk, h.ys, h.yw, h.yh, h.ne, heap_setCell_same _ _ _ _ _ _ h.b0, ownsRow_block h.bs (fun k hk => hrow _ _ k _ _ (by decide) h.bs hk), ownsRow_block h.bw (fun k hk => hrow _ _ k _ _ (by decide) h.bw hk), ownsRow_block h.bh (fun k hk => hrow _ _ k _ _ (by decide) h.bh hk), ?_, ?_⟩
  · intro j hj
    obtain ⟨v, e, hp⟩ := h.ps j hj
    exact ⟨v, e, hp.on (fun b arr hyb he => (hne b arr 5 _ he (by decide)).trans he) (fun _ h => h)⟩
  · intro j y hj
    obtain ⟨v, e, hp⟩ := h.ph j y hj
    exact ⟨v, e, hp.on (fun b arr hyb he => (hne b arr 5 _ he (by decide)).trans he) (fun _ h => h)⟩
/-- Nothing waits any more. -/
theorem RefR.free {w : World} {Y : Nat → Prop} {m n : Nat} {C : Array Value} {sv wv hv : Value} {ss hs : List Value} {safe : List UInt8} {log : List (Nat × List UInt8)} (h : RefR w Y m n C sv wv hv ss hs safe log) : RefR w Y m n C sv (.slice none 0 0) (.slice none 0 0) ss [] safe [] :=
  ⟨h.hm, h.lt, h.ys, fun k hk => (by cases hk), fun k hk => (by cases hk), fun k _ hk => (by cases hk), h.b0, h.bs, World.ownsRow_nil _ _ _ _, World.ownsRow_nil _ _ _ _, h.ps, fun j x hj => (by simp at hj)⟩
/-- A page is laid in the place of another one among those that are safe. -/
theorem RefR.lay {w : World} {Y : Nat → Prop} {m n : Nat} {C : Array Value} {sv wv hv : Value} {ss hs : List Value} {safe : List UInt8} {log : List (Nat × List UInt8)} (h : RefR w Y m n C sv wv hv ss hs safe log) (i : Nat) (hi : i < n) (v : Value) (safe' : List UInt8) (g cap : Nat) (hsv : sv = .slice (some ⟨g, 0, none⟩) n cap)
    (hv' : PgAt w Y v (pageOf safe' i)) (hsafe : ∀ j, j < n → j ≠ i → pageOf safe' j = pageOf safe j) : ∃ ss', RefR (w.setCell ⟨g, i, none⟩ v) Y m n C sv wv hv ss' hs safe' log := by
  subst hsv
  rcases h.bs.2 with ⟨e, _⟩ | ⟨g', cap', cur, e, hb, hg, hn, hmx, hsz, ht⟩
  · cases e
  cases e
  have hne : ∀ (k : Nat) (c : Array Value) (t : TypeId) (f : Nat × Nat), w.heap[k]? = some (Obj.cells c t f) → t ≠ 37 → (w.setCell ⟨g, i, none⟩ v).heap[k]? = w.heap[k]? := fun k c t f hk ht => heap_setCell_other _ _ _ _ (ne_type hk hg ht)
  have hlen : ss.length = n := by have := h.bs.1; omega
  refine ⟨ss.set i v, h.hm, fun k hk => by simpa using h.lt k hk, h.ys, h.yw, h.yh, h.ne, (hne m _ _ _ h.b0 (by decide)).trans h.b0, ⟨by simp [hlen], .inr ⟨g, cap, cur.setIfInBounds i v, rfl, hb, heap_setCell_same _ _ _ _ _ _ hg, hn, hmx, by simpa using hsz, ?_⟩⟩, ?_, ?_, ?_, ?_⟩
  · rw [← ht, Array.toList_setIfInBounds, List.take_set]
  · refine ownsRow_block h.bw (fun k hk => ?_)
    obtain ⟨c, hc⟩ := own_ne h.bw hk
    exact hne k c 3 _ hc (by decide)
  · refine ownsRow_block h.bh (fun k hk => heap_setCell_other _ _ _ _ (fun e => h.ne g rfl ((show k = g from e) ▸ hk)))
  · intro j hj
    by_cases e : j = i
    · subst e
      exact ⟨v, by rw [List.getElem?_set_self (by omega)], hv'.on (fun b arr _ he => (hne b arr 5 _ he (by decide)).trans he) (fun _ h => h)⟩
    · obtain ⟨u, e1, hp⟩ := h.ps j hj
      refine ⟨u, by rw [List.getElem?_set_ne (Ne.symm e)]; exact e1, ?_⟩
      rw [hsafe j hj e]
      exact hp.on (fun b arr _ he => (hne b arr 5 _ he (by decide)).trans he) (fun _ h => h)
  · intro j y hj
    obtain ⟨u, e1, hp⟩ := h.ph j y hj
    exact ⟨u, e1, hp.on (fun b arr _ he => (hne b arr 5 _ he (by decide)).trans he) (fun _ h => h)⟩
/-- The cells of its own block. -/
def refC (sv wv hv : Value) (power : Bool) (count armed k : Int) : Array Value := #[sv, wv, hv, .bool power, .int .i64 count, .int .i64 armed, .int .i64 k]
/-- The document's drum. -/
def Ref (w : World) (Y : Nat → Prop) (m n : Nat) (safe : List UInt8) (log : List (Nat × List UInt8)) (count : Nat) (power : Bool) (armed : Nat) (k : Int) : Prop :=
  ∃ sv wv hv ss hs, RefR w Y m n (refC sv wv hv power count armed k) sv wv hv ss hs safe log
theorem RefR.cells {w : World} {Y : Nat → Prop} {m n : Nat} {a b c d e f g : Value} {sv wv hv : Value} {ss hs : List Value} {safe : List UInt8} {log : List (Nat × List UInt8)} (h' : RefR w Y m n #[a, b, c, d, e, f, g] sv wv hv ss hs safe log) :
    w.cell? ⟨m, 0, none⟩ = some a ∧ w.cell? ⟨m, 1, none⟩ = some b ∧ w.cell? ⟨m, 2, none⟩ = some c ∧ w.cell? ⟨m, 3, none⟩ = some d ∧ w.cell? ⟨m, 4, none⟩ = some e ∧ w.cell? ⟨m, 5, none⟩ = some f ∧ w.cell? ⟨m, 6, none⟩ = some g ∧ ∀ i, w.frozen? ⟨m, i, none⟩ = false := by
  have h := h'.b0
  exact ⟨by rw [cell_of_row _ _ _ _ _ _ h]; rfl, by rw [cell_of_row _ _ _ _ _ _ h]; rfl, by rw [cell_of_row _ _ _ _ _ _ h]; rfl, by rw [cell_of_row _ _ _ _ _ _ h]; rfl, by rw [cell_of_row _ _ _ _ _ _ h]; rfl, by rw [cell_of_row _ _ _ _ _ _ h]; rfl, by rw [cell_of_row _ _ _ _ _ _ h]; rfl, fun i => frozen_of_row _ _ i _ _ h⟩
/-- What a list's value looks like, and its cells. -/
theorem row_cells {w : World} {e : TypeId} {v : Value} {n : Nat} {xs : List Value} (h : w.ownsRow 0 e 1 v n xs) : ∃ a cap, v = .slice a n cap ∧ ∀ i u, xs[i]? = some u → ∃ g, a = some ⟨g, 0, none⟩ ∧ w.cell? ⟨g, i, none⟩ = some u ∧ w.frozen? ⟨g, i, none⟩ = false := by
  obtain ⟨hl, h⟩ := h
  rcases h with ⟨rfl, rfl⟩ | ⟨g, cap, cur, rfl, hb, hg, hn, hmx, hsz, ht⟩
  · refine ⟨_, _, rfl, fun i u hi => ?_⟩
    have := (List.getElem?_eq_some_iff.1 hi).1
    omega
  · refine ⟨_, _, rfl, fun i u hi => ⟨g, rfl, ?_, frozen_of_row _ _ _ _ _ hg⟩⟩
    have hil := (List.getElem?_eq_some_iff.1 hi).1
    rw [cell_of_row _ _ _ _ _ _ hg, ← hi, ← ht, List.getElem?_take_of_lt (by omega), Array.getElem?_toList]

theorem arm_ref (w : World) (Y : Nat → Prop) (m n : Nat) (safe : List UInt8) (log : List (Nat × List UInt8)) (count : Nat) (power : Bool) (armed : Nat) (k a z : Int) (h : Ref w Y m n safe log count power armed k) :
    Calls Try.prog 23 #[.pointer (some ⟨m, 0, none⟩), .int .i64 a, .int .i64 z] w fun e w' => e = .returned (.tuple #[]) ∧ Ref w' Y m n safe log count power a.toNat z ∧ Step Y Y w w' := by
  obtain ⟨sv, wv, hv, ss, hs, hr⟩ := h
  obtain ⟨c0, c1, c2, c3, c4, c5, c6, fz⟩ := hr.cells
  by_cases h0 : a < 0
  · have e : a.toNat = 0 := by omega
    rw [e]
    go_enter Try.func23, Try.ntmps23
    go_wp2
    go_end0
    exact ⟨rfl, ⟨sv, wv, hv, ss, hs, ((hr.set 5 (.int .i64 a)).set 5 (.int .i64 0)).set 6 (.int .i64 z)⟩, (((Step.refl Y w).set hr.hm _).set hr.hm _).set hr.hm _⟩
  · have e : (a.toNat : Int) = a := by omega
    have hR : Ref ((w.setCell ⟨m, 5, none⟩ (.int .i64 a)).setCell ⟨m, 6, none⟩ (.int .i64 z)) Y m n safe log count power a.toNat z := by
      refine ⟨sv, wv, hv, ss, hs, ?_⟩
      have := (hr.set 5 (.int .i64 a)).set 6 (.int .i64 z)
      show RefR _ Y m n #[sv, wv, hv, .bool power, .int .i64 (count : Int), .int .i64 (a.toNat : Int), .int .i64 z] sv wv hv ss hs safe log
      rw [e]
      exact this
    clear e
    go_enter Try.func23, Try.ntmps23
    go_wp2
    go_end0
    exact ⟨rfl, hR, ((Step.refl Y w).set hr.hm _).set hr.hm _⟩
end Go.Proofs.Ytgbgeoplbmjcbaa
