/- TapeKeeps walked. -/
import Derived.Test.YtpbpcefcnkfbpaaWk
import Derived.Deep.RegionWith
namespace Go.Proofs.Ytpbpcefcnkfbpaa
open Go.RowKit Go.Lib Go.Shelf
set_option maxRecDepth 100000

def spare : List UInt8 := [115, 112, 97, 114, 101, 32, 114, 111, 111, 109, 32, 111, 102, 32, 105, 116]
def spare_of (l : List UInt8) : ByteArray := (⟨l.toArray⟩ : ByteArray) ++ ⟨#[115, 112, 97, 114, 101, 32, 114, 111, 111, 109, 32, 111, 102, 32, 105, 116]⟩
theorem spare_string (l : List UInt8) : spare_of l = ⟨(l ++ spare).toArray⟩ := by
  apply ByteArray.ext
  simp [spare_of, spare]

/-- A slice of one's own that has more: the block beneath it. -/
theorem own16 {w : World} {B : Nat} {v : Value} {l : List UInt8} (h : Sl.Own w B v (l ++ spare)) :
    ∃ g c C, v = .slice (some ⟨g, 0, none⟩) (l.length + 16) c ∧ B ≤ g ∧ l.length + 16 ≤ c ∧ C.size = c ∧ w.heap[g]? = some (.cells C 5 (0, 0)) ∧ Sl.RdA w (.slice (some ⟨g, 0, none⟩) l.length c) l ∧ Sl.RdA w (.slice (some ⟨g, 0, none⟩) (l.length + 16) c) (l ++ spare) := by
  have e : (l ++ spare).length = l.length + 16 := by simp [spare]
  have hrd := h.rd
  rcases h.2 with ⟨_, h0⟩ | ⟨g, cap, cur, rfl, hb, hg, hc, _, hs, ht⟩
  · rw [e] at h0; omega
  · rw [e] at hrd hc ⊢
    have hall : Sl.RdA w (.slice (some ⟨g, 0, none⟩) (l.length + 16) cap) (l ++ spare) := .inl hrd
    refine ⟨g, cap, cur, rfl, hb, hc, by simpa using hs, hg, ?_, hall⟩
    rcases hrd with ⟨h1, _⟩ | ⟨b, o, c, h1, _, hcc⟩
    · cases h1
    · rw [e] at h1
      cases h1
      refine .inl (.inr ⟨g, 0, cap, rfl, by omega, fun i hi => ?_⟩)
      rw [hcc i (by rw [e]; omega)]
      simp [List.getD_eq_getElem?_getD, List.getElem?_append_left hi]

/-- The list of what is wanted. -/
def WN (w wr : World) (X : Nat → Prop) (t : Nat) (v : Value) (rs : List (List UInt8)) : Prop :=
  ∃ vals : List Value, wr.ownsRow 0 22 1 v rs.length vals ∧ (∀ k, v.ownBlock = some k → w.heap.size ≤ k ∧ ¬ X k ∧ k ≠ t) ∧ ∀ (i : Nat) (r : List UInt8), rs[i]? = some r → ∃ u, vals[i]? = some u ∧ Sl.RdA w u r
theorem WN.nil (w wr : World) (X : Nat → Prop) (t : Nat) : WN w wr X t (.slice none 0 0) [] := ⟨[], World.ownsRow_nil _ _ _ _, ⟨(fun k hk => by cases hk), fun i r h => by simp at h⟩⟩
theorem WN.lt {w wr : World} {X : Nat → Prop} {t : Nat} {v : Value} {rs : List (List UInt8)} (h : WN w wr X t v rs) : ∀ k, v.ownBlock = some k → k < wr.heap.size := fun k hk => by
  obtain ⟨vals, ho, _⟩ := h
  obtain ⟨c, hc⟩ := own_ne ho hk
  exact (Array.getElem?_eq_some_iff.1 hc).1
theorem WN.on {w wr wr' : World} {X X' Y Y' : Nat → Prop} {t : Nat} {v : Value} {rs : List (List UInt8)} (h : WN w wr X t v rs) (hs : Step Y Y' wr wr') (hy : ∀ k, v.ownBlock = some k → ¬ Y k) (hx : ∀ k, X' k → X k ∨ wr.heap.size ≤ k) : WN w wr' X' t v rs := by
  have hlt := h.lt
  obtain ⟨vals, ho, hb, hr⟩ := h
  refine ⟨vals, ownsRow_block ho (fun k hk => hs.block k (hlt k hk) (hy k hk)), fun k hk => ⟨(hb k hk).1, fun hx' => ?_, (hb k hk).2.2⟩, hr⟩
  rcases hx k hx' with h' | h'
  · exact (hb k hk).2.1 h'
  · have := hlt k hk; omega
theorem WN.shape {w wr : World} {X : Nat → Prop} {t : Nat} {v : Value} {rs : List (List UInt8)} (h : WN w wr X t v rs) : ∃ a c, v = .slice a rs.length c := by
  obtain ⟨vals, ho, _⟩ := h
  rcases ho.2 with ⟨rfl, h0⟩ | ⟨g, cap, cur, rfl, _⟩
  · rw [h0]; exact ⟨_, _, rfl⟩
  · exact ⟨_, _, rfl⟩
theorem WN.push {w w1 w2 : World} {X : Nat → Prop} {t : Nat} {v v1 u : Value} {rs : List (List UInt8)} {r : List UInt8} {g1 : Nat} {xs : List Value} (hw : w.heap.size ≤ w1.heap.size) (hX : ∀ k, X k → k < w1.heap.size) (ht : t < w1.heap.size)
    (ho : w1.ownsRow 0 22 1 v rs.length xs) (hb : ∀ k, v.ownBlock = some k → w.heap.size ≤ k ∧ ¬ X k ∧ k ≠ t) (hr : ∀ (i : Nat) (r : List UInt8), rs[i]? = some r → ∃ u, xs[i]? = some u ∧ Sl.RdA w u r) (hu : Sl.RdA w u r)
    (hp : Pushed w1 w2 22 v v1 rs.length xs u g1) : WN w w2 X t v1 (rs ++ [r]) := by
  have hxl : xs.length = rs.length := by have := ho.1; omega
  refine ⟨xs ++ [u], by rw [List.length_append]; exact hp.own, fun k hk => ?_, fun i r' hi => ?_⟩
  · rw [hp.at1] at hk
    cases hk
    rcases hp.old with h | h
    · exact hb _ h
    · exact ⟨by omega, fun hx => by have := hX _ hx; omega, by omega⟩
  · by_cases hlt : i < rs.length
    · rw [List.getElem?_append_left hlt] at hi
      obtain ⟨u', h1, h2⟩ := hr i r' hi
      exact ⟨u', by rw [List.getElem?_append_left (by omega)]; exact h1, h2⟩
    · have hi' : i = rs.length := by
        have := (List.getElem?_eq_some_iff.1 hi).1
        simp at this; omega
      subst hi'
      rw [List.getElem?_append_right (Nat.le_refl _), Nat.sub_self] at hi
      cases hi
      exact ⟨u, by rw [List.getElem?_append_right (by omega), hxl, Nat.sub_self]; rfl, hu⟩
theorem own_cell {w : World} {v : Value} {n i : Nat} {vals : List Value} {u : Value} (ho : w.ownsRow 0 22 1 v n vals) (hu : vals[i]? = some u) (hin : i < n) : ∃ g c, v = .slice (some ⟨g, 0, none⟩) n c ∧ w.cell? ⟨g, i, none⟩ = some u := by
  rcases ho.2 with ⟨h1, h2⟩ | ⟨g, cap, cur, h1, _, hg, hnc, _, _, ht⟩
  · omega
  · subst h1
    refine ⟨g, cap, rfl, ?_⟩
    have e : (cur.toList.take (n * 1))[i]? = vals[i]? := by rw [ht]
    rw [List.getElem?_take_of_lt (by omega), hu] at e
    simp only [World.cell?, hg]
    simpa using e
theorem WN.rdl {w wr : World} {X : Nat → Prop} {t : Nat} {v : Value} {rs : List (List UInt8)} (h : WN w wr X t v rs) (hb : Below w.heap.size w wr) : RdL wr v rs := by
  obtain ⟨a, c, rfl⟩ := h.shape
  obtain ⟨vals, ho, _, hr⟩ := h
  refine ⟨a, c, rfl, fun i r hi => ?_⟩
  obtain ⟨u, hu, hra⟩ := hr i r hi
  obtain ⟨g, c', h1, h2⟩ := own_cell ho hu (List.getElem?_eq_some_iff.1 hi).1
  cases h1
  exact ⟨g, 0, u, rfl, by rw [Nat.zero_add]; exact h2, Sl.RdA.on hra hb⟩

theorem step_at (w : World) (b i : Nat) (u : Value) : Step (fun k => k = b) (fun k => k = b) w (w.setCell ⟨b, i, none⟩ u) := Step.set (a := ⟨b, i, none⟩) (Step.refl (fun k => k = b) w) rfl u
theorem TS.on {w w' : World} {X Y Y' : Nat → Prop} {t q n : Nat} {S : DS} {lo hi : Nat} {rs : List (List UInt8)} (h : TS w X t q n S lo hi rs) (hs : Step Y Y' w w') (hd : ∀ k, X k → ¬ Y k) (ht : ¬ Y t) : TS w' X t q n S lo hi rs :=
  ⟨h.d.on hs hd, h.tp.on (hs.block t h.tp.lt ht), h.nx, h.la, h.ar, h.dn, h.wl⟩

/-- Records that were read, whatever stands in them now. -/
def LS (wr : World) (B : Nat) (v : Value) (rs : List (List UInt8)) : Prop :=
  ∃ vals : List Value, wr.ownsRow 0 22 1 v rs.length vals ∧ ∀ (i : Nat) (r : List UInt8), rs[i]? = some r → ∃ (g : Nat) (C : Array Value), vals[i]? = some (.slice (some ⟨g, 0, none⟩) r.length r.length) ∧ B ≤ g ∧ C.size = r.length ∧ wr.heap[g]? = some (.cells C 5 (0, 0))
theorem Recs.ls {w : World} {B : Nat} {v : Value} {rs : List (List UInt8)} (h : Recs w B v rs) : LS w B v rs := by
  obtain ⟨vals, ho, _, hr⟩ := h
  refine ⟨vals, ho, fun i r hi => ?_⟩
  obtain ⟨u, hu, g, rfl, hB, hg⟩ := hr i r hi
  exact ⟨g, _, hu, hB, by simp [byteCells_length], hg⟩
theorem LS.set {w : World} {B : Nat} {v : Value} {rs : List (List UInt8)} (h : LS w B v rs) {g i : Nat} {C : Array Value} (hg : w.heap[g]? = some (.cells C 5 (0, 0))) (u : Value) : LS (w.setCell ⟨g, i, none⟩ u) B v rs := by
  obtain ⟨vals, ho, hr⟩ := h
  refine ⟨vals, ownsRow_block ho (fun k hk => ?_), fun j r hj => ?_⟩
  · obtain ⟨c, hc⟩ := own_ne ho hk
    exact heap_setCell_other _ _ _ _ (fun e => ne_type hg hc (by decide) (by first | exact e | exact e.symm))
  · obtain ⟨g', C', h1, h2, h3, h4⟩ := hr j r hj
    by_cases e : g' = g
    · subst e
      rw [hg] at h4
      cases h4
      exact ⟨g', _, h1, h2, by simpa using h3, heap_setCell_same _ _ _ _ _ _ hg⟩
    · exact ⟨g', C', h1, h2, h3, by rw [heap_setCell_other _ _ _ _ (by first | exact e | exact fun h => e h.symm)]; exact h4⟩
end Go.Proofs.Ytpbpcefcnkfbpaa
