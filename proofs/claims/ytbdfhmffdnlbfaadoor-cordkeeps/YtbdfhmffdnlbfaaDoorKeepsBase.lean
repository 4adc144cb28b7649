/- What stays, while elder rows of the call's own are written: for the statement CordKeeps; with the conditions that each fact states. -/
import Derived.Test.YtbdfhmffdnlbfaaDoorRefCalls
import Derived.Test.YtbdfhmffdnlbfaaDoorReadsWalk
import Derived.Test.YtbdfhmffdnlbfaaDoorAnewWalk
import Derived.Deep.RegionWith
namespace Go.Proofs.YtbdfhmffdnlbfaaDoor
open Go.RowKit Go.Lib

/-- What is the call's own stays, while an elder block is written. -/
theorem Own.past {w w' : World} {B X : Nat} {v : Value} {l : List UInt8} (h : Own w B v l) (hg : w.grownBy w' (some X)) (hX : X < B) : Own w' B v l := by
  refine World.ownsRow.kept h hg ?_
  cases e : v.ownBlock with
  | none => exact .inl rfl
  | some k =>
    have := (World.ownsRow.lt h k e).1
    exact .inr (fun e' => by cases e'; omega)
theorem Own.mono {w : World} {B B' : Nat} {v : Value} {l : List UInt8} (h : Own w B v l) (hB : B' ≤ B) : Own w B' v l := by
  obtain ⟨h1, h2 | ⟨g, cap, cur, hv, hg, r⟩⟩ := h
  · exact ⟨h1, .inl h2⟩
  · exact ⟨h1, .inr ⟨g, cap, cur, hv, Nat.le_trans hB hg, r⟩⟩

set_option maxHeartbeats 400000 in
theorem new_own (w : World) (v : Value) (l : List UInt8) (h : RdA w v l) (hl : l.length ≤ 140737488355328) :
    Calls Tryd.prog 14 #[v] w fun e w' => ∃ R u, e = .returned (.pointer (some ⟨R, 0, none⟩)) ∧ w.heap.size ≤ R ∧ RdrAt w' R u false ∧ Own w' w.heap.size u l ∧ Below w.heap.size w w' := by
  go_enter Tryd.func14, Tryd.ntmps14
  go_wp2_with fail
  refine (clone_any w v l h hl).mono ?_
  rintro e w1 ⟨v1, rfl, ho1, hb1⟩
  obtain ⟨ad, n1, c1, rfl⟩ := ho1.rd.shape
  go_wp2
  go_ret
  have hs := hb1.size
  exact ⟨w1.heap.size, _, rfl, hs, heap_alloc_new _ _, ho1.on (below_new w1 _), hb1.alloc hs _⟩

/-- A row that the call may write: so many cells are there, and none is frozen. -/
def Row (w : World) (X n : Nat) : Prop := ∃ cur, w.heap[X]? = some (.cells cur 5 (0, 0)) ∧ n ≤ cur.size
theorem Row.cell {w : World} {X n k : Nat} (h : Row w X n) (hk : k < n) : ∃ v, w.cell? ⟨X, k, none⟩ = some v := by
  obtain ⟨cur, h1, h2⟩ := h
  exact ⟨cur[k], by simp [World.cell?, h1, Array.getElem?_eq_getElem (show k < cur.size by omega)]⟩
theorem Row.frozen {w : World} {X n : Nat} (h : Row w X n) (k : Nat) : w.frozen? ⟨X, k, none⟩ = false := by
  obtain ⟨cur, h1, _⟩ := h
  simp [World.frozen?, h1]
theorem Row.set {w : World} {X n : Nat} (h : Row w X n) (k : Nat) (v : Value) : Row (w.setCell ⟨X, k, none⟩ v) X n := by
  obtain ⟨cur, h1, h2⟩ := h
  refine ⟨cur.setIfInBounds k v, ?_, by simpa using h2⟩
  simp [World.setCell, Array.getElem?_modify, h1]
theorem Own.row {w : World} {B : Nat} {v : Value} {l : List UInt8} (h : Own w B v l) : (v = .slice none 0 0 ∧ l = []) ∨ ∃ X c, v = .slice (some ⟨X, 0, none⟩) l.length c ∧ l.length ≤ c ∧ B ≤ X ∧ X < w.heap.size ∧ Row w X l.length := by
  obtain ⟨h1, ⟨e, h0⟩ | ⟨g, cap, cur, rfl, hb, hg, hn, _, hs, _⟩⟩ := h
  · rw [byteCells_length] at h1
    exact .inl ⟨e, List.length_eq_zero_iff.1 h0⟩
  · exact .inr ⟨g, cap, rfl, hn, hb, (Array.getElem?_eq_some_iff.1 hg).1, cur, hg, by omega⟩

theorem Row.past {w : World} {X Y n : Nat} (h : Row w X n) (hne : X ≠ Y) (k : Nat) (v : Value) : Row (w.setCell ⟨Y, k, none⟩ v) X n := by
  obtain ⟨cur, h1, h2⟩ := h
  exact ⟨cur, by rw [Below.heap_setCell _ _ _ _ hne]; exact h1, h2⟩
theorem Row.on {w w' : World} {X n : Nat} (h : Row w X n) {B : Nat} (hb : Below B w w') (hX : X < B) : Row w' X n := by
  obtain ⟨cur, h1, h2⟩ := h
  exact ⟨cur, (hb.block X hX).trans h1, h2⟩
theorem own_take {w : World} {B M n c : Nat} {L : List UInt8} (h : Own w B (.slice (some ⟨M, 0, none⟩) n c) L) (k : Nat) (hk : k ≤ L.length) : RdB w (.slice (some ⟨M, 0, none⟩) k c) (L.take k) := by
  rcases h.rd with ⟨e, _⟩ | ⟨b, o, c', e, hlc, hc⟩
  · cases e
  · cases e
    exact RdB.take k hk hc hlc

/-- All that the statement asks for in the end, in whatever world. -/
structure Kp (w0 : World) (B4 B5 B6 B7 R Q : Nat) (y z u v : Value) (ly lz l : List UInt8) (w : World) : Prop where
  y : Own w B4 y ly
  z : Own w B5 z lz
  r : RdrAt w R u false
  u : Own w B6 u l
  q : RefAt w Q v false
  v : Own w B7 v l
  b : Below w0.heap.size w0 w
theorem Kp.set {w0 : World} {B4 B5 B6 B7 R Q : Nat} {y z u v : Value} {ly lz l : List UInt8} {w : World} (h : Kp w0 B4 B5 B6 B7 R Q y z u v ly lz l w) (h5 : B4 ≤ B5) (h6 : B5 ≤ B6) (h7 : B6 ≤ B7) (hR : B6 ≤ R) (hQ : B7 ≤ Q)
    (X k : Nat) (x : Value) (hX : X < B4) (h0 : w0.heap.size ≤ X) : Kp w0 B4 B5 B6 B7 R Q y z u v ly lz l (w.setCell ⟨X, k, none⟩ x) :=
  have hg := grownBy_setCell w X k x
  ⟨h.y.past hg hX, h.z.past hg (by omega), (Below.heap_setCell _ _ _ _ (by show R ≠ X; omega)).trans h.r, h.u.past hg (by omega), (Below.heap_setCell _ _ _ _ (by show Q ≠ X; omega)).trans h.q, h.v.past hg (by omega), h.b.setCell (p := ⟨X, k, none⟩) h0 x⟩
theorem Kp.rdr {w0 : World} {B4 B5 B6 B7 R Q : Nat} {y z u v : Value} {ly lz l : List UInt8} {w : World} (h : Kp w0 B4 B5 B6 B7 R Q y z u v ly lz l w) : Rdr w R false l ∧ Ref w Q false l := ⟨⟨u, h.r, h.u.rd⟩, ⟨v, h.q, h.v.rd⟩⟩
end Go.Proofs.YtbdfhmffdnlbfaaDoor
