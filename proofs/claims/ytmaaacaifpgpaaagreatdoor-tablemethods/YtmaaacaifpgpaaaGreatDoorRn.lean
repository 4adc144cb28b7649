
/- What the document's own Next reads of any bytes. Conditions: those that each row states. -/
import Derived.Test.YtmaaacaifpgpaaaGreatDoorRd
namespace Go.Proofs.YtmaaacaifpgpaaaGreatDoor
open Go.RowKit Go.Lib
set_option maxRecDepth 100000

/-- Three cells at block b, which may be written. -/
structure F3 (w : World) (b : Nat) (u0 u1 u2 : Value) : Prop where
  c0 : w.cell? ⟨b, 0, none⟩ = some u0
  c1 : w.cell? ⟨b, 1, none⟩ = some u1
  c2 : w.cell? ⟨b, 2, none⟩ = some u2
  f0 : w.frozen? ⟨b, 0, none⟩ = false
  f1 : w.frozen? ⟨b, 1, none⟩ = false
  f2 : w.frozen? ⟨b, 2, none⟩ = false
theorem F3.but {w w' : World} {b k : Nat} {u0 u1 u2 : Value} (h : F3 w b u0 u1 u2) (hb : But w w' k) (hk : b ≠ k) : F3 w' b u0 u1 u2 :=
  ⟨by rw [hb.cell b 0 hk]; exact h.c0, by rw [hb.cell b 1 hk]; exact h.c1, by rw [hb.cell b 2 hk]; exact h.c2, by rw [hb.frozen b 0 hk]; exact h.f0, by rw [hb.frozen b 1 hk]; exact h.f1, by rw [hb.frozen b 2 hk]; exact h.f2⟩
theorem F3.below {w w' : World} {b B : Nat} {u0 u1 u2 : Value} (h : F3 w b u0 u1 u2) (hb : Below B w w') (hk : b < B) : F3 w' b u0 u1 u2 :=
  ⟨by rw [hb.cell (p := ⟨b, 0, none⟩) hk]; exact h.c0, by rw [hb.cell (p := ⟨b, 1, none⟩) hk]; exact h.c1, by rw [hb.cell (p := ⟨b, 2, none⟩) hk]; exact h.c2, by rw [hb.frozen (p := ⟨b, 0, none⟩) hk]; exact h.f0, by rw [hb.frozen (p := ⟨b, 1, none⟩) hk]; exact h.f1, by rw [hb.frozen (p := ⟨b, 2, none⟩) hk]; exact h.f2⟩
theorem F3.new (w : World) (u0 u1 u2 : Value) (t : TypeId) : F3 (w.alloc (.cells #[u0, u1, u2] t)) w.heap.size u0 u1 u2 :=
  ⟨by simp [World.cell?_alloc_new], by simp [World.cell?_alloc_new], by simp [World.cell?_alloc_new], by simp, by simp, by simp⟩
theorem F3.set1 {w : World} {b : Nat} {u0 u1 u2 : Value} (h : F3 w b u0 u1 u2) (v : Value) : F3 (w.setCell ⟨b, 1, none⟩ v) b u0 v u2 :=
  ⟨by rw [World.cell?_setCell_other (h := by simp)]; exact h.c0, World.cell?_setCell_same (h := h.c1) .., by rw [World.cell?_setCell_other (h := by simp)]; exact h.c2, by rw [World.frozen?_setCell]; exact h.f0, by rw [World.frozen?_setCell]; exact h.f1, by rw [World.frozen?_setCell]; exact h.f2⟩
theorem F3.set2 {w : World} {b : Nat} {u0 u1 u2 : Value} (h : F3 w b u0 u1 u2) (v : Value) : F3 (w.setCell ⟨b, 2, none⟩ v) b u0 u1 v :=
  ⟨by rw [World.cell?_setCell_other (h := by simp)]; exact h.c0, by rw [World.cell?_setCell_other (h := by simp)]; exact h.c1, World.cell?_setCell_same (h := h.c2) .., by rw [World.frozen?_setCell]; exact h.f0, by rw [World.frozen?_setCell]; exact h.f1, by rw [World.frozen?_setCell]; exact h.f2⟩
theorem Rd.but {w w' : World} {b k : Nat} {s : List UInt8} {bad : Bool} (h : Rd w b s bad) (hb : But w w' k) (hk : b ≠ k) : Rd w' b s bad :=
  ⟨by rw [hb.cell b 0 hk]; exact h.c0, by rw [hb.cell b 1 hk]; exact h.c1, by rw [hb.frozen b 0 hk]; exact h.f0, by rw [hb.frozen b 1 hk]; exact h.f1⟩
theorem Rd.below {w w' : World} {b B : Nat} {s : List UInt8} {bad : Bool} (h : Rd w b s bad) (hb : Below B w w') (hk : b < B) : Rd w' b s bad :=
  ⟨by rw [hb.cell (p := ⟨b, 0, none⟩) hk]; exact h.c0, by rw [hb.cell (p := ⟨b, 1, none⟩) hk]; exact h.c1, by rw [hb.frozen (p := ⟨b, 0, none⟩) hk]; exact h.f0, by rw [hb.frozen (p := ⟨b, 1, none⟩) hk]; exact h.f1⟩
theorem Rd.new (w : World) (s : List UInt8) (bad : Bool) (t : TypeId) : Rd (w.alloc (.cells #[str s, .bool bad] t)) w.heap.size s bad :=
  ⟨by simp [World.cell?_alloc_new], by simp [World.cell?_alloc_new], by simp, by simp⟩
theorem num1 (l : List UInt8) (h : 0 < l.length) : numL (l.take 1) = (l.getD 0 0).toNat := by
  cases l with
  | nil => simp at h
  | cons c r => simp [numL]

end Go.Proofs.YtmaaacaifpgpaaaGreatDoor
