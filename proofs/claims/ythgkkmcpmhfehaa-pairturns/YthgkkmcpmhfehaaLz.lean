/- tape.lay: what it does. -/
import Derived.Test.YthgkkmcpmhfehaaRs
import Derived.Test.YthgkkmcpmhfehaaRh
namespace Go.Proofs.Ythgkkmcpmhfehaa
open Go.RowKit Go.Lib Go.Shelf
set_option maxRecDepth 100000

/-- A page of an image. -/
def pgI (I : List UInt8) (k : Nat) : List UInt8 := (I.drop (k * 256)).take 256
/-- So many pages of an image are written from a page on, one behind the other, till something goes wrong. -/
def runW (i : Nat) (I : List UInt8) (S : DS) : Nat → DS × Int
  | 0 => (S, 0)
  | k + 1 => if (runW i I S k).2 = 0 then ((runW i I S k).1.put (i + k) (pgI I k)).oper else runW i I S k
theorem runW_stop (i : Nat) (I : List UInt8) (S : DS) (k : Nat) (h : (runW i I S k).2 ≠ 0) : ∀ m, runW i I S (k + m) = runW i I S k
  | 0 => rfl
  | m + 1 => by
    have := runW_stop i I S k h m
    show (if (runW i I S (k + m)).2 = 0 then _ else runW i I S (k + m)) = _
    rw [this, if_neg h]
/-- What is laid at a place: what stands ahead of it on its page, the bytes, and noughts. -/
def imgOf (P : List UInt8) (lo place : Nat) (F : List UInt8) (till : Nat) : List UInt8 := cutB P lo (place / 256 * 256) (place - place / 256 * 256) ++ F ++ List.replicate (till - (place + F.length)) 0
/-- Where what is laid ends. -/
def tillOf (place L size : Nat) : Nat := min ((place + L) / 256 * 256 + 256) size
/-- Pages of an image are written, and made safe; then the first one again, with the mark, and made safe. -/
def layE (S : DS) (i : Nat) (I : List UInt8) (N pf : Nat) : DS × Int :=
  if (runW i I S N).2 ≠ 0 then runW i I S N else
  if (runW i I S N).1.flush.2 ≠ 0 then (runW i I S N).1.flush else
  if ((runW i I S N).1.flush.1.put i (pgI (I.set pf 1) 0)).oper.2 ≠ 0 then ((runW i I S N).1.flush.1.put i (pgI (I.set pf 1) 0)).oper else
  ((runW i I S N).1.flush.1.put i (pgI (I.set pf 1) 0)).oper.1.flush
/-- The whole of what lay does to a drum. -/
def layD (S : DS) (lo place : Nat) (F : List UInt8) (size : Nat) : DS × Int :=
  layE S (lo + place / 256) (imgOf S.P lo place F (tillOf place F.length size)) ((tillOf place F.length size - place / 256 * 256) / 256) (place - place / 256 * 256)

/-- What lay has laid of its own. -/
structure LyS (w W : World) (t first : Nat) (I : List UInt8) : Prop where
  size : w.heap.size + 4 ≤ W.heap.size
  b0 : W.heap[w.heap.size]? = some (.cells #[.pointer (some ⟨t, 0, none⟩)] 72 (0, 0))
  b1 : W.heap[w.heap.size + 1]? = some (.cells #[.int .i64 first] 3 (0, 0))
  b2 : W.heap[w.heap.size + 2]? = some (.cells (byteCells I).toArray 5 (0, 0))
  b3 : W.heap[w.heap.size + 3]? = some (.cells #[.slice (some ⟨w.heap.size + 2, 0, none⟩) I.length I.length] 30 (0, 0))
theorem LyS.on {w W W' : World} {t first : Nat} {I : List UInt8} (h : LyS w W t first I) (hs : W.heap.size ≤ W'.heap.size) (hb : ∀ k, k < 4 → W'.heap[w.heap.size + k]? = W.heap[w.heap.size + k]?) : LyS w W' t first I :=
  ⟨Nat.le_trans h.size hs, (hb 0 (by omega)).trans h.b0, (hb 1 (by omega)).trans h.b1, (hb 2 (by omega)).trans h.b2, (hb 3 (by omega)).trans h.b3⟩
theorem LyS.cells {w W : World} {t first : Nat} {I : List UInt8} (h : LyS w W t first I) :
    W.cell? ⟨w.heap.size, 0, none⟩ = some (.pointer (some ⟨t, 0, none⟩)) ∧ W.cell? ⟨w.heap.size + 1, 0, none⟩ = some (.int .i64 first) ∧ W.cell? ⟨w.heap.size + 3, 0, none⟩ = some (.slice (some ⟨w.heap.size + 2, 0, none⟩) I.length I.length) :=
  ⟨by rw [cell_of_row _ _ _ _ _ _ h.b0]; rfl, by rw [cell_of_row _ _ _ _ _ _ h.b1]; rfl, by rw [cell_of_row _ _ _ _ _ _ h.b3]; rfl⟩


/-- What comes second. -/
def sndC : Code → Code
  | .seq _ c => c
  | _ => .skip
end Go.Proofs.Ythgkkmcpmhfehaa
