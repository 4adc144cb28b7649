
/- What aframe.Encode and the document's own answer make of frames. Conditions: those that each row states. -/
import Derived.Test.YtmaaacaifpgpaaaGreatDoorPn
import Derived.Test.YtmaaacaifpgpaaaGreatDoorNu
import Derived.Laws.MakeOwn
import Derived.Laws.OwnMore
namespace Go.Proofs.YtmaaacaifpgpaaaGreatDoor
open Go.RowKit Go.Lib
set_option maxRecDepth 100000

theorem Own.lower {w : World} {B B' : Nat} {v : Value} {l : List UInt8} (h : Own w B v l) (hB : B' ≤ B) : Own w B' v l := by
  obtain ⟨hl, h⟩ := h
  refine ⟨hl, ?_⟩
  rcases h with h | ⟨g, cap, cur, e, hb, hr⟩
  · exact .inl h
  · exact .inr ⟨g, cap, cur, e, Nat.le_trans hB hb, hr⟩
/-- A frame as a value. -/
abbrev frV (t c : Int) (p : List UInt8) : Value := .agg #[.int .i64 t, .int .i64 c, str p]

theorem make0 (w : World) (z : Int) (h0 : 0 ≤ z) (h1 : z ≤ 140000000000000) : ∃ C, (Instr.makeSlice 31 (.int .i64 0) (.int .i64 z)).run Tryz.prog w = .ok (.slice (some ⟨w.heap.size, 0, none⟩) 0 z.toNat) (w.alloc (.cells C 5)) ∧ ∀ B, B ≤ w.heap.size → Own (w.alloc (.cells C 5)) B (.slice (some ⟨w.heap.size, 0, none⟩) 0 z.toNat) [] := by
  obtain ⟨i0, hi, hz0, hz1, hz2⟩ := info_parts info5
  have h := run_make (P := Tryz.prog) w 31 5 i0 (.int .u8 0) Tryz.underlying31 hi hz0 .i64 .i64 0 z (by omega) h0 (by rw [hz2]; omega) (by omega)
  refine ⟨_, h, fun B hB => ?_⟩
  refine World.ownsRow_made w _ _ hB ?_ ?_
  · unfold maxLen; omega
  · first | (rw [size_madeCells, hz1, Nat.mul_one]) | (rw [size_madeCells, hz1]; simp)

/-- The cells of a frame that was handed in stay. -/
structure FrC (w' : World) (b : Nat) (t c : Int) (p : List UInt8) : Prop where
  ty : w'.cell? ⟨b, 0, none⟩ = some (.int .i64 t)
  ch : w'.cell? ⟨b, 1, none⟩ = some (.int .i64 c)
  pay : w'.cell? ⟨b, 2, none⟩ = some (str p)
theorem FrC.on {w w' : World} {b B : Nat} {t c : Int} {p : List UInt8} (h : FrC w b t c p) (hb : Below B w w') (hB : b < B) : FrC w' b t c p :=
  ⟨by rw [hb.cell (p := ⟨b, 0, none⟩) hB]; exact h.ty, by rw [hb.cell (p := ⟨b, 1, none⟩) hB]; exact h.ch, by rw [hb.cell (p := ⟨b, 2, none⟩) hB]; exact h.pay⟩

/-- No frame that can be. -/
def okF (t c : Int) (p : List UInt8) : Bool := tyZ t && decide (0 ≤ c) && decide (c ≤ 65535) && decide (p.length ≤ 16384)
theorem okF_nat (t c : Int) (p : List UInt8) (h : okF t c p = true) : ∃ a b : Nat, t = a ∧ c = b ∧ tyZ t = true ∧ a < 256 ∧ b < 65536 ∧ p.length ≤ 16384 := by
  simp only [okF, Bool.and_eq_true, decide_eq_true_eq] at h
  obtain ⟨⟨⟨h1, h2⟩, h3⟩, h4⟩ := h
  obtain ⟨a, rfl, ha⟩ := tyZ_nat t h1
  exact ⟨a, c.toNat, rfl, by omega, h1, ha, by omega, h4⟩
theorem okF_not (t c : Int) (p : List UInt8) (h : okF t c p = false) : tyZ t = false ∨ (tyZ t = true ∧ (c < 0 ∨ (0 ≤ c ∧ (65535 < c ∨ (c ≤ 65535 ∧ 16384 < p.length))))) := by
  cases ht : tyZ t with
  | false => exact .inl rfl
  | true =>
    refine .inr ⟨rfl, ?_⟩
    simp only [okF, ht, Bool.true_and, Bool.and_eq_false_iff, decide_eq_false_iff_not] at h
    omega

end Go.Proofs.YtmaaacaifpgpaaaGreatDoor
