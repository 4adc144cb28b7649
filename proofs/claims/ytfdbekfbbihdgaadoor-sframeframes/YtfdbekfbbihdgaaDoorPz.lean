
/- What the document's Encode refuses. No memory in this text. -/
import Derived.Test.YtfdbekfbbihdgaaDoorPy
namespace Go.Proofs.YtfdbekfbbihdgaaDoor
open Go.Lib
set_option linter.unusedSimpArgs false

/-- A header that the document lets stand. -/
def stD (b : Bool) (h : Hd) : Bool := !decide (h.1 = []) && (!b || !(decide (58 ∈ h.1) || (decide (13 ∈ h.1) || (decide (10 ∈ h.1) || (decide (13 ∈ h.2) || decide (10 ∈ h.2))))))
theorem anyC3 (s : Bs) : anyC s [58, 13, 10] = (decide (58 ∈ s) || (decide (13 ∈ s) || decide (10 ∈ s))) := by
  unfold anyC
  rw [Bool.eq_iff_iff, List.any_eq_true]
  simp only [List.contains_iff_mem, List.mem_cons, List.not_mem_nil, or_false, Bool.or_eq_true, decide_eq_true_eq]
  constructor
  · rintro ⟨x, hx, rfl | rfl | rfl⟩
    · exact .inl hx
    · exact .inr (.inl hx)
    · exact .inr (.inr hx)
  · rintro (h | h | h)
    · exact ⟨_, h, .inl rfl⟩
    · exact ⟨_, h, .inr (.inl rfl)⟩
    · exact ⟨_, h, .inr (.inr rfl)⟩
theorem anyC2 (s : Bs) : anyC s [13, 10] = (decide (13 ∈ s) || decide (10 ∈ s)) := by
  unfold anyC
  rw [Bool.eq_iff_iff, List.any_eq_true]
  simp only [List.contains_iff_mem, List.mem_cons, List.not_mem_nil, or_false, Bool.or_eq_true, decide_eq_true_eq]
  constructor
  · rintro ⟨x, hx, rfl | rfl⟩
    · exact .inl hx
    · exact .inr hx
  · rintro (h | h)
    · exact ⟨_, h, .inl rfl⟩
    · exact ⟨_, h, .inr rfl⟩
theorem stN_D (b : Bool) (h : Hd) : stN b h = (stD b h && decide (h.1.length + h.2.length ≤ 16384)) := by
  unfold stN stD
  rw [anyC3, anyC2]
  cases b <;> cases decide (h.1 = []) <;> cases decide (h.1.length + h.2.length ≤ 16384) <;> cases decide (58 ∈ h.1) <;> cases decide (13 ∈ h.1) <;> cases decide (10 ∈ h.1) <;> cases decide (13 ∈ h.2) <;> cases decide (10 ∈ h.2) <;> rfl
theorem put1_ge (c : UInt8) : 1 ≤ (put1 c).length := by unfold put1; split <;> simp
theorem putL_ge (b : Bool) (s : Bs) : s.length ≤ (putL b s).length := by
  unfold putL
  split
  · exact Nat.le_refl _
  · induction s with
    | nil => simp
    | cons c s ih =>
      have := put1_ge c
      simp only [List.flatMap_cons, List.length_append, List.length_cons]
      omega
theorem hdsP_ge (b : Bool) : ∀ (H : List Hd) (h : Hd), h ∈ H → h.1.length + h.2.length ≤ (hdsP b H).length
  | x :: H, h, hh => by
    rw [hdsP, List.length_append]
    rcases List.mem_cons.1 hh with rfl | hh
    · have h1 := putL_ge b h.1
      have h2 := putL_ge b h.2
      have : (hdP b h).length = (putL b h.1).length + (1 + ((putL b h.2).length + 1)) := by simp [hdP]; omega
      omega
    · have := hdsP_ge b H h hh
      omega
theorem write_ge (f : Fr) (h : Hd) (hh : h ∈ f.hs) : h.1.length + h.2.length ≤ (writeL f).length := by
  have := hdsP_ge (bare f.cmd) f.hs h hh
  unfold writeL
  simp only [List.length_append, List.length_cons, List.length_nil]
  omega
/-- The body's length as the document looks at it. -/
def okZ (z : Int) (b : Bs) : Bool := !decide (z = -2) && (!(decide (0 ≤ z) && !decide (z = (b.length : Int))) && !(decide (z = -1) && decide (0 ∈ b)))
theorem clN_okZ (f : Fr) (hb : f.body.length ≤ 1024) : clN f = okZ (sizeI f.hs) f.body := by
  cases hg : getL CL f.hs with
  | none =>
    have hz : sizeI f.hs = -1 := by unfold sizeI; rw [hg]
    have hc : clN f = (cutN 0 f.body).isNone := by unfold clN; rw [hg]
    rw [hz, hc]
    unfold okZ
    by_cases h0 : (0 : UInt8) ∈ f.body
    · have : cutN 0 f.body ≠ none := fun h => cutN_none.1 h h0
      cases hc : cutN 0 f.body with
      | none => exact absurd hc this
      | some p => simp [h0]
    · rw [cutN_none.2 h0]; simp [h0]
  | some t =>
    have hc : clN f = decide (t = itoa (f.body.length : Int)) := by unfold clN; rw [hg]
    have hs : sizeI f.hs = lenI t := by unfold sizeI; rw [hg]
    rw [hc, hs]
    cases hl : lenL t with
    | none =>
      have hI : lenI t = -2 := by unfold lenI; rw [hl]
      rw [hI]
      have : t ≠ itoa (f.body.length : Int) := fun h => by rw [h, lenL_itoa _ hb] at hl; cases hl
      unfold okZ
      simp [this]
    | some n =>
      have hI : lenI t = (n : Int) := by unfold lenI; rw [hl]
      rw [hI]
      obtain ⟨h1, h2⟩ := lenL_text hl
      have e1 : decide ((n : Int) = -2) = false := decide_eq_false (by omega)
      have e2 : decide ((0 : Int) ≤ (n : Int)) = true := decide_eq_true (by omega)
      have e3 : decide ((n : Int) = -1) = false := decide_eq_false (by omega)
      unfold okZ
      rw [e1, e2, e3]
      by_cases hn : n = f.body.length
      · have : t = itoa (f.body.length : Int) := by rw [h2, hn]
        rw [decide_eq_true this, decide_eq_true (by omega : (n : Int) = (f.body.length : Int))]; rfl
      · have : t ≠ itoa (f.body.length : Int) := fun h => by
          rw [h, lenL_itoa _ hb] at hl
          injection hl with hl
          exact hn hl.symm
        rw [decide_eq_false this, decide_eq_false (by omega : ¬ (n : Int) = (f.body.length : Int))]; rfl
/-- What the document refuses ahead of the headers. -/
def okD (f : Fr) : Bool := isCmd f.cmd && (decide (f.hs.length ≤ 32) && (decide (f.body.length ≤ 1024) && okZ (sizeI f.hs) f.body))
theorem can_D (f : Fr) : canL f = true ∧ (writeL f).length ≤ 16384 ↔ okD f = true ∧ f.hs.all (stD (bare f.cmd)) = true ∧ (writeL f).length ≤ 16384 := by
  unfold canL okD
  simp only [Bool.and_eq_true, decide_eq_true_eq, List.all_eq_true]
  constructor
  · rintro ⟨⟨h1, h2, h3, h4, h5⟩, h6⟩
    refine ⟨⟨h1, h2, h3, by rw [← clN_okZ f h3]; exact h5⟩, fun x hx => ?_, h6⟩
    have := h4 x hx
    rw [stN_D, Bool.and_eq_true] at this
    exact this.1
  · rintro ⟨⟨h1, h2, h3, h5⟩, h4, h6⟩
    refine ⟨⟨h1, h2, h3, fun x hx => ?_, by rw [clN_okZ f h3]; exact h5⟩, h6⟩
    rw [stN_D, Bool.and_eq_true, decide_eq_true_eq]
    exact ⟨h4 x hx, Nat.le_trans (write_ge f x hx) h6⟩
end Go.Proofs.YtfdbekfbbihdgaaDoor
