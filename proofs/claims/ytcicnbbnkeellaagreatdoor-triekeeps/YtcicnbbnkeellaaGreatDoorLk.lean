/- The law TrieKeeps walked: it answers true of any list of texts and any text. Conditions: Vars, what the library's tables hold when the call begins, and texts of a length that Go knows. -/
import Derived.Test.YtcicnbbnkeellaaGreatDoorLy
namespace Go.Proofs.YtcicnbbnkeellaaGreatDoor
open Go.RowKit Go.Lib
set_option maxRecDepth 100000

theorem St.boxed {w0 W : World} {t N : Nat} {l : List Pr} (h : St w0 (fun _ => False) W t N l) : StR w0 (fun _ => False) (W.alloc (.cells #[.slice none 0 0, .slice none 0 0] 30)) t N l W.heap.size 30 [] := by
  obtain ⟨X, h1, h2⟩ := h.tr
  have hb : Below W.heap.size W (W.alloc (.cells #[.slice none 0 0, .slice none 0 0] 30)) := (Below.refl _ _).alloc (Nat.le_refl _) _
  refine ⟨⟨X, .slice none 0 0, .slice none 0 0, h1.below hb, ⟨?_, h.below.size, To.OwnV.nil _ _ _, To.OwnV.nil _ _ _, by decide⟩, fun b hx => ⟨(h2 b hx).1, fun h => h, fun hz => ?_⟩, fun b _ h => h⟩, nxt h.below hb, fun b h => h.elim⟩
  · rw [alloc_at', if_pos rfl]
  · have := h1.lt hx
    rcases hz with rfl | hz | hz
    · omega
    · cases hz
    · cases hz
theorem StR.new {w0 W : World} {t N q : Nat} {lt lu : List Pr} {T : TypeId} (h : StR w0 (fun _ => False) W t N lt q T lu) : Calls Tryz.prog 9 #[] W fun e w' => e = .returned (.pointer (some ⟨W.heap.size + 2, 0, none⟩)) ∧ ∃ Y, PT w' Y (W.heap.size + 2) 0 [] ∧ StR w0 Y w' t N lt q T lu := by
  obtain ⟨X, vp, vi, h1, h2, h3, h4⟩ := h.tr
  refine (new_any W).mono ?_
  rintro e w' ⟨rfl, Y, h5, h6⟩
  have hb : Below W.heap.size W w' := h6.below (fun b h => h.elim) (Nat.le_refl _)
  have hY : ∀ b, Y b → W.heap.size ≤ b := fun b hy => by
    rcases h6.new b hy with h | h
    · exact h.elim
    · exact h
  exact ⟨rfl, Y, h5, ⟨⟨X, vp, vi, h1.below hb, h2.on hb, fun b hx => ⟨(h3 b hx).1, fun hy => by have := hY b hy; have := h1.lt hx; omega, (h3 b hx).2.2⟩, fun b hz hy => by have := hY b hy; have := rt_lt h2 hz; omega⟩, nxt h.below hb, fun b hy => h5.lt hy⟩⟩
/-- A row that may be written over. -/
def Wr (e B : Nat) (w : World) (a : Option Addr) (n k : Nat) : Prop := 0 < n → ∃ g cur, a = some ⟨g, 0, none⟩ ∧ B ≤ g ∧ w.heap[g]? = some (.cells cur e (0, 0)) ∧ n * k ≤ cur.size
theorem wr_of {e B k n c : Nat} {w : World} {a : Option Addr} {m : Nat} {xs : List Value} (h : w.ownsRow B e k (.slice a n c) m xs) : Wr e B w a n k := by
  obtain ⟨h1, ⟨h2, h3⟩ | ⟨g, cap, cur, h2, h3, h4, h5, h6, h7, h8⟩⟩ := h
  · injection h2 with h2 h2' _
    intro h; omega
  · injection h2 with h2 h2' _
    intro _
    refine ⟨g, cur, h2, h3, h4, ?_⟩
    have h9 := congrArg List.length h8
    rw [List.length_take] at h9
    subst h2'
    have : xs.length ≤ cur.size := by simp at h9; omega
    omega
theorem Wr.set {e B n k : Nat} {w : World} {g i : Nat} {u : Value} (h : Wr e B w (some ⟨g, 0, none⟩) n k) : Wr e B (w.setCell ⟨g, i, none⟩ u) (some ⟨g, 0, none⟩) n k := fun hn => by
  obtain ⟨g', cur, e1, h2, h3, h4⟩ := h hn
  injection e1 with e1
  injection e1 with e1
  subst e1
  refine ⟨g, cur.setIfInBounds i u, rfl, h2, ?_, by simpa using h4⟩
  simp only [World.setCell, Array.getElem?_modify, if_pos, h3]
  simp
theorem Wr.cell {e B n k : Nat} {w : World} {a : Option Addr} (h : Wr e B w a n k) {i : Nat} (hn : 0 < n) (hi : i < n * k) : ∃ g u, a = some ⟨g, 0, none⟩ ∧ B ≤ g ∧ w.cell? ⟨g, i, none⟩ = some u ∧ w.frozen? ⟨g, i, none⟩ = false := by
  obtain ⟨g, cur, e1, h2, h3, h4⟩ := h hn
  refine ⟨g, cur[i]'(by omega), e1, h2, ?_, ?_⟩
  · unfold World.cell?
    rw [h3]
    simp [show i < cur.size by omega]
  · unfold World.frozen?
    rw [h3]
    simp
end Go.Proofs.YtcicnbbnkeellaaGreatDoor
