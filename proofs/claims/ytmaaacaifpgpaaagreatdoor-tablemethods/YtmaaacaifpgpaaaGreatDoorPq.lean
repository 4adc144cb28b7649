
/- Lists of properties by rising names; slices of them. -/
import Derived.Test.YtmaaacaifpgpaaaGreatDoorQb
namespace Go.Proofs.YtmaaacaifpgpaaaGreatDoor
open Go.RowKit Go.Lib Ieee

theorem rising_next : ∀ (l : List Pr), rising l = true → ∀ i (h : i + 1 < l.length), Op.bytesLess (l[i]'(by omega)).name.toList l[i + 1].name.toList = true
  | a :: b :: l, h, 0, _ => by simp [rising] at h; simpa using h.1
  | a :: b :: l, h, i + 1, hi => by
    simp only [rising, Bool.and_eq_true] at h
    exact rising_next (b :: l) h.2 i (by simpa using hi)
  | [_], _, i, h => by simp at h
  | [], _, i, h => by simp at h
theorem rising_lt (l : List Pr) (hr : rising l = true) (i : Nat) : ∀ j (hj : j < l.length) (hij : i < j), Op.bytesLess (l[i]'(by omega)).name.toList l[j].name.toList = true
  | j + 1, hj, hij => by
    by_cases e : i = j
    · subst e; exact rising_next l hr i hj
    · exact bl_trans _ _ _ (rising_lt l hr i j (by omega) (by omega)) (rising_next l hr j hj)
def ltP (a b : Pr) : Prop := Op.bytesLess a.name.toList b.name.toList = true
theorem ltP_trans {a b c : Pr} (h : ltP a b) (h' : ltP b c) : ltP a c := bl_trans _ _ _ h h'
theorem pairs_of : ∀ (l : List Pr), rising l = true → l.Pairwise ltP
  | [], _ => List.Pairwise.nil
  | [a], _ => by simp
  | a :: b :: l, h => by
    simp only [rising, Bool.and_eq_true] at h
    have ih := pairs_of (b :: l) h.2
    refine List.Pairwise.cons ?_ ih
    intro c hc
    rcases List.mem_cons.1 hc with rfl | hc
    · exact h.1
    · exact ltP_trans (a := a) (b := b) h.1 ((List.pairwise_cons.1 ih).1 c hc)
theorem rising_of : ∀ (l : List Pr), l.Pairwise ltP → rising l = true
  | [], _ => rfl
  | [a], _ => rfl
  | a :: b :: l, h => by
    have h2 := List.pairwise_cons.1 h
    simp only [rising, Bool.and_eq_true]
    exact ⟨h2.1 b (by simp), rising_of (b :: l) h2.2⟩
theorem valid_parts {l : List Pr} (h : validL l = true) : l.length ≤ 16 ∧ (∀ q ∈ l, canB q = true) ∧ rising l = true := by
  unfold validL at h
  simp only [Bool.and_eq_true, decide_eq_true_eq, List.all_eq_true] at h
  exact ⟨h.1, h.2.1, h.2.2⟩
theorem RdP.shape {w : World} {v : Value} {l : List Pr} (h : RdP w v l) : ∃ a c, v = .slice a l.length c := by
  rcases h with ⟨⟨a, c, rfl⟩, rfl⟩ | ⟨b, o, c, rfl, _, _⟩
  · exact ⟨a, c, rfl⟩
  · exact ⟨_, c, rfl⟩
theorem box_on {w w' : World} {q : Nat} {j : Nat} {v : Value} (h : w.cell? ⟨q, j, none⟩ = some v) (hb : Below w.heap.size w w') : w'.cell? ⟨q, j, none⟩ = some v := by
  rw [hb.cell (World.block_lt_of_cell? w _ h)]; exact h
theorem RdP.some {w : World} {v : Value} {l : List Pr} (h : RdP w v l) (h0 : l ≠ []) : ∃ (b o c : Nat), v = .slice (some ⟨b, o, none⟩) l.length c ∧ l.length ≤ c ∧ ∀ i (h : i < l.length), PrAt w b (o + i * 5) l[i] := by
  rcases h with ⟨_, h⟩ | h
  · exact absurd h h0
  · exact h
theorem toList_inj {s t : ByteArray} (h : s.toList = t.toList) : s = t := by
  rw [ByteArray.toList_eq, ByteArray.toList_eq] at h
  exact ByteArray.ext (Array.ext' h)
theorem sameV_eq (a b : Val) : sameV a b = true ↔ a = b := by
  obtain ⟨k, n, t, r⟩ := a
  obtain ⟨k', n', t', r'⟩ := b
  simp only [sameV, Bool.and_eq_true, beq_iff_eq, Val.mk.injEq, Int.natCast_inj]
  constructor
  · rintro ⟨h1, h2, h3, h4⟩
    exact ⟨h1, h2, toList_inj h3, h4⟩
  · rintro ⟨h1, h2, rfl, h4⟩
    exact ⟨h1, h2, rfl, h4⟩
end Go.Proofs.YtmaaacaifpgpaaaGreatDoor
