/- The program's trie, by the pairs that it holds; New, All, Len. Conditions: those that each row states. -/
import Derived.Test.YtcicnbbnkeellaaGreatDoorAl
namespace Go.Proofs.YtcicnbbnkeellaaGreatDoor
open Go.RowKit
set_option maxRecDepth 100000

def XP (t : Nat) (T : Tr) (b : Nat) : Prop := b = t ∨ XT T b
/-- The program's trie in block t holds the pairs l; its blocks are X. -/
structure PTT (w : World) (t N : Nat) (T : Tr) (nd : Nd) (l : List Pr) : Prop where
  cell : w.heap[t]? = some (.cells #[ptrO (some nd.q)] 50 (0, 0))
  root : T [] = some nd
  tr : TrW w N T
  mem : ∀ x : Pr, x ∈ l ↔ x.2 ∈ idsAt T (wordsL x.1)
  pats : ∀ x ∈ l, pat x.1 = true
  ris : Rising l
  few : l.length ≤ 64
def PT (w : World) (X : Nat → Prop) (t N : Nat) (l : List Pr) : Prop := ∃ T nd, PTT w t N T nd l ∧ X = XP t T
theorem PTT.lt {w : World} {t N : Nat} {T : Tr} {nd : Nd} {l : List Pr} (h : PTT w t N T nd l) {b : Nat} (hb : XP t T b) : b < w.heap.size := by
  rcases hb with rfl | hb
  · exact lt_of_some h.cell
  · exact h.tr.lt hb
theorem PTT.on {w w' : World} {t N : Nat} {T : Tr} {nd : Nd} {l : List Pr} (h : PTT w t N T nd l) (he : ∀ b, XP t T b → w'.heap[b]? = w.heap[b]?) : PTT w' t N T nd l :=
  ⟨(he t (.inl rfl)).trans h.cell, h.root, h.tr.on (fun b hb => he b (.inr hb)), h.mem, h.pats, h.ris, h.few⟩
theorem PT.lt {w : World} {X : Nat → Prop} {t N : Nat} {l : List Pr} (h : PT w X t N l) {b : Nat} (hb : X b) : b < w.heap.size := by
  obtain ⟨T, nd, h, rfl⟩ := h
  exact h.lt hb
theorem PT.on {w w' : World} {X : Nat → Prop} {t N : Nat} {l : List Pr} (h : PT w X t N l) (he : ∀ b, X b → w'.heap[b]? = w.heap[b]?) : PT w' X t N l := by
  obtain ⟨T, nd, h, rfl⟩ := h
  exact ⟨T, nd, h.on he, rfl⟩
theorem PT.below {w w' : World} {X : Nat → Prop} {t N : Nat} {l : List Pr} (h : PT w X t N l) (hb : Below w.heap.size w w') : PT w' X t N l := h.on (fun b hx => hb.block b (h.lt hx))
/-- Another object's call. -/
theorem PT.apart {w w' : World} {X Y Y' : Nat → Prop} {t N : Nat} {l : List Pr} (h : PT w X t N l) (hf : Fr Y Y' w w') (hd : ∀ b, X b → ¬ Y b) : PT w' X t N l := h.on (fun b hx => hf.keep b (h.lt hx) (hd b hx))
theorem PT.mono {w : World} {X : Nat → Prop} {t N N' : Nat} {l : List Pr} (h : PT w X t N l) (hn : N ≤ N') : PT w X t N' l := by
  obtain ⟨T, nd, h, rfl⟩ := h
  exact ⟨T, nd, ⟨h.cell, h.root, h.tr.mono hn, h.mem, h.pats, h.ris, h.few⟩, rfl⟩
theorem PT.facts {w : World} {X : Nat → Prop} {t N : Nat} {l : List Pr} (h : PT w X t N l) : (∀ x ∈ l, pat x.1 = true) ∧ Rising l ∧ l.length ≤ 64 := by
  obtain ⟨T, nd, h, rfl⟩ := h
  exact ⟨h.pats, h.ris, h.few⟩
theorem PTT.joined {w : World} {t N : Nat} {T : Tr} {nd : Nd} {l : List Pr} (h : PTT w t N T nd l) : ∀ s z, z ∈ idsAt T s → (joinL s, z) ∈ l := fun s z hz => (h.mem _).2 (by rw [words_of h.tr hz]; exact hz)

theorem rising_of {L : List Pr} (h : ∀ i j (_ : i < j) (_ : j < L.length), plt L[j] L[i] = false) (hn : L.Nodup) : Rising L := by
  unfold Rising
  rw [List.pairwise_iff_getElem]
  intro i j hi hj hij
  cases e : plt L[i] L[j] with
  | true => rfl
  | false =>
    have := plt_tri _ _ e (h i j hij hj)
    have h2 := (List.pairwise_iff_getElem.1 hn) i j hi hj hij
    exact absurd this h2

theorem all_any (w : World) (X : Nat → Prop) (t N : Nat) (l : List Pr) (h : PT w X t N l) : Calls Tryz.prog 18 #[.pointer (some ⟨t, 0, none⟩)] w fun e w' => ∃ v, e = .returned v ∧ OwnPr w' w.heap.size v l ∧ Below w.heap.size w w' := by
  obtain ⟨T, nd, hP, rfl⟩ := h
  have c0 := (cell_1 hP.cell).1
  have hp := pairs_any N T l hP.few hP.joined 9 [] w nd (by simp) hP.tr hP.root
  have HP : Hid (PTT w t N T nd l) := hP
  clear hP
  simp only [ptrO, str, headL] at hp c0
  go_enter Tryz.func18, Tryz.ntmps18
  go_wp2_with fail
  refine hp.mono ?_
  rintro e w1 ⟨v, L, rfl, hO, hB, hN, hM⟩
  have hLl : L.length ≤ 64 := Nat.le_trans (nodup_len L l hN (fun x hx => by
    obtain ⟨s, _, h2, h3⟩ := (hM x).1 hx
    have := HP.out.joined _ _ h3
    rw [← h2] at this
    exact this)) HP.out.few
  have hs := sort_any w1 w.heap.size v L hO hLl
  have HL : Hid (L.Nodup ∧ ∀ x, x ∈ L ↔ PsAt T [] x) := ⟨hN, hM⟩
  clear hN hM hO
  go_wp2_with fail
  refine hs.mono ?_
  rintro e w2 ⟨rfl, L', hperm, hsrt, hO2, hB2⟩
  have hr : Rising L' := rising_of hsrt (hperm.nodup_iff.2 HL.out.1)
  have he : L' = l := rising_ext _ _ hr HP.out.ris (fun y => by
    rw [hperm.mem_iff, HL.out.2, HP.out.mem]
    constructor
    · rintro ⟨s, h1, h2, h3⟩
      rw [List.nil_append] at h2 h3
      rw [h2, words_of HP.out.tr h3]
      exact h3
    · intro hy
      exact ⟨wordsL y.1, wordsL_ne _, by rw [List.nil_append, join_words], hy⟩)
  subst he
  have HO2 : Hid (OwnPr w2 w.heap.size v L') := hO2
  clear hO2 hs hp hsrt hperm
  go_wp2
  go_ret
  exact ⟨v, rfl, HO2.out, hB.trans hB2⟩
theorem len_any (w : World) (X : Nat → Prop) (t N : Nat) (l : List Pr) (h : PT w X t N l) : Calls Tryz.prog 17 #[.pointer (some ⟨t, 0, none⟩)] w fun e w' => e = .returned (.int .i64 l.length) ∧ Below w.heap.size w w' := by
  have ha := all_any w X t N l h
  have hf := h.facts.2.2
  go_enter Tryz.func17, Tryz.ntmps17
  go_wp2_with fail
  refine ha.mono ?_
  rintro e w1 ⟨v, rfl, hO, hB⟩
  obtain ⟨a, c, rfl⟩ := hO.len
  clear hO ha
  go_wp2
  go_ret
  exact ⟨rfl, hB⟩
def newT (q m : Nat) : Tr := fun p => if p = [] then some ⟨q, m, .slice none 0 0, []⟩ else none
theorem newT_some {q m : Nat} {p : List Wd} {nd : Nd} (h : newT q m p = some nd) : p = [] ∧ nd = ⟨q, m, .slice none 0 0, []⟩ := by
  unfold newT at h
  split at h
  · rename_i e; exact ⟨e, by injection h with h; exact h.symm⟩
  · cases h
theorem newT_ne {q m : Nat} {p : List Wd} (h : newT q m p ≠ none) : p = [] := by
  unfold newT at h
  split at h
  · rename_i e; exact e
  · exact absurd rfl h
theorem newT_tr {w : World} {q m : Nat} (hq : w.heap[q]? = some (.cells #[.map (some m), .slice none 0 0] 58 (0, 0))) (hm : MapF w m 0 (fun _ => none)) : TrW w 0 (newT q m) := by
  refine ⟨⟨_, if_pos rfl, rfl⟩, fun p nd h => ?_, fun p k h => ?_, fun p k h => ?_, fun p h => ?_, fun p p' nd nd' h h' _ => ?_, fun p p' nd nd' h h' _ => ?_, fun p p' nd nd' b h h' _ _ => ?_⟩
  · obtain ⟨rfl, rfl⟩ := newT_some h
    exact ⟨hq, ⟨rfl, .inl ⟨rfl, rfl⟩⟩, hm.ext (fun k _ => by rw [show newT q m ([] ++ [k]) = none from if_neg (by simp)]; rfl), List.Pairwise.nil, by simp⟩
  · exact absurd (newT_ne h) (by simp)
  · exact absurd (newT_ne h) (by simp)
  · rw [newT_ne h]; simp
  · rw [(newT_some h).1, (newT_some h').1]
  · rw [(newT_some h).1, (newT_some h').1]
  · rw [(newT_some h).1, (newT_some h').1]
theorem new_any (w : World) : Calls Tryz.prog 9 #[] w fun e w' => e = .returned (.pointer (some ⟨w.heap.size + 2, 0, none⟩)) ∧ ∃ X, PT w' X (w.heap.size + 2) 0 [] ∧ Fr (fun _ => False) X w w' := by
  have hn := node_any w
  simp only [ptrO] at hn
  go_enter Tryz.func9, Tryz.ntmps9
  go_wp2_with (go_at_call 20; refine hn.mono ?_; rintro e w1 ⟨rfl, hw1⟩)
  go_ret
  have hs : w1.heap.size = w.heap.size + 2 := by rw [hw1, World.size_alloc, World.size_alloc]
  have hq : w1.heap[w.heap.size + 1]? = some (.cells #[.map (some w.heap.size), .slice none 0 0] 58 (0, 0)) := by
    rw [hw1, alloc_at', if_pos (by rw [World.size_alloc])]
  have hm : MapF w1 w.heap.size 0 (fun _ => none) := (MapF.made w).on (by rw [hw1, alloc_at' _ (.cells _ _), if_neg (by rw [World.size_alloc]; omega)])
  have hb : Below w.heap.size w w1 := by
    rw [hw1]
    exact ((Below.refl _ w).alloc (Nat.le_refl _) _).alloc (by rw [World.size_alloc]; omega) _
  rw [← hw1]
  refine ⟨rfl, XP (w.heap.size + 2) (newT (w.heap.size + 1) w.heap.size), ⟨newT (w.heap.size + 1) w.heap.size, _, ⟨?_, if_pos rfl, ?_, fun x => ?_, fun x hx => (by cases hx), List.Pairwise.nil, by simp⟩, rfl⟩, ?_⟩
  · rw [alloc_at', if_pos hs.symm]
    rfl
  · refine (newT_tr hq hm).on (fun b hb => ?_)
    have := (newT_tr hq hm).lt hb
    rw [alloc_at', if_neg (by omega)]
  · constructor
    · intro hx; cases hx
    · intro hx
      rw [ids_none (show newT _ _ (wordsL x.1) = none from if_neg (wordsL_ne _))] at hx
      cases hx
  · have hb2 := hb.alloc hb.size (.cells #[.pointer (some ⟨w.heap.size + 1, 0, none⟩)] 50)
    refine ⟨hb2.os, hb2.tape, hb2.output, hb2.size, fun b h1 _ => hb2.block b h1, fun b hx => ?_⟩
    right
    rcases hx with rfl | ⟨p, nd, h1, h2⟩
    · omega
    · obtain ⟨_, rfl⟩ := newT_some h1
      rcases h2 with rfl | rfl | h2
      · simp only; omega
      · exact Nat.le_refl _
      · cases h2
end Go.Proofs.YtcicnbbnkeellaaGreatDoor
