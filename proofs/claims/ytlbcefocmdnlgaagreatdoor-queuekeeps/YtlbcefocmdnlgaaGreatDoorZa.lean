/- Words, topics and patterns as lists of bytes: what is proved here is of lists alone, with no condition but those that each row states. What the statements ask of words and patterns, as facts of lists: covering is an order; a topic is one of its own patterns; turning marks twice leads back. Conditions: those that each row states. What prop.inName, prop.Name, the document's Name and topic.inWord answer of any byte, any text, any letter. No condition but those that each row states. Lists of texts in memory; what slices.IndexFunc answers of them with a function that may make memory, and what topic.covers answers. Conditions: those that each row states. The library's words for splitting, searching and turning texts, held against our own: facts of lists and texts, with those conditions that each row states. -/
import Derived.Test.YtlbcefocmdnlgaaGreatDoorProg
import Derived.WalkKit
import Derived.WalkLawsBesides
import Derived.Below
import Derived.Deep.LoopGhost
import Derived.Lib.Split
import Derived.Lib.SplitLaws
import Derived.Lib.IndexLaws
import Derived.Lib.IndexBytes
import Derived.Lib.CountLaws
import Derived.Lib.CutLaws
import Derived.Lib.IndexAny
import Derived.Lib.TrimUEq
import Derived.Lib.MapLaws
import Derived.Lib.TrimAscii
import Derived.Shelf.GgClosure.StringsIndexFunc
namespace Go.Proofs.YtlbcefocmdnlgaaGreatDoor

/-- A text's words. -/
def wordsL : List UInt8 → List (List UInt8)
  | [] => [[]]
  | c :: l => if c = 46 then [] :: wordsL l else
    match wordsL l with
    | [] => [[c]]
    | w :: ws => (c :: w) :: ws

def inW (c : UInt8) : Bool := (decide (97 ≤ c.toNat) && decide (c.toNat ≤ 122)) || (decide (48 ≤ c.toNat) && decide (c.toNat ≤ 57)) || c == 45 || c == 95
def isW (w : List UInt8) : Bool := !w.isEmpty && decide (w.length ≤ 16) && w.all inW
/-- A word of a pattern that may stand anywhere. -/
def midW (w : List UInt8) : Bool := w == [42] || isW w
def okP : List (List UInt8) → Bool
  | [] => true
  | [w] => midW w || w == [35]
  | w :: v :: ws => midW w && okP (v :: ws)
def pat (l : List UInt8) : Bool := decide (l.length ≤ 64) && decide ((wordsL l).length ≤ 8) && okP (wordsL l)
def good (l : List UInt8) : Bool := decide (l.length ≤ 64) && decide ((wordsL l).length ≤ 8) && (wordsL l).all isW
def cov : List (List UInt8) → List (List UInt8) → Bool
  | [], q => q.isEmpty
  | p :: ps, q => if p = [35] then true else
    match q with
    | [] => false
    | r :: rs => r != [35] && (p == [42] || p == r) && cov ps rs
/-- The document's: is the rest of a topic one of the rest of a pattern's? -/
def wit : List (List UInt8) → List (List UInt8) → Bool
  | [], q => q.isEmpty
  | p :: ps, q => if p = [35] then true else
    match q with
    | [] => false
    | r :: rs => (p == [42] || p == r) && wit ps rs
def covers (a b : List UInt8) : Bool := pat a && pat b && cov (wordsL a) (wordsL b)
def mat (a b : List UInt8) : Bool := good b && covers a b

theorem wordsL_ne (l : List UInt8) : wordsL l ≠ [] := by
  cases l with
  | nil => simp [wordsL]
  | cons c l =>
    unfold wordsL
    split
    · simp
    · split <;> simp

theorem wordsL_dot (l : List UInt8) : wordsL (46 :: l) = [] :: wordsL l := by rw [wordsL, if_pos rfl]
theorem wordsL_other (c : UInt8) (l : List UInt8) (h : c ≠ 46) : ∃ w ws, wordsL l = w :: ws ∧ wordsL (c :: l) = (c :: w) :: ws := by
  cases hw : wordsL l with
  | nil => exact absurd hw (wordsL_ne l)
  | cons w ws => exact ⟨w, ws, rfl, by rw [wordsL, if_neg h, hw]⟩

theorem wordsL_app (a b : List UInt8) : wordsL (a ++ 46 :: b) = wordsL a ++ wordsL b := by
  induction a with
  | nil => rw [List.nil_append, wordsL_dot]; rfl
  | cons c a ih =>
    by_cases h : c = 46
    · subst h
      rw [List.cons_append, wordsL_dot, wordsL_dot, ih]; rfl
    · obtain ⟨w, ws, h1, h2⟩ := wordsL_other c a h
      obtain ⟨w', ws', h3, h4⟩ := wordsL_other c (a ++ 46 :: b) h
      rw [ih, h1] at h3
      injection h3 with h5 h6
      rw [List.cons_append, h4, h2, ← h5, ← h6]; rfl

theorem wordsL_plain (w : List UInt8) (h : ∀ c ∈ w, c ≠ 46) : wordsL w = [w] := by
  induction w with
  | nil => rfl
  | cons c w ih =>
    obtain ⟨v, vs, h1, h2⟩ := wordsL_other c w (h c (by simp))
    rw [ih (fun c hc => h c (by simp [hc]))] at h1
    injection h1 with h3 h4
    rw [h2, ← h3, ← h4]

/-- Behind one byte more. -/
theorem wordsL_snoc_dot (l : List UInt8) : wordsL (l ++ [46]) = wordsL l ++ [[]] := wordsL_app l []
theorem wordsL_snoc (l : List UInt8) (c : UInt8) (h : c ≠ 46) (ws : List (List UInt8)) (w : List UInt8) (e : wordsL l = ws ++ [w]) : wordsL (l ++ [c]) = ws ++ [w ++ [c]] := by
  induction l generalizing ws w with
  | nil =>
    have : [([] : List UInt8)] = ws ++ [w] := e
    have hl : ws = [] := by
      cases ws with
      | nil => rfl
      | cons a b => simp at this
    subst hl
    simp at this
    subst this
    rw [List.nil_append, wordsL_plain [c] (by simpa using h)]; rfl
  | cons d l ih =>
    by_cases hd : d = 46
    · subst hd
      rw [wordsL_dot] at e
      rw [List.cons_append, wordsL_dot]
      cases ws with
      | nil => simp at e; exact absurd e.2 (wordsL_ne l)
      | cons a b =>
        rw [List.cons_append] at e
        injection e with e1 e2
        rw [ih b w e2, ← e1]; rfl
    · obtain ⟨v, vs, h1, h2⟩ := wordsL_other d l hd
      rw [h2] at e
      obtain ⟨v', vs', h3, h4⟩ := wordsL_other d (l ++ [c]) hd
      rw [List.cons_append, h4]
      cases ws with
      | nil =>
        rw [List.nil_append] at e
        injection e with e1 e2
        subst e2
        rw [ih [] v h1] at h3
        rw [List.nil_append] at h3
        injection h3 with h5 h6
        rw [← h5, ← h6, ← e1]; rfl
      | cons a b =>
        rw [List.cons_append] at e
        injection e with e1 e2
        have := ih (v :: b) w (by rw [h1, e2]; rfl)
        rw [this, List.cons_append] at h3
        injection h3 with h5 h6
        rw [← h5, ← h6, ← e1]; rfl

/-- The words, one behind the other, dots between. -/
def joinL : List (List UInt8) → List UInt8
  | [] => []
  | [w] => w
  | w :: v :: ws => w ++ 46 :: joinL (v :: ws)
theorem joinL_cons (w : List UInt8) (ws : List (List UInt8)) (h : ws ≠ []) : joinL (w :: ws) = w ++ 46 :: joinL ws := by
  cases ws with
  | nil => exact absurd rfl h
  | cons v vs => rfl
theorem join_words (l : List UInt8) : joinL (wordsL l) = l := by
  induction l with
  | nil => rfl
  | cons c l ih =>
    by_cases h : c = 46
    · subst h
      rw [wordsL_dot, joinL_cons _ _ (wordsL_ne l), ih]; rfl
    · obtain ⟨w, ws, h1, h2⟩ := wordsL_other c l h
      rw [h2]
      rw [h1] at ih
      cases ws with
      | nil => show c :: w = c :: l; rw [show w = l from ih]
      | cons v vs =>
        have : w ++ 46 :: joinL (v :: vs) = l := ih
        show c :: w ++ 46 :: joinL (v :: vs) = c :: l
        rw [List.cons_append, this]
theorem words_join (ws : List (List UInt8)) (hne : ws ≠ []) (h : ∀ w ∈ ws, ∀ c ∈ w, c ≠ 46) : wordsL (joinL ws) = ws := by
  induction ws with
  | nil => exact absurd rfl hne
  | cons w ws ih =>
    cases ws with
    | nil => exact wordsL_plain w (h w (by simp))
    | cons v vs =>
      rw [joinL_cons _ _ (by simp), wordsL_app, wordsL_plain w (h w (by simp)), ih (by simp) (fun x hx => h x (by simp [hx]))]
      rfl
theorem wordsL_inj {a b : List UInt8} (h : wordsL a = wordsL b) : a = b := by rw [← join_words a, ← join_words b, h]

theorem words_sub (l : List UInt8) : ∀ w ∈ wordsL l, ∀ c ∈ w, c ∈ l ∧ c ≠ 46 := by
  induction l with
  | nil => intro w hw c hc; simp [wordsL] at hw; subst hw; simp at hc
  | cons d l ih =>
    intro w hw c hc
    by_cases h : d = 46
    · subst h
      rw [wordsL_dot] at hw
      rcases List.mem_cons.1 hw with rfl | hw
      · simp at hc
      · have := ih w hw c hc; exact ⟨by simp [this.1], this.2⟩
    · obtain ⟨v, vs, h1, h2⟩ := wordsL_other d l h
      rw [h2] at hw
      rcases List.mem_cons.1 hw with rfl | hw
      · rcases List.mem_cons.1 hc with rfl | hc
        · exact ⟨by simp, h⟩
        · have := ih v (by rw [h1]; simp) c hc; exact ⟨by simp [this.1], this.2⟩
      · have := ih w (by rw [h1]; simp [hw]) c hc; exact ⟨by simp [this.1], this.2⟩
theorem sub_words (l : List UInt8) : ∀ c ∈ l, c = 46 ∨ ∃ w ∈ wordsL l, c ∈ w := by
  induction l with
  | nil => intro c hc; simp at hc
  | cons d l ih =>
    intro c hc
    by_cases h : d = 46
    · subst h
      rcases List.mem_cons.1 hc with rfl | hc
      · exact .inl rfl
      · rcases ih c hc with h | ⟨w, hw, hcw⟩
        · exact .inl h
        · exact .inr ⟨w, by rw [wordsL_dot]; simp [hw], hcw⟩
    · obtain ⟨v, vs, h1, h2⟩ := wordsL_other d l h
      rcases List.mem_cons.1 hc with rfl | hc
      · exact .inr ⟨c :: v, by rw [h2]; simp, by simp⟩
      · rcases ih c hc with h | ⟨w, hw, hcw⟩
        · exact .inl h
        · rw [h1] at hw
          rcases List.mem_cons.1 hw with rfl | hw
          · exact .inr ⟨d :: w, by rw [h2]; simp, by simp [hcw]⟩
          · exact .inr ⟨w, by rw [h2]; simp [hw], hcw⟩

theorem words_len (l : List UInt8) : (wordsL l).length = l.count 46 + 1 := by
  induction l with
  | nil => rfl
  | cons d l ih =>
    by_cases h : d = 46
    · subst h; rw [wordsL_dot]; simp [ih]
    · obtain ⟨v, vs, h1, h2⟩ := wordsL_other d l h
      rw [h2, List.count_cons_of_ne h, ← ih, h1]; rfl
theorem words_one (l : List UInt8) : (wordsL l).length = 1 ↔ ∀ c ∈ l, c ≠ 46 := by
  rw [words_len]
  constructor
  · intro h c hc e
    subst e
    have : 0 < l.count 46 := List.count_pos_iff.2 hc
    omega
  · intro h
    have : l.count 46 = 0 := List.count_eq_zero.2 (fun hm => h 46 hm rfl)
    omega

/-- Facts of words. -/
theorem inW_cases {c : UInt8} (h : inW c = true) : c ≠ 42 ∧ c ≠ 35 ∧ c ≠ 46 ∧ c ≠ 47 ∧ c ≠ 43 ∧ c.toNat < 128 := by
  refine ⟨?_, ?_, ?_, ?_, ?_, ?_⟩
  all_goals first
    | (intro e; subst e; revert h; decide)
    | (unfold inW at h
       simp only [Bool.or_eq_true, Bool.and_eq_true, decide_eq_true_eq, beq_iff_eq] at h
       rcases h with ((h | h) | h) | h
       · omega
       · omega
       · subst h; decide
       · subst h; decide)
theorem isW_parts {w : List UInt8} (h : isW w = true) : w ≠ [] ∧ w.length ≤ 16 ∧ ∀ c ∈ w, inW c = true := by
  unfold isW at h
  simp only [Bool.and_eq_true, Bool.not_eq_true', decide_eq_true_eq, List.all_eq_true] at h
  refine ⟨?_, h.1.2, h.2⟩
  rintro rfl
  exact absurd h.1.1 (by decide)
theorem isW_star {w : List UInt8} (h : isW w = true) : w ≠ [42] ∧ w ≠ [35] := by
  constructor
  all_goals (rintro rfl; revert h; decide)

theorem okP_all (ws : List (List UInt8)) (h : okP ws = true) : ∀ w ∈ ws, midW w = true ∨ w = [35] := by
  induction ws with
  | nil => intro w hw; simp at hw
  | cons a ws ih =>
    cases ws with
    | nil =>
      intro w hw
      have hw' : w = a := by simpa using hw
      subst hw'
      unfold okP at h
      simpa using h
    | cons b bs =>
      intro w hw
      unfold okP at h
      rw [Bool.and_eq_true] at h
      rcases List.mem_cons.1 hw with rfl | hw
      · exact .inl h.1
      · exact ih h.2 w hw
theorem okP_of_all (ws : List (List UInt8)) (h : ∀ w ∈ ws, midW w = true) : okP ws = true := by
  induction ws with
  | nil => rfl
  | cons a ws ih =>
    cases ws with
    | nil => unfold okP; rw [h a (by simp)]; rfl
    | cons b bs => unfold okP; rw [h a (by simp), ih (fun w hw => h w (by simp [hw]))]; rfl
theorem okP_hash (ws : List (List UInt8)) (h : ∀ w ∈ ws, midW w = true) : okP (ws ++ [[35]]) = true := by
  induction ws with
  | nil => rfl
  | cons a ws ih =>
    have h2 := ih (fun w hw => h w (by simp [hw]))
    cases ws with
    | nil => show okP (a :: [[35]]) = true; unfold okP; rw [h a (by simp)]; exact h2
    | cons b bs => show okP (a :: b :: (bs ++ [[35]])) = true; unfold okP; rw [h a (by simp)]; exact h2

theorem midW_chars {w : List UInt8} (h : midW w = true ∨ w = [35]) : ∀ c ∈ w, (inW c = true ∨ c = 42 ∨ c = 35) := by
  intro c hc
  rcases h with h | rfl
  · unfold midW at h
    rw [Bool.or_eq_true, beq_iff_eq] at h
    rcases h with rfl | h
    · right; left; simpa using hc
    · exact .inl ((isW_parts h).2.2 c hc)
  · right; right; simpa using hc
/-- The bytes of a pattern. -/
theorem pat_chars {l : List UInt8} (h : pat l = true) : ∀ c ∈ l, inW c = true ∨ c = 42 ∨ c = 35 ∨ c = 46 := by
  intro c hc
  unfold pat at h
  rw [Bool.and_eq_true] at h
  rcases sub_words l c hc with h1 | ⟨w, hw, hcw⟩
  · exact .inr (.inr (.inr h1))
  · rcases midW_chars (okP_all _ h.2 w hw) c hcw with h1 | h1 | h1
    · exact .inl h1
    · exact .inr (.inl h1)
    · exact .inr (.inr (.inl h1))
theorem pat_ascii {l : List UInt8} (h : pat l = true) : ∀ c ∈ l, c.toNat < 128 := by
  intro c hc
  rcases pat_chars h c hc with h | rfl | rfl | rfl
  · exact (inW_cases h).2.2.2.2.2
  all_goals decide

theorem good_pat {l : List UInt8} (h : good l = true) : pat l = true := by
  unfold good at h
  unfold pat
  rw [Bool.and_eq_true, List.all_eq_true] at h
  rw [Bool.and_eq_true]
  exact ⟨h.1, okP_of_all _ (fun w hw => by unfold midW; rw [h.2 w hw, Bool.or_true])⟩
theorem good_iff (l : List UInt8) : good l = (pat l && !(l.any (fun c => c == 42 || c == 35))) := by
  rw [Bool.eq_iff_iff, Bool.and_eq_true]
  constructor
  · intro h
    refine ⟨good_pat h, ?_⟩
    rw [Bool.not_eq_true', List.any_eq_false]
    intro c hc
    unfold good at h
    rw [Bool.and_eq_true, List.all_eq_true] at h
    rcases sub_words l c hc with h1 | ⟨w, hw, hcw⟩
    · subst h1; decide
    · have := inW_cases ((isW_parts (h.2 w hw)).2.2 c hcw)
      simp [this.1, this.2.1]
  · rintro ⟨h1, h2⟩
    rw [Bool.not_eq_true', List.any_eq_false] at h2
    unfold pat at h1
    rw [Bool.and_eq_true] at h1
    unfold good
    rw [Bool.and_eq_true, List.all_eq_true]
    refine ⟨h1.1, fun w hw => ?_⟩
    rcases okP_all _ h1.2 w hw with h | rfl
    · unfold midW at h
      rw [Bool.or_eq_true, beq_iff_eq] at h
      rcases h with rfl | h
      · exact absurd (h2 42 (words_sub l _ hw 42 (by simp)).1) (by decide)
      · exact h
    · exact absurd (h2 35 (words_sub l _ hw 35 (by simp)).1) (by decide)

theorem cov_refl (p : List (List UInt8)) : cov p p = true := by
  induction p with
  | nil => rfl
  | cons a p ih =>
    unfold cov
    split
    · rfl
    · rename_i h; simp [h, ih]
theorem cov_trans (p q r : List (List UInt8)) (h1 : cov p q = true) (h2 : cov q r = true) : cov p r = true := by
  induction p generalizing q r with
  | nil =>
    unfold cov at h1
    have : q = [] := by simpa using h1
    subst this
    exact h2
  | cons a p ih =>
    unfold cov at h1 ⊢
    split
    · rfl
    · rename_i ha
      rw [if_neg ha] at h1
      cases q with
      | nil => simp at h1
      | cons b q =>
        simp only [Bool.and_eq_true, bne_iff_ne, Bool.or_eq_true, beq_iff_eq] at h1
        obtain ⟨⟨hb, hab⟩, hpq⟩ := h1
        unfold cov at h2
        rw [if_neg hb] at h2
        cases r with
        | nil => simp at h2
        | cons c r =>
          simp only [Bool.and_eq_true, bne_iff_ne, Bool.or_eq_true, beq_iff_eq] at h2 ⊢
          obtain ⟨⟨hc, hbc⟩, hqr⟩ := h2
          refine ⟨⟨hc, ?_⟩, ih q r hpq hqr⟩
          rcases hab with h | h
          · exact .inl h
          · rw [h]; exact hbc
theorem wit_cov (p q : List (List UInt8)) (h : ∀ w ∈ q, w ≠ [35]) : wit p q = cov p q := by
  induction p generalizing q with
  | nil => rfl
  | cons a p ih =>
    unfold wit cov
    split
    · rfl
    · cases q with
      | nil => rfl
      | cons b q =>
        have hb := h b (by simp)
        simp only [ih q (fun w hw => h w (by simp [hw])), bne_iff_ne.2 hb, Bool.true_and]
end Go.Proofs.YtlbcefocmdnlgaaGreatDoor

namespace Go.Proofs.YtlbcefocmdnlgaaGreatDoor

theorem covers_self (a : List UInt8) : covers a a = pat a := by unfold covers; rw [cov_refl]; simp
theorem covers_trans (a b c : List UInt8) (h1 : covers a b = true) (h2 : covers b c = true) : covers a c = true := by
  unfold covers at *
  simp only [Bool.and_eq_true] at *
  exact ⟨⟨h1.1.1, h2.1.2⟩, cov_trans _ _ _ h1.2 h2.2⟩
theorem mat_trans (a b c : List UInt8) (h1 : covers a b = true) (h2 : mat b c = true) : mat a c = true := by
  unfold mat at *
  rw [Bool.and_eq_true] at *
  exact ⟨h2.1, covers_trans a b c h1 h2.2⟩
theorem good_words {l : List UInt8} (h : good l = true) : ∀ w ∈ wordsL l, isW w = true := by
  unfold good at h
  rw [Bool.and_eq_true, List.all_eq_true] at h
  exact h.2
theorem good_nums {l : List UInt8} (h : good l = true) : l.length ≤ 64 ∧ (wordsL l).length ≤ 8 := by
  unfold good at h
  simp only [Bool.and_eq_true, decide_eq_true_eq] at h
  exact h.1
theorem pat_nums {l : List UInt8} (h : pat l = true) : l.length ≤ 64 ∧ (wordsL l).length ≤ 8 := by
  unfold pat at h
  simp only [Bool.and_eq_true, decide_eq_true_eq] at h
  exact h.1
theorem mk_pat {l : List UInt8} (h1 : l.length ≤ 64) (h2 : (wordsL l).length ≤ 8) (h3 : okP (wordsL l) = true) : pat l = true := by
  unfold pat
  simp [h1, h2, h3]
theorem mk_good {l : List UInt8} (h1 : l.length ≤ 64) (h2 : (wordsL l).length ≤ 8) (h3 : ∀ w ∈ wordsL l, isW w = true) : good l = true := by
  unfold good
  rw [Bool.and_eq_true, List.all_eq_true]
  exact ⟨by simp [h1, h2], h3⟩

/-- The document's Match. -/
theorem mat_ref (a b : List UInt8) : (pat a && good b && wit (wordsL a) (wordsL b)) = mat a b := by
  unfold mat covers
  cases hb : good b with
  | false => simp
  | true =>
    rw [good_pat hb, wit_cov _ _ (fun w hw => (isW_star (good_words hb w hw)).2)]
    simp

theorem mat_self (s : List UInt8) : mat s s = good s := by
  unfold mat
  rw [covers_self]
  cases h : good s with
  | false => rfl
  | true => rw [good_pat h]; rfl
theorem pat_hash : pat [35] = true := by decide
theorem words_hash : wordsL [35] = [[35]] := rfl
theorem words_star : wordsL [42] = [[42]] := rfl
theorem covers_hash (s : List UInt8) : covers [35] s = pat s := by
  unfold covers
  rw [pat_hash, words_hash]
  have : cov [[35]] (wordsL s) = true := by unfold cov; rw [if_pos rfl]
  rw [this]; simp
theorem mat_hash (s : List UInt8) : mat [35] s = good s := by
  unfold mat
  rw [covers_hash]
  cases h : good s with
  | false => rfl
  | true => rw [good_pat h]; rfl
theorem mat_star (s : List UInt8) : mat [42] s = (good s && s.all (fun c => c != 46)) := by
  unfold mat
  cases h : good s with
  | false => rfl
  | true =>
    rw [Bool.true_and, Bool.true_and]
    unfold covers
    rw [good_pat h, show pat [42] = true by decide, words_star, Bool.and_self, Bool.true_and]
    cases hw : wordsL s with
    | nil => exact absurd hw (wordsL_ne s)
    | cons w ws =>
      have hb : w ≠ [35] := (isW_star (good_words h w (by rw [hw]; simp))).2
      have h1 : cov [[42]] (w :: ws) = ws.isEmpty := by
        simp [cov, hb]
      rw [h1, Bool.eq_iff_iff]
      have h2 := words_one s
      rw [hw] at h2
      constructor
      · intro he
        have : ws = [] := by simpa using he
        subst this
        have h3 := h2.1 rfl
        rw [List.all_eq_true]
        intro c hc
        simpa using h3 c hc
      · intro ha
        rw [List.all_eq_true] at ha
        have h3 := h2.2 (fun c hc => by simpa using ha c hc)
        have : ws = [] := by
          cases ws with
          | nil => rfl
          | cons a b => simp at h3
        rw [this]; rfl

theorem cov_words (p q : List (List UInt8)) (hp : ∀ w ∈ p, isW w = true) (hq : ∀ w ∈ q, isW w = true) : cov p q = decide (p = q) := by
  induction p generalizing q with
  | nil => cases q <;> simp [cov]
  | cons a p ih =>
    have ha := isW_star (hp a (by simp))
    unfold cov
    rw [if_neg ha.2]
    cases q with
    | nil => simp
    | cons b q =>
      have hb := isW_star (hq b (by simp))
      simp only [ih q (fun w hw => hp w (by simp [hw])) (fun w hw => hq w (by simp [hw]))]
      rw [bne_iff_ne.2 hb.2]
      have : (a == [42]) = false := by simpa using ha.1
      rw [this]
      by_cases e : a = b
      · subst e; simp
      · simp [e]
theorem covers_good (a b : List UInt8) (ha : good a = true) (hb : good b = true) : covers a b = decide (a = b) := by
  unfold covers
  rw [good_pat ha, good_pat hb, cov_words _ _ (good_words ha) (good_words hb)]
  by_cases e : a = b
  · subst e; simp
  · have : ¬ wordsL a = wordsL b := fun h => e (wordsL_inj h)
    simp [e, this]
theorem mat_good (a b : List UInt8) (ha : good a = true) (hb : good b = true) : mat a b = decide (a = b) := by
  unfold mat
  rw [hb, covers_good a b ha hb]; rfl

/-- Two topics with a dot between them. -/
theorem good_two (a b : List UInt8) (ha : good a = true) (hb : good b = true) : good (a ++ 46 :: b) = (decide (a.length + b.length + 1 ≤ 64) && decide ((wordsL a).length + (wordsL b).length ≤ 8)) := by
  rw [Bool.eq_iff_iff]
  constructor
  · intro h
    have := good_nums h
    rw [wordsL_app, List.length_append, List.length_append, List.length_cons] at this
    simp only [Bool.and_eq_true, decide_eq_true_eq]
    omega
  · intro h
    simp only [Bool.and_eq_true, decide_eq_true_eq] at h
    refine mk_good ?_ ?_ ?_
    · rw [List.length_append, List.length_cons]; omega
    · rw [wordsL_app, List.length_append]; omega
    · intro w hw
      rw [wordsL_app] at hw
      rcases List.mem_append.1 hw with hw | hw
      · exact good_words ha w hw
      · exact good_words hb w hw
theorem cov_pre (p q r : List (List UInt8)) (hp : ∀ w ∈ p, isW w = true) : cov (p ++ r) (p ++ q) = cov r q := by
  induction p with
  | nil => rfl
  | cons a p ih =>
    have ha := isW_star (hp a (by simp))
    rw [List.cons_append, List.cons_append]
    rw [cov, if_neg ha.2]
    simp only [ih (fun w hw => hp w (by simp [hw])), bne_iff_ne.2 ha.2]
    simp
theorem cov_hash (q : List (List UInt8)) : cov [[35]] q = true := by unfold cov; rw [if_pos rfl]
theorem mat_two (a b : List UInt8) (ha : good a = true) (h : good (a ++ 46 :: b) = true) (hp : pat (a ++ [46, 35]) = true) : mat (a ++ [46, 35]) (a ++ 46 :: b) = true := by
  unfold mat covers
  rw [h, hp, good_pat h, show a ++ [46, 35] = a ++ 46 :: [35] from rfl, wordsL_app, wordsL_app, words_hash, cov_pre _ _ _ (good_words ha), cov_hash]
  rfl
theorem mat_one (a : List UInt8) (ha : good a = true) (hp : pat (a ++ [46, 35]) = true) : mat (a ++ [46, 35]) a = true := by
  unfold mat covers
  rw [ha, hp, good_pat ha, show a ++ [46, 35] = a ++ 46 :: [35] from rfl, wordsL_app, words_hash]
  have := cov_pre (wordsL a) [] [[35]] (good_words ha)
  rw [List.append_nil] at this
  rw [this, cov_hash]
  rfl

/-- One word more ahead of #. -/
theorem mat_more (s : List UInt8) (hs : good s = true) : mat (s ++ [46, 97, 46, 35]) s = false := by
  unfold mat covers
  rw [show s ++ [46, 97, 46, 35] = s ++ 46 :: [97, 46, 35] from rfl, wordsL_app, show wordsL [97, 46, 35] = [[97], [35]] from by decide]
  have := cov_pre (wordsL s) [] [[97], [35]] (good_words hs)
  rw [List.append_nil] at this
  rw [this]
  simp [cov]

theorem join_len_set (ws : List (List UInt8)) (i : Nat) (v : List UInt8) (hi : i < ws.length) : (joinL (ws.set i v)).length + ws[i].length = (joinL ws).length + v.length := by
  induction ws generalizing i with
  | nil => simp at hi
  | cons a ws ih =>
    cases i with
    | zero =>
      cases ws with
      | nil => simp [joinL]; omega
      | cons b bs => simp [joinL]; omega
    | succ i =>
      have hi' : i < ws.length := by simpa using hi
      have h := ih i hi'
      have hne : ws ≠ [] := by rintro rfl; simp at hi'
      have hne2 : ws.set i v ≠ [] := by
        intro e; have := congrArg List.length e; rw [List.length_set] at this; exact hne (List.eq_nil_of_length_eq_zero this)
      rw [List.set_cons_succ, joinL_cons _ _ hne2, joinL_cons _ _ hne]
      simp only [List.length_append, List.length_cons, List.getElem_cons_succ]
      omega
theorem cov_set (ws : List (List UInt8)) (i : Nat) (h : ∀ w ∈ ws, isW w = true) : cov (ws.set i [42]) ws = true := by
  induction ws generalizing i with
  | nil => rfl
  | cons a ws ih =>
    have ha := isW_star (h a (by simp))
    cases i with
    | zero =>
      rw [List.set_cons_zero, cov, if_neg (by decide)]
      simp [ha.2, cov_refl]
    | succ i =>
      rw [List.set_cons_succ, cov, if_neg ha.2]
      simp [ha.2, ih i (fun w hw => h w (by simp [hw]))]
/-- A topic with * in the place of a word. -/
theorem mat_set (s : List UInt8) (hs : good s = true) (i : Nat) (hi : i < (wordsL s).length) : mat (joinL ((wordsL s).set i [42])) s = true := by
  have hw := good_words hs
  have hn := good_nums hs
  have hne : (wordsL s).set i [42] ≠ [] := by
    intro e; have := congrArg List.length e; rw [List.length_set] at this; exact wordsL_ne s (List.eq_nil_of_length_eq_zero this)
  have hmid : ∀ w ∈ (wordsL s).set i [42], midW w = true := by
    intro w hm
    rcases List.mem_or_eq_of_mem_set hm with h | rfl
    · unfold midW; rw [hw w h, Bool.or_true]
    · rfl
  have hwj : wordsL (joinL ((wordsL s).set i [42])) = (wordsL s).set i [42] := by
    refine words_join _ hne (fun w hm c hc => ?_)
    rcases midW_chars (.inl (hmid w hm)) c hc with h | rfl | rfl
    · exact (inW_cases h).2.2.1
    · decide
    · decide
  have hl : (joinL ((wordsL s).set i [42])).length ≤ 64 := by
    have := join_len_set (wordsL s) i [42] hi
    rw [join_words] at this
    have hp : 0 < (wordsL s)[i].length := by
      have := (isW_parts (hw _ (List.getElem_mem hi))).1
      exact List.length_pos_iff.2 this
    simp only [List.length_singleton] at this
    omega
  unfold mat covers
  rw [hs, good_pat hs, mk_pat hl (by rw [hwj, List.length_set]; exact hn.2) (by rw [hwj]; exact okP_of_all _ hmid), hwj, cov_set _ _ hw]
  rfl

/-- The first words with a dot behind each. -/
def headL : List (List UInt8) → List UInt8
  | [] => []
  | w :: ws => w ++ 46 :: headL ws
theorem words_head (ws : List (List UInt8)) (h : ∀ w ∈ ws, ∀ c ∈ w, c ≠ 46) (t : List UInt8) : wordsL (headL ws ++ t) = ws ++ wordsL t := by
  induction ws with
  | nil => rfl
  | cons w ws ih =>
    rw [headL, List.append_assoc, List.cons_append, wordsL_app, wordsL_plain w (h w (by simp)), ih (fun x hx => h x (by simp [hx]))]
    rfl
theorem mat_head (s : List UInt8) (hs : good s = true) (i : Nat) (hi : i < (wordsL s).length) (hl : (headL ((wordsL s).take i)).length < 63) : mat (headL ((wordsL s).take i) ++ [35]) s = true := by
  have hw := good_words hs
  have hn := good_nums hs
  have ht : ∀ w ∈ (wordsL s).take i, isW w = true := fun w h => hw w (List.mem_of_mem_take h)
  have hwj := words_head ((wordsL s).take i) (fun w hm c hc => (inW_cases ((isW_parts (ht w hm)).2.2 c hc)).2.2.1) [35]
  rw [words_hash] at hwj
  unfold mat covers
  rw [hs, good_pat hs, mk_pat (by rw [List.length_append, List.length_singleton]; omega) (by rw [hwj, List.length_append, List.length_take, List.length_singleton]; omega) (by rw [hwj]; exact okP_hash _ (fun w h => by unfold midW; rw [ht w h, Bool.or_true])), hwj]
  have := cov_pre ((wordsL s).take i) ((wordsL s).drop i) [[35]] ht
  rw [List.take_append_drop] at this
  rw [this, cov_hash]
  rfl

/-- Turning marks. -/
def turnB (c : UInt8) : UInt8 := if c = 46 then 47 else if c = 47 then 46 else if c = 42 then 43 else if c = 43 then 42 else c
theorem turnB_turnB (c : UInt8) : turnB (turnB c) = c := by
  by_cases h1 : c = 46
  · subst h1; decide
  · by_cases h2 : c = 47
    · subst h2; decide
    · by_cases h3 : c = 42
      · subst h3; decide
      · by_cases h4 : c = 43
        · subst h4; decide
        · have : turnB c = c := by unfold turnB; rw [if_neg h1, if_neg h2, if_neg h3, if_neg h4]
          rw [this, this]
theorem turnL_turnL (l : List UInt8) : (l.map turnB).map turnB = l := by
  rw [List.map_map]
  conv => rhs; rw [← List.map_id l]
  refine List.map_congr_left (fun c _ => turnB_turnB c)
def slashB (c : UInt8) : UInt8 := if c = 46 then 47 else if c = 42 then 43 else c
def dotB (c : UInt8) : UInt8 := if c = 47 then 46 else if c = 43 then 42 else c
theorem pat_slash {l : List UInt8} (h : pat l = true) : l.map slashB = l.map turnB := by
  refine List.map_congr_left (fun c hc => ?_)
  rcases pat_chars h c hc with h | rfl | rfl | rfl
  · have := inW_cases h
    unfold slashB turnB
    simp [this.1, this.2.2.1, this.2.2.2.1, this.2.2.2.2.1]
  all_goals decide
/-- What the document says of MQTT's texts. -/
def dotsOk (l : List UInt8) : Bool := l.all (fun c => c != 46 && c != 42) && pat (l.map dotB)
theorem dots_same (l : List UInt8) (h : ∀ c ∈ l, c ≠ 46 ∧ c ≠ 42) : l.map dotB = l.map turnB := by
  refine List.map_congr_left (fun c hc => ?_)
  unfold dotB turnB
  simp [(h c hc).1, (h c hc).2]
theorem pat_turn_no {l : List UInt8} (h : pat (l.map turnB) = true) : ∀ c ∈ l, c ≠ 46 ∧ c ≠ 42 := by
  intro c hc
  have := pat_chars h (turnB c) (List.mem_map_of_mem hc)
  constructor
  all_goals (rintro rfl; revert this; decide)
theorem dotsOk_eq (l : List UInt8) : dotsOk l = pat (l.map turnB) := by
  unfold dotsOk
  rw [Bool.eq_iff_iff, Bool.and_eq_true, List.all_eq_true]
  constructor
  · rintro ⟨h1, h2⟩
    rw [dots_same l (fun c hc => by simpa using h1 c hc)] at h2
    exact h2
  · intro h
    have hn := pat_turn_no h
    exact ⟨fun c hc => by simpa using hn c hc, by rw [dots_same l hn]; exact h⟩
theorem len_set_ge {c : UInt8} (l : List UInt8) (h : c ∈ l) (hc : 128 ≤ c.toNat) : pat l = false := by
  cases hp : pat l with
  | false => rfl
  | true => have := pat_ascii hp c h; omega
end Go.Proofs.YtlbcefocmdnlgaaGreatDoor

namespace Go.Proofs.YtlbcefocmdnlgaaGreatDoor.To
open Go.RowKit Go.Lib

theorem ret_b {a b : Bool} (h : a = b) : Ending.returned (.bool a) = .returned (.bool b) := by rw [h]

def inN (c : Int) : Bool := decide (97 ≤ c) && decide (c ≤ 122) || decide (48 ≤ c) && decide (c ≤ 57) || c == 45 || c == 95

/-- Whether bytes are a name. -/
def nameL (s : List UInt8) : Bool := decide (1 ≤ s.length) && decide (s.length ≤ 16) && s.all fun c => inN (c.toNat : Int)

theorem all_take {p : UInt8 → Bool} {s : List UInt8} (k : Nat) (h : k < s.length) : (s.take (k + 1)).all p = ((s.take k).all p && p s[k]) := by
  rw [List.take_succ_eq_append_getElem h, List.all_append]
  simp

theorem toList_len (s : ByteArray) : s.toList.length = s.size := by rw [ByteArray.toList_eq]; rfl
theorem toList_at (s : ByteArray) (k : Nat) (h : k < s.size) (h' : k < s.toList.length) : s.toList[k] = s[k] := by
  simp only [ByteArray.toList_eq]
  rfl

set_option maxRecDepth 4000 in
set_option maxHeartbeats 1000000 in
theorem rname7 (w : World) (s : ByteArray) (hs63 : s.size ≤ 9223372036854775807) : Calls Tryz.prog 31 #[.string s] w fun e w' => e = .returned (.bool (nameL s.toList)) ∧ w' = w := by
  have hsz := toList_len s
  have H : Hid (∀ (k : Nat) (h : k < s.size), (s.toList.take (k + 1)).all (fun c => inN (c.toNat : Int)) = ((s.toList.take k).all (fun c => inN (c.toNat : Int)) && inN ((s[k]'h).toNat : Int))) := fun k h => by
    rw [all_take k (by omega), toList_at s k h]
  have H2 : Hid (∀ k, s.size ≤ k → (s.toList.take k).all (fun c => inN (c.toNat : Int)) = true → nameL s.toList = (decide ((s.size : Int) ≥ 1) && decide ((s.size : Int) ≤ 16))) := fun k h e => by
    rw [List.take_of_length_le (by omega)] at e
    unfold nameL
    rw [e, Bool.and_true, hsz]
    congr 1 <;> exact decide_eq_decide.2 (by omega)
  have H3 : Hid (∀ k, (s.toList.take k).all (fun c => inN (c.toNat : Int)) = false → nameL s.toList = false) := fun k h => by
    unfold nameL
    rw [← List.take_append_drop k s.toList, List.all_append, h]; simp
  have H0 : (s.toList.take 0).all (fun c => inN (c.toNat : Int)) = true := rfl
  obtain ⟨g, hg⟩ : ∃ g : Nat → Bool, ∀ k, g k = (s.toList.take k).all (fun c => inN (c.toNat : Int)) := ⟨_, fun _ => rfl⟩
  simp only [← hg] at H H2 H3 H0
  clear hg hsz
  generalize nameL s.toList = r at *
  go_enter Tryz.func31, Tryz.ntmps31
  go_wp2_with fail
  go_loopw [3] (fun i wr => ∃ k : Nat, k ≤ s.size ∧ i = .int .i64 k ∧ wr = w ∧ Hid (g k = true)) (fun i _ => s.size - (RowKit.intOf i).toNat)
  case atStart => exact ⟨0, by omega, rfl, rfl, H0⟩
  case round =>
    obtain ⟨k, hk, rfl, rfl, hz⟩ := hrel
    by_cases hlt : k < s.size
    · have h3 := H.out k hlt
      rw [hz.out, Bool.true_and] at h3
      obtain ⟨z, hz9⟩ : ∃ z : Int, ((s[k]'hlt).toNat : Int) = z := ⟨_, rfl⟩
      rw [hz9] at h3
      by_cases h1 : z ≥ 97
      · by_cases h2 : z ≤ 122
        · have e : inN z = true := by simp [inN, *]
          rw [e] at h3
          clear e
          go_wp2
          go_roundw
          case rel => exact ⟨k + 1, by omega, by go_num, trivial, h3⟩
          case measure => simp [RowKit.intOf]; omega
        · have h5 : z ≥ 48 := by omega
          have h6 : ¬ z ≤ 57 := by omega
          have h7 : (z == 45) = false := by simp; omega
          have h8 : (z == 95) = false := by simp; omega
          have e : inN z = false := by simp [inN, *]
          rw [e] at h3
          have h4 := H3.out _ h3
          clear e
          go_wp2
          go_ret
          exact ⟨ret_b (by first | rfl | exact h4.symm), rfl⟩
      · by_cases h2 : z ≥ 48
        · by_cases h5 : z ≤ 57
          · have e : inN z = true := by simp [inN, *]
            rw [e] at h3
            clear e
            go_wp2
            go_roundw
            case rel => exact ⟨k + 1, by omega, by go_num, trivial, h3⟩
            case measure => simp [RowKit.intOf]; omega
          · have h7 : (z == 45) = false := by simp; omega
            cases h8 : (z == 95) with
            | true =>
              have e : inN z = true := by simp [inN, *]
              rw [e] at h3
              clear e
              go_wp2
              go_roundw
              case rel => exact ⟨k + 1, by omega, by go_num, trivial, h3⟩
              case measure => simp [RowKit.intOf]; omega
            | false =>
              have e : inN z = false := by simp [inN, *]
              rw [e] at h3
              have h4 := H3.out _ h3
              clear e
              go_wp2
              go_ret
              exact ⟨ret_b (by first | rfl | exact h4.symm), rfl⟩
        · cases h7 : (z == 45) with
          | true =>
            have e : inN z = true := by simp [inN, *]
            rw [e] at h3
            clear e
            go_wp2
            go_roundw
            case rel => exact ⟨k + 1, by omega, by go_num, trivial, h3⟩
            case measure => simp [RowKit.intOf]; omega
          | false =>
            cases h8 : (z == 95) with
            | true =>
              have e : inN z = true := by simp [inN, *]
              rw [e] at h3
              clear e
              go_wp2
              go_roundw
              case rel => exact ⟨k + 1, by omega, by go_num, trivial, h3⟩
              case measure => simp [RowKit.intOf]; omega
            | false =>
              have e : inN z = false := by simp [inN, *]
              rw [e] at h3
              have h4 := H3.out _ h3
              clear e
              go_wp2
              go_ret
              exact ⟨ret_b (by first | rfl | exact h4.symm), rfl⟩
    · have h4 := H2.out k (by omega) hz.out
      by_cases h1 : (s.size : Int) ≥ 1
      · go_wp2
        go_ret
        exact ⟨ret_b (by first | (rw [h4]; simp_all; done) | (simp_all; done) | (simp; omega)), rfl⟩
      · go_wp2
        go_ret
        exact ⟨ret_b (by first | (rw [h4]; simp_all; done) | (simp_all; done) | (simp; omega)), rfl⟩

theorem inN_inW (c : UInt8) : inN (c.toNat : Int) = inW c := by
  unfold inN inW
  have h1 : ∀ k : Nat, decide ((k : Int) ≤ (c.toNat : Int)) = decide (k ≤ c.toNat) := fun k => decide_eq_decide.2 Int.ofNat_le
  have h2 : ∀ k : Nat, decide ((c.toNat : Int) ≤ (k : Int)) = decide (c.toNat ≤ k) := fun k => decide_eq_decide.2 Int.ofNat_le
  have h3 : ((c.toNat : Int) == 45) = (c == 45) := by
    rw [Bool.eq_iff_iff, beq_iff_eq, beq_iff_eq]
    constructor
    · intro h; exact UInt8.toNat_inj.1 (by show c.toNat = 45; omega)
    · rintro rfl; rfl
  have h4 : ((c.toNat : Int) == 95) = (c == 95) := by
    rw [Bool.eq_iff_iff, beq_iff_eq, beq_iff_eq]
    constructor
    · intro h; exact UInt8.toNat_inj.1 (by show c.toNat = 95; omega)
    · rintro rfl; rfl
  rw [h3, h4]
  have a : decide ((97 : Int) ≤ (c.toNat : Int)) = decide (97 ≤ c.toNat) := h1 97
  have b : decide ((c.toNat : Int) ≤ 122) = decide (c.toNat ≤ 122) := h2 122
  have d : decide ((48 : Int) ≤ (c.toNat : Int)) = decide (48 ≤ c.toNat) := h1 48
  have e : decide ((c.toNat : Int) ≤ 57) = decide (c.toNat ≤ 57) := h2 57
  rw [a, b, d, e]
theorem nameL_isW (l : List UInt8) : nameL l = isW l := by
  unfold nameL isW
  have : decide (1 ≤ l.length) = !l.isEmpty := by cases l <;> simp
  rw [this]
  congr 1
  refine List.all_congr rfl (fun c => inN_inW c)
/-- A text's bytes. -/
abbrev bl (s : ByteArray) : List UInt8 := s.data.toList
theorem bl_toList (s : ByteArray) : s.toList = bl s := ByteArray.toList_eq s
theorem bl_len (s : ByteArray) : (bl s).length = s.size := by rw [← bl_toList]; exact toList_len s
theorem rname_any (w : World) (s : ByteArray) (hs : s.size ≤ 9223372036854775807) : Calls Tryz.prog 31 #[.string s] w fun e w' => e = .returned (.bool (isW (bl s))) ∧ w' = w := by
  have := rname7 w s hs
  rw [nameL_isW, bl_toList] at this
  exact this
theorem inword_any (w : World) (c : Int) : Calls Tryz.prog 93 #[.int .i32 c] w fun e w' => e = .returned (.bool (inN c)) ∧ w' = w := by
  by_cases h1 : 97 ≤ c
  · by_cases h2 : c ≤ 122
    · have e : inN c = true := by simp [inN, h1, h2]
      rw [e]
      go_enter Tryz.func93, Tryz.ntmps93
      go_wp2
      go_ret
      exact ⟨rfl, rfl⟩
    · have h3 : 48 ≤ c := by omega
      have h4 : ¬ c ≤ 57 := by omega
      have h5 : (c == 45) = false := by simp; omega
      have h6 : (c == 95) = false := by simp; omega
      have e : inN c = false := by simp [inN, h2, h4, h5, h6]
      rw [e]
      go_enter Tryz.func93, Tryz.ntmps93
      go_wp2
      go_ret
      exact ⟨rfl, rfl⟩
  · by_cases h2 : 48 ≤ c
    · by_cases h3 : c ≤ 57
      · have e : inN c = true := by simp [inN, h2, h3]
        rw [e]
        go_enter Tryz.func93, Tryz.ntmps93
        go_wp2
        go_ret
        exact ⟨rfl, rfl⟩
      · have h5 : (c == 45) = false := by simp; omega
        have e : inN c = (c == 95) := by simp [inN, h1, h3, h5]
        rw [e]
        go_enter Tryz.func93, Tryz.ntmps93
        go_wp2
        go_ret
        exact ⟨rfl, rfl⟩
    · cases h5 : (c == 45) with
      | true =>
        have e : inN c = true := by simp [inN, h5]
        rw [e]
        go_enter Tryz.func93, Tryz.ntmps93
        go_wp2
        go_ret
        exact ⟨rfl, rfl⟩
      | false =>
        have e : inN c = (c == 95) := by simp [inN, h1, h2, h5]
        rw [e]
        go_enter Tryz.func93, Tryz.ntmps93
        go_wp2
        go_ret
        exact ⟨rfl, rfl⟩

theorem notword_any (w : World) (c : Int) : Calls Tryz.prog 92 #[.int .i32 c] w fun e w' => e = .returned (.bool (!inN c)) ∧ w' = w := by
  go_enter Tryz.func92, Tryz.ntmps92
  go_wp2_with (go_at_call 93; refine (inword_any _ _).mono ?_; rintro e w' ⟨rfl, rfl⟩)
  go_ret
  exact ⟨rfl, rfl⟩
end Go.Proofs.YtlbcefocmdnlgaaGreatDoor.To

namespace Go.Proofs.YtlbcefocmdnlgaaGreatDoor.To
open Go.RowKit Go.Lib

/-- A text as a value. -/
abbrev str (l : List UInt8) : Value := .string ⟨l.toArray⟩
/-- Texts that lie one behind the other. -/
def RdS (w : World) (b off : Nat) (ws : List (List UInt8)) : Prop := b < w.heap.size ∧ ∀ j (h : j < ws.length), w.cell? ⟨b, off + j, none⟩ = some (str ws[j])
theorem RdS.below {w w' : World} {b off : Nat} {ws : List (List UInt8)} (h : RdS w b off ws) {B : Nat} (hb : Below B w w') (hB : b < B) : RdS w' b off ws :=
  ⟨Nat.lt_of_lt_of_le h.1 (Nat.le_trans (Nat.le_refl _) (by have := hb.size; have := h.1; omega)), fun j hj => by rw [hb.cell (p := ⟨b, off + j, none⟩) hB]; exact h.2 j hj⟩

/-- The place of the first word that may not stand everywhere. -/
def oddL : List (List UInt8) → Nat
  | [] => 0
  | w :: ws => if midW w then oddL ws + 1 else 0
def oddZ (ws : List (List UInt8)) : Int := if oddL ws < ws.length then (oddL ws : Int) else -1
theorem oddL_le (ws : List (List UInt8)) : oddL ws ≤ ws.length := by
  induction ws with
  | nil => simp [oddL]
  | cons w ws ih => unfold oddL; split <;> simp; omega
theorem odd_hit (ws : List (List UInt8)) (k : Nat) (h : k < ws.length) (hk : midW ws[k] = false) (hb : ∀ j (hj : j < ws.length), j < k → midW ws[j] = true) : oddL ws = k := by
  induction ws generalizing k with
  | nil => simp at h
  | cons w ws ih =>
    cases k with
    | zero => unfold oddL; rw [if_neg (by simpa using hk)]
    | succ k =>
      have hb0 : midW w = true := hb 0 (by simp) (by omega)
      unfold oddL
      rw [if_pos hb0, ih k (by simpa using h) (by simpa using hk) (fun j hj hjk => hb (j + 1) (Nat.succ_lt_succ hj) (Nat.succ_lt_succ hjk))]
theorem odd_miss (ws : List (List UInt8)) (hb : ∀ j (hj : j < ws.length), midW ws[j] = true) : oddL ws = ws.length := by
  induction ws with
  | nil => rfl
  | cons w ws ih =>
    have hb0 : midW w = true := hb 0 (by simp)
    unfold oddL
    rw [if_pos hb0, ih (fun j hj => hb (j + 1) (Nat.succ_lt_succ hj))]; rfl
theorem okP_odd (ws : List (List UInt8)) (hne : ws ≠ []) : okP ws = (decide (oddZ ws < 0) || (decide (oddZ ws = (ws.length : Int) - 1) && ws.getLast hne == [35])) := by
  induction ws with
  | nil => exact absurd rfl hne
  | cons a ws ih =>
    cases ws with
    | nil =>
      unfold okP
      cases h : midW a with
      | true => simp [oddZ, oddL, h]
      | false => simp [oddZ, oddL, h]
    | cons b bs =>
      have ih := ih (by simp)
      unfold okP
      cases h : midW a with
      | false =>
        have h0 : oddL (a :: b :: bs) = 0 := by unfold oddL; rw [if_neg (by simp [h])]
        have h1 : oddZ (a :: b :: bs) = 0 := by unfold oddZ; rw [h0]; simp
        rw [h1]
        have : ¬ ((0 : Int) = ((a :: b :: bs).length : Int) - 1) := by simp only [List.length_cons]; omega
        simp only [this]
        simp
      | true =>
        have h0 : oddL (a :: b :: bs) = oddL (b :: bs) + 1 := by rw [oddL, if_pos h]
        have hgl : (a :: b :: bs).getLast hne = (b :: bs).getLast (by simp) := List.getLast_cons (by simp)
        rw [Bool.true_and, ih, hgl]
        have hz : oddZ (a :: b :: bs) = if oddZ (b :: bs) < 0 then -1 else oddZ (b :: bs) + 1 := by
          unfold oddZ
          rw [h0]
          have := oddL_le (b :: bs)
          simp only [List.length_cons] at *
          split <;> split <;> (try split) <;> omega
        have hge : -1 ≤ oddZ (b :: bs) := by unfold oddZ; split <;> omega
        rw [hz]
        congr 1
        · exact decide_eq_decide.2 (by split <;> omega)
        · congr 1
          refine decide_eq_decide.2 ?_
          simp only [List.length_cons]
          split <;> omega

set_option maxHeartbeats 1000000 in
theorem indexFunc_any (w : World) (b c : Nat) (ws : List (List UInt8)) (hw : RdS w b 0 ws) (hn : ws.length ≤ 9223372036854775807)
    (hp : ∀ (W : World) (l : List UInt8), Below w.heap.size w W → Calls Tryz.prog 79 #[str l] W fun e w' => e = .returned (.bool (!midW l)) ∧ Below W.heap.size W w') :
    Calls Tryz.prog 78 #[.slice (some ⟨b, 0, none⟩) ws.length c, .func (.func 79) #[] #[]] w fun e w' => e = .returned (.int .i64 (oddZ ws)) ∧ Below w.heap.size w w' := by
  obtain ⟨n, hnn⟩ : ∃ n, ws.length = n := ⟨_, rfl⟩
  rw [hnn] at hn ⊢
  have HW : Hid (∀ j (h : j < ws.length), w.cell? ⟨b, 0 + j, none⟩ = some (str ws[j])) := hw.2
  have hb0 := hw.1
  clear hw
  have HN : Hid (ws.length = n) := hnn
  clear hnn
  go_enter Tryz.func78, Tryz.ntmps78
  go_wp2_with fail
  go_loopg [5, 8] n (fun gg _ s8 wr => ∃ kk : Nat, kk ≤ n ∧ n - kk ≤ gg ∧ s8 = .int .i64 kk ∧ Below w.heap.size w wr ∧ Hid (∀ j (hj : j < ws.length), j < kk → midW ws[j] = true))
  case atStart => exact ⟨0, Nat.zero_le _, by omega, rfl, Below.refl _ _, fun j _ hj => absurd hj (Nat.not_lt_zero _)⟩
  case round =>
    obtain ⟨kk, hkk, hg, rfl, hbw, A⟩ := hrel
    by_cases hlt : kk < n
    · have hltz : (kk : Int) < (n : Int) := by omega
      have hkl : kk < ws.length := by have := HN.out; omega
      have hcell : wr.cell? ⟨b, 0 + kk, none⟩ = some (str ws[kk]) := by rw [hbw.cell (p := ⟨b, 0 + kk, none⟩) hb0]; exact HW.out kk hkl
      obtain ⟨y, hy⟩ : ∃ y, ws[kk] = y := ⟨_, rfl⟩
      rw [hy] at hcell
      have B : Hid (ws[kk] = y) := hy
      clear hy
      rw [Nat.zero_add] at hcell
      have hcall := hp wr y hbw
      cases hq : midW y with
      | false =>
        rw [hq] at hcall
        go_wp2_with (go_at_call 79; refine hcall.mono ?_; rintro e w' ⟨rfl, hbb⟩)
        go_ret
        refine ⟨?_, hbw.trans (hbb.mono hbw.size)⟩
        have h1 := odd_hit ws kk hkl (by rw [B.out]; exact hq) A.out
        have : oddZ ws = (kk : Int) := by unfold oddZ; rw [h1, if_pos hkl]
        rw [this]; rfl
      | true =>
        rw [hq] at hcall
        go_wp2_with (go_at_call 79; refine hcall.mono ?_; rintro e w' ⟨rfl, hbb⟩)
        go_roundg (n - (kk + 1))
        case measure => omega
        case rel =>
          refine ⟨kk + 1, by omega, by omega, by go_num, hbw.trans (hbb.mono hbw.size), (show Hid _ from fun j hj hjk => ?_)⟩
          by_cases e : j = kk
          · subst e
            rw [B.out]; exact hq
          · exact A.out j hj (by omega)
    · have hltz : ¬ (kk : Int) < (n : Int) := by omega
      have : kk = n := by omega
      subst this
      go_wp2
      go_ret
      refine ⟨?_, hbw⟩
      have h1 := odd_miss ws (fun j hj => A.out j hj (by have := HN.out; omega))
      have : oddZ ws = -1 := by unfold oddZ; rw [h1, if_neg (by omega)]
      rw [this]; rfl

theorem str_eq (a : List UInt8) (b : List UInt8) : ((⟨a.toArray⟩ : ByteArray).toList == (⟨b.toArray⟩ : ByteArray).toList) = (a == b) := by
  rw [ByteArray.toList_eq, ByteArray.toList_eq]

theorem cov_drop (p q : List (List UInt8)) (k : Nat) (h : k < p.length) : cov (p.drop k) (q.drop k) = if p[k] = [35] then true else if h2 : k < q.length then (q[k] != [35] && (p[k] == [42] || p[k] == q[k]) && cov (p.drop (k + 1)) (q.drop (k + 1))) else false := by
  rw [List.drop_eq_getElem_cons h]
  by_cases h2 : k < q.length
  · rw [dif_pos h2, List.drop_eq_getElem_cons h2]
    simp only [cov]
  · rw [dif_neg h2, List.drop_eq_nil_of_le (show q.length ≤ k by omega)]
    simp only [cov]
theorem cov_end (p q : List (List UInt8)) (h : p.length ≤ q.length) : cov (p.drop p.length) (q.drop p.length) = decide (p.length = q.length) := by
  rw [List.drop_length]
  show (q.drop p.length).isEmpty = _
  rw [Bool.eq_iff_iff]
  simp [List.isEmpty_iff, List.drop_eq_nil_iff]
  omega

end Go.Proofs.YtlbcefocmdnlgaaGreatDoor.To

namespace Go.Proofs.YtlbcefocmdnlgaaGreatDoor.To
open Go.Lib

def dot : ByteArray := ⟨#[46]⟩
theorem mk_bl (s : ByteArray) : (⟨(bl s).toArray⟩ : ByteArray) = s := by cases s; simp [bl]

theorem split_words (n : Nat) : ∀ s : ByteArray, s.size ≤ n → (Lib.splitB dot 0 (Lib.countB s dot) s).map bl = wordsL (bl s) := by
  induction n with
  | zero =>
    intro s hs
    have h0 : bl s = [] := List.eq_nil_of_length_eq_zero (by rw [bl_len]; omega)
    have hi : Lib.indexB s dot = -1 := by show Lib.index (bl s) _ = -1; rw [h0]; rfl
    rw [Lib.splitB_miss _ _ _ _ hi, h0]
    show [bl s] = _
    rw [h0]; rfl
  | succ n ih =>
    intro s hs
    have h1 : Lib.indexB s dot = Lib.indexByte (bl s) 46 := Lib.index_one (bl s) 46
    rcases Lib.indexB_cases s dot with hm | ⟨i, hi, hle⟩
    · rw [Lib.splitB_miss _ _ _ _ hm]
      rw [hm] at h1
      have hno := Lib.indexByte_none h1.symm
      show [bl s] = _
      rw [wordsL_plain]
      intro c hc e
      obtain ⟨k, hk, hkc⟩ := List.mem_iff_getElem.1 hc
      exact hno k (by rw [List.getElem?_eq_getElem hk, hkc, e])
    · rw [hi] at h1
      obtain ⟨h2, h3⟩ := Lib.indexByte_some h1.symm
      have hd : dot.size = 1 := rfl
      rw [hd] at hle
      rw [Lib.countB_hit s dot i (by rw [hd]; omega) hi, Nat.add_comm 1, Lib.splitB_hit _ _ _ _ i hi, List.map_cons, hd]
      have hsz := bl_len s
      have hx : bl (s.extract (i + 1) s.size) = (bl s).drop (i + 1) := by
        show (s.extract (i + 1) s.size).data.toList = _
        rw [Lib.extract_data]
        exact List.take_of_length_le (by rw [List.length_drop]; show (bl s).length - (i + 1) ≤ _; omega)
      have hx0 : bl (s.extract 0 (i + 0)) = (bl s).take i := by
        show (s.extract 0 (i + 0)).data.toList = _
        rw [Lib.extract_data]; rfl
      have hsz2 : (s.extract (i + 1) s.size).size ≤ n := by
        rw [← bl_len, hx, List.length_drop, hsz]; omega
      rw [ih _ hsz2, hx, hx0]
      have hi2 : i < (bl s).length := by omega
      have h46 : (bl s)[i] = 46 := by rw [List.getElem?_eq_getElem hi2] at h2; injection h2
      have hl : bl s = (bl s).take i ++ 46 :: (bl s).drop (i + 1) := by
        conv => lhs; rw [← List.take_append_drop i (bl s), List.drop_eq_getElem_cons hi2, h46]
      conv => rhs; rw [hl]
      rw [wordsL_app, wordsL_plain ((bl s).take i)]
      · rfl
      · intro c hc e
        obtain ⟨k, hk, hkc⟩ := List.mem_iff_getElem.1 hc
        have hk' : k < i := by rw [List.length_take] at hk; omega
        refine h3 k hk' ?_
        rw [List.getElem_take] at hkc
        rw [List.getElem?_eq_getElem (by omega), hkc, e]
theorem split_vals (s : ByteArray) : (Lib.splitB dot 0 (Lib.countB s dot) s).map Value.string = (wordsL (bl s)).map (fun l => Value.string ⟨l.toArray⟩) := by
  rw [← split_words s.size s (Nat.le_refl _), List.map_map]
  refine List.map_congr_left (fun x _ => ?_)
  show Value.string x = Value.string ⟨(bl x).toArray⟩
  rw [mk_bl]
theorem split_count (s : ByteArray) : Lib.countB s dot + 1 = (wordsL (bl s)).length := by
  have := congrArg List.length (split_words s.size s (Nat.le_refl _))
  rw [List.length_map, Lib.splitB_all dot (by decide) 0 (Lib.countB s dot) s rfl] at this
  exact this

theorem decodeN_big (n b0 b1 b2 b3 : Nat) (h : 128 ≤ b0) : 128 ≤ (Lib.decodeN n b0 b1 b2 b3).1 := by
  unfold Lib.decodeN
  rw [if_neg (by omega)]
  split
  · split <;> simp <;> omega
  · split
    · split <;> simp <;> omega
    · split
      · split <;> simp <;> omega
      · simp
theorem inN_big (z : Nat) (h : 128 ≤ z) : inN (z : Int) = false := by
  unfold inN
  have a : ¬ ((z : Int) ≤ 122) := by omega
  have b : ¬ ((z : Int) ≤ 57) := by omega
  have c : ¬ ((z : Int) = 45) := by omega
  have d : ¬ ((z : Int) = 95) := by omega
  simp [a, b, c, d]
theorem idx_from (s : ByteArray) (g : Nat) : ∀ pos, s.size ≤ pos + g → decide (0 ≤ Lib.idxFuncFrom (fun x => !inN (x : Int)) true s g pos) = ((bl s).drop pos).any (fun c => !inW c) := by
  induction g with
  | zero =>
    intro pos h
    rw [List.drop_eq_nil_of_le (by rw [bl_len]; omega)]
    rfl
  | succ g ih =>
    intro pos h
    by_cases hp : pos < s.size
    · have hp2 : pos < (bl s).length := by rw [bl_len]; exact hp
      rw [List.drop_eq_getElem_cons hp2, List.any_cons]
      unfold Lib.idxFuncFrom
      rw [if_pos hp]
      have hd := Lib.decode_N s pos
      have hg : s.data.toList.getD pos 0 = (bl s)[pos] := by show ((bl s)[pos]?).getD 0 = _; rw [List.getElem?_eq_getElem hp2]; rfl
      rw [hg] at hd
      by_cases hb : (bl s)[pos].toNat < 128
      · have : Utf8.decode s pos = ((bl s)[pos].toNat, 1) := by rw [hd]; unfold Lib.decodeN; rw [if_pos hb]
        rw [this]
        simp only
        rw [inN_inW]
        cases hw : inW (bl s)[pos] with
        | false => simp
        | true =>
          simp only [Bool.not_true, Bool.false_eq_true, if_false, Bool.false_or]
          exact ih (pos + 1) (by omega)
      · have h1 : 128 ≤ (Utf8.decode s pos).1 := by rw [hd]; exact decodeN_big _ _ _ _ _ (by omega)
        have h2 : inW (bl s)[pos] = false := by rw [← inN_inW]; exact inN_big _ (by omega)
        rw [inN_big _ h1, h2]
        simp
    · rw [List.drop_eq_nil_of_le (by rw [bl_len]; omega), Lib.idxFuncFrom_end _ _ _ _ _ hp]
      rfl
theorem idx_any (s : ByteArray) : decide (0 ≤ Lib.idxFunc (fun x => !inN (x : Int)) true s) = (bl s).any (fun c => !inW c) := idx_from s s.size 0 (by omega)

theorem containsAny_two (l : List UInt8) : Lib.containsAny l [42, 35] = l.any (fun c => c == 42 || c == 35) := by
  unfold Lib.containsAny
  induction l with
  | nil => rfl
  | cons b l ih =>
    have hge := Lib.indexAny_ge [42, 35] l
    rw [List.any_cons, ← ih]
    rw [Lib.indexAny]
    have : ([42, 35] : List UInt8).contains b = (b == 42 || b == 35) := by cases h1 : (b == 42) <;> cases h2 : (b == 35) <;> simp [List.contains, List.elem, h1, h2]
    rw [this]
    cases h : (b == 42 || b == 35) with
    | true => simp
    | false =>
      simp only [Bool.false_eq_true, if_false, Bool.false_or, beq_iff_eq]
      split
      · rename_i e; rw [e]
      · exact decide_eq_decide.2 (by omega)

/-- The turning of letters. -/
def turnR (z : Int) : Int := if z = 46 then 47 else if z = 47 then 46 else if z = 42 then 43 else if z = 43 then 42 else z
theorem turnR_small (c : UInt8) (h : c.toNat < 128) : Lib.encodeRune (turnR (c.toNat : Int)) = [turnB c] := by
  have e : turnR (c.toNat : Int) = ((turnB c).toNat : Int) := by
    have k : ∀ d : UInt8, ((c.toNat : Int) = (d.toNat : Int)) ↔ c = d := fun d => by rw [Int.ofNat_inj, UInt8.toNat_inj]
    unfold turnR turnB
    have k46 : ((c.toNat : Int) = 46) ↔ c = 46 := k 46
    have k47 : ((c.toNat : Int) = 47) ↔ c = 47 := k 47
    have k42 : ((c.toNat : Int) = 42) ↔ c = 42 := k 42
    have k43 : ((c.toNat : Int) = 43) ↔ c = 43 := k 43
    simp only [k46, k47, k42, k43]
    repeat' split
    all_goals rfl
  have hl : (turnB c).toNat < 128 := by
    unfold turnB
    repeat' split
    all_goals first | decide | exact h
  rw [e]
  unfold Lib.encodeRune
  rw [Lib.encodeRuneZ_one (by omega) (by omega)]
  show [((turnB c).toNat : Int).toNat.toUInt8] = _
  simp
theorem turnR_big (z : Nat) (h : 128 ≤ z) : turnR (z : Int) = z := by
  unfold turnR
  rw [if_neg (by omega), if_neg (by omega), if_neg (by omega), if_neg (by omega)]
theorem encode_big (z : Nat) (h : 128 ≤ z) : ∃ c ∈ Lib.encodeRune (z : Int), 128 ≤ c.toNat := by
  unfold Lib.encodeRune Lib.encodeRuneZ
  rw [if_neg (by omega)]
  have key : ∀ r : Int, 128 ≤ r → r < 256 → 128 ≤ (r.toNat.toUInt8).toNat := by
    intro r h1 h2
    have : r.toNat.toUInt8.toNat = r.toNat := by
      show r.toNat % 256 = r.toNat
      omega
    omega
  split
  · exact ⟨_, List.mem_map_of_mem (List.mem_cons_self ..), key _ (by omega) (by omega)⟩
  · split
    · exact ⟨_, List.mem_map_of_mem (List.mem_cons_self ..), key _ (by omega) (by omega)⟩
    · split
      · exact ⟨_, List.mem_map_of_mem (List.mem_cons_self ..), key _ (by omega) (by omega)⟩
      · exact ⟨_, List.mem_map_of_mem (List.mem_cons_self ..), key _ (by omega) (by omega)⟩
theorem mapD_nil (f : Int → Int) : Lib.mapD f [] = [] := rfl
theorem mapD_ascii (l : List UInt8) (h : ∀ c ∈ l, c.toNat < 128) : Lib.mapD turnR l = l.map turnB := by
  induction l with
  | nil => rfl
  | cons c l ih =>
    have hc := h c (by simp)
    rw [Lib.mapD_step turnR (c :: l) (by simp), Lib.decodeL_ascii c l hc]
    have : 0 ≤ turnR (c.toNat : Int) := by
      unfold turnR
      repeat' split
      all_goals omega
    simp only
    rw [if_pos this, turnR_small c hc, List.drop_one, List.tail_cons, ih (fun d hd => h d (by simp [hd]))]
    rfl
theorem mapD_bad (n : Nat) : ∀ l : List UInt8, l.length ≤ n → (∃ c ∈ l, 128 ≤ c.toNat) → ∃ c ∈ Lib.mapD turnR l, 128 ≤ c.toNat := by
  induction n with
  | zero =>
    rintro l hl ⟨c, hc, _⟩
    have : l = [] := List.eq_nil_of_length_eq_zero (by omega)
    subst this
    simp at hc
  | succ n ih =>
    rintro l hl ⟨c, hc, h128⟩
    cases l with
    | nil => simp at hc
    | cons a l =>
      rw [Lib.mapD_step turnR (a :: l) (by simp)]
      by_cases ha : a.toNat < 128
      · rw [Lib.decodeL_ascii a l ha]
        have hcl : c ∈ l := by
          rcases List.mem_cons.1 hc with rfl | h
          · omega
          · exact h
        simp only [List.length_cons] at hl
        obtain ⟨d, hd, hd2⟩ := ih l (by omega) ⟨c, hcl, h128⟩
        refine ⟨d, List.mem_append_right _ ?_, hd2⟩
        simpa using hd
      · have hb : 128 ≤ (Lib.decodeL (a :: l)).1 := by
          rw [Lib.decodeL_N]
          exact decodeN_big _ _ _ _ _ (by simpa using Nat.le_of_not_lt ha)
        rw [turnR_big _ hb, if_pos (by omega)]
        obtain ⟨d, hd, hd2⟩ := encode_big _ hb
        exact ⟨d, List.mem_append_left _ hd, hd2⟩
/-- Turned and a pattern: then turned byte by byte. -/
theorem pat_mapD (l : List UInt8) : pat (Lib.mapD turnR l) = pat (l.map turnB) ∧ (pat (Lib.mapD turnR l) = true → Lib.mapD turnR l = l.map turnB) := by
  by_cases h : ∀ c ∈ l, c.toNat < 128
  · rw [mapD_ascii l h]
    exact ⟨rfl, fun _ => rfl⟩
  · have hx : ∃ c ∈ l, 128 ≤ c.toNat := by
      refine Classical.byContradiction (fun hn => h (fun c hc => ?_))
      exact Classical.byContradiction (fun h2 => hn ⟨c, hc, by omega⟩)
    obtain ⟨d, hd, hd2⟩ := mapD_bad l.length l (Nat.le_refl _) hx
    have h1 := len_set_ge _ hd hd2
    obtain ⟨c, hc, hc2⟩ := hx
    have h2 : pat (l.map turnB) = false := by
      refine len_set_ge _ (List.mem_map_of_mem hc) ?_
      unfold turnB
      have : c ≠ 46 ∧ c ≠ 47 ∧ c ≠ 42 ∧ c ≠ 43 := by
        refine ⟨?_, ?_, ?_, ?_⟩
        all_goals (rintro rfl; revert hc2; decide)
      rw [if_neg this.1, if_neg this.2.1, if_neg this.2.2.1, if_neg this.2.2.2]
      exact hc2
    rw [h1, h2]
    exact ⟨rfl, fun h => by simp at h⟩
end Go.Proofs.YtlbcefocmdnlgaaGreatDoor.To
