
/- Words, topics and patterns as lists of bytes: what is proved here is of lists alone, with no condition but those that each row states. -/
namespace Go.Proofs.YtlbcefocmdnlgaaGreatDoor

/-- A text's words. -/
def wordsL : List UInt8 → List (List UInt8)
  | [] => [[]]
  | c :: l => if c = 46 then [] :: wordsL l else
    match wordsL l with
    | [] => [[c]]
    | w :: ws => (c :: w) :: ws

def inW (c : UInt8) : Bool := (decide (97 ≤ c.toNat) && decide (c.toNat ≤ 122)) || (decide (48 ≤ c.toNat) && decide (c.toNat ≤ 57)) || c == 45 || c == 95
def isW (w : List UInt8) : Bool := !w.isEmpty && decide (w.length ≤ 16) && w.all inW
/-- A word of a pattern that may stand anywhere. -/
def midW (w : List UInt8) : Bool := w == [42] || isW w
def okP : List (List UInt8) → Bool
  | [] => true
  | [w] => midW w || w == [35]
  | w :: v :: ws => midW w && okP (v :: ws)
def pat (l : List UInt8) : Bool := decide (l.length ≤ 64) && decide ((wordsL l).length ≤ 8) && okP (wordsL l)
def good (l : List UInt8) : Bool := decide (l.length ≤ 64) && decide ((wordsL l).length ≤ 8) && (wordsL l).all isW
def cov : List (List UInt8) → List (List UInt8) → Bool
  | [], q => q.isEmpty
  | p :: ps, q => if p = [35] then true else
    match q with
    | [] => false
    | r :: rs => r != [35] && (p == [42] || p == r) && cov ps rs
/-- The document's: is the rest of a topic one of the rest of a pattern's? -/
def wit : List (List UInt8) → List (List UInt8) → Bool
  | [], q => q.isEmpty
  | p :: ps, q => if p = [35] then true else
    match q with
    | [] => false
    | r :: rs => (p == [42] || p == r) && wit ps rs
def covers (a b : List UInt8) : Bool := pat a && pat b && cov (wordsL a) (wordsL b)
def mat (a b : List UInt8) : Bool := good b && covers a b

theorem wordsL_ne (l : List UInt8) : wordsL l ≠ [] := by
  cases l with
  | nil => simp [wordsL]
  | cons c l =>
    unfold wordsL
    split
    · simp
    · split <;> simp

theorem wordsL_dot (l : List UInt8) : wordsL (46 :: l) = [] :: wordsL l := by rw [wordsL, if_pos rfl]
theorem wordsL_other (c : UInt8) (l : List UInt8) (h : c ≠ 46) : ∃ w ws, wordsL l = w :: ws ∧ wordsL (c :: l) = (c :: w) :: ws := by
  cases hw : wordsL l with
  | nil => exact absurd hw (wordsL_ne l)
  | cons w ws => exact ⟨w, ws, rfl, by rw [wordsL, if_neg h, hw]⟩

theorem wordsL_app (a b : List UInt8) : wordsL (a ++ 46 :: b) = wordsL a ++ wordsL b := by
  induction a with
  | nil => rw [List.nil_append, wordsL_dot]; rfl
  | cons c a ih =>
    by_cases h : c = 46
    · subst h
      rw [List.cons_append, wordsL_dot, wordsL_dot, ih]; rfl
    · obtain ⟨w, ws, h1, h2⟩ := wordsL_other c a h
      obtain ⟨w', ws', h3, h4⟩ := wordsL_other c (a ++ 46 :: b) h
      rw [ih, h1] at h3
      injection h3 with h5 h6
      rw [List.cons_append, h4, h2, ← h5, ← h6]; rfl

theorem wordsL_plain (w : List UInt8) (h : ∀ c ∈ w, c ≠ 46) : wordsL w = [w] := by
  induction w with
  | nil => rfl
  | cons c w ih =>
    obtain ⟨v, vs, h1, h2⟩ := wordsL_other c w (h c (by simp))
    rw [ih (fun c hc => h c (by simp [hc]))] at h1
    injection h1 with h3 h4
    rw [h2, ← h3, ← h4]

/-- Behind one byte more. -/
theorem wordsL_snoc_dot (l : List UInt8) : wordsL (l ++ [46]) = wordsL l ++ [[]] := wordsL_app l []
theorem wordsL_snoc (l : List UInt8) (c : UInt8) (h : c ≠ 46) (ws : List (List UInt8)) (w : List UInt8) (e : wordsL l = ws ++ [w]) : wordsL (l ++ [c]) = ws ++ [w ++ [c]] := by
  induction l generalizing ws w with
  | nil =>
    have : [([] : List UInt8)] = ws ++ [w] := e
    have hl : ws = [] := by
      cases ws with
      | nil => rfl
      | cons a b => simp at this
    subst hl
    simp at this
    subst this
    rw [List.nil_append, wordsL_plain [c] (by simpa using h)]; rfl
  | cons d l ih =>
    by_cases hd : d = 46
    · subst hd
      rw [wordsL_dot] at e
      rw [List.cons_append, wordsL_dot]
      cases ws with
      | nil => simp at e; exact absurd e.2 (wordsL_ne l)
      | cons a b =>
        rw [List.cons_append] at e
        injection e with e1 e2
        rw [ih b w e2, ← e1]; rfl
    · obtain ⟨v, vs, h1, h2⟩ := wordsL_other d l hd
      rw [h2] at e
      obtain ⟨v', vs', h3, h4⟩ := wordsL_other d (l ++ [c]) hd
      rw [List.cons_append, h4]
      cases ws with
      | nil =>
        rw [List.nil_append] at e
        injection e with e1 e2
        subst e2
        rw [ih [] v h1] at h3
        rw [List.nil_append] at h3
        injection h3 with h5 h6
        rw [← h5, ← h6, ← e1]; rfl
      | cons a b =>
        rw [List.cons_append] at e
        injection e with e1 e2
        have := ih (v :: b) w (by rw [h1, e2]; rfl)
        rw [this, List.cons_append] at h3
        injection h3 with h5 h6
        rw [← h5, ← h6, ← e1]; rfl

/-- The words, one behind the other, dots between. -/
def joinL : List (List UInt8) → List UInt8
  | [] => []
  | [w] => w
  | w :: v :: ws => w ++ 46 :: joinL (v :: ws)
theorem joinL_cons (w : List UInt8) (ws : List (List UInt8)) (h : ws ≠ []) : joinL (w :: ws) = w ++ 46 :: joinL ws := by
  cases ws with
  | nil => exact absurd rfl h
  | cons v vs => rfl
theorem join_words (l : List UInt8) : joinL (wordsL l) = l := by
  induction l with
  | nil => rfl
  | cons c l ih =>
    by_cases h : c = 46
    · subst h
      rw [wordsL_dot, joinL_cons _ _ (wordsL_ne l), ih]; rfl
    · obtain ⟨w, ws, h1, h2⟩ := wordsL_other c l h
      rw [h2]
      rw [h1] at ih
      cases ws with
      | nil => show c :: w = c :: l; rw [show w = l from ih]
      | cons v vs =>
        have : w ++ 46 :: joinL (v :: vs) = l := ih
        show c :: w ++ 46 :: joinL (v :: vs) = c :: l
        rw [List.cons_append, this]
theorem words_join (ws : List (List UInt8)) (hne : ws ≠ []) (h : ∀ w ∈ ws, ∀ c ∈ w, c ≠ 46) : wordsL (joinL ws) = ws := by
  induction ws with
  | nil => exact absurd rfl hne
  | cons w ws ih =>
    cases ws with
    | nil => exact wordsL_plain w (h w (by simp))
    | cons v vs =>
      rw [joinL_cons _ _ (by simp), wordsL_app, wordsL_plain w (h w (by simp)), ih (by simp) (fun x hx => h x (by simp [hx]))]
      rfl
theorem wordsL_inj {a b : List UInt8} (h : wordsL a = wordsL b) : a = b := by rw [← join_words a, ← join_words b, h]

theorem words_sub (l : List UInt8) : ∀ w ∈ wordsL l, ∀ c ∈ w, c ∈ l ∧ c ≠ 46 := by
  induction l with
  | nil => intro w hw c hc; simp [wordsL] at hw; subst hw; simp at hc
  | cons d l ih =>
    intro w hw c hc
    by_cases h : d = 46
    · subst h
      rw [wordsL_dot] at hw
      rcases List.mem_cons.1 hw with rfl | hw
      · simp at hc
      · have := ih w hw c hc; exact ⟨by simp [this.1], this.2⟩
    · obtain ⟨v, vs, h1, h2⟩ := wordsL_other d l h
      rw [h2] at hw
      rcases List.mem_cons.1 hw with rfl | hw
      · rcases List.mem_cons.1 hc with rfl | hc
        · exact ⟨by simp, h⟩
        · have := ih v (by rw [h1]; simp) c hc; exact ⟨by simp [this.1], this.2⟩
      · have := ih w (by rw [h1]; simp [hw]) c hc; exact ⟨by simp [this.1], this.2⟩
theorem sub_words (l : List UInt8) : ∀ c ∈ l, c = 46 ∨ ∃ w ∈ wordsL l, c ∈ w := by
  induction l with
  | nil => intro c hc; simp at hc
  | cons d l ih =>
    intro c hc
    by_cases h : d = 46
    · subst h
      rcases List.mem_cons.1 hc with rfl | hc
      · exact .inl rfl
      · rcases ih c hc with h | ⟨w, hw, hcw⟩
        · exact .inl h
        · exact .inr ⟨w, by rw [wordsL_dot]; simp [hw], hcw⟩
    · obtain ⟨v, vs, h1, h2⟩ := wordsL_other d l h
      rcases List.mem_cons.1 hc with rfl | hc
      · exact .inr ⟨c :: v, by rw [h2]; simp, by simp⟩
      · rcases ih c hc with h | ⟨w, hw, hcw⟩
        · exact .inl h
        · rw [h1] at hw
          rcases List.mem_cons.1 hw with rfl | hw
          · exact .inr ⟨d :: w, by rw [h2]; simp, by simp [hcw]⟩
          · exact .inr ⟨w, by rw [h2]; simp [hw], hcw⟩

theorem words_len (l : List UInt8) : (wordsL l).length = l.count 46 + 1 := by
  induction l with
  | nil => rfl
  | cons d l ih =>
    by_cases h : d = 46
    · subst h; rw [wordsL_dot]; simp [ih]
    · obtain ⟨v, vs, h1, h2⟩ := wordsL_other d l h
      rw [h2, List.count_cons_of_ne h, ← ih, h1]; rfl
theorem words_one (l : List UInt8) : (wordsL l).length = 1 ↔ ∀ c ∈ l, c ≠ 46 := by
  rw [words_len]
  constructor
  · intro h c hc e
    subst e
    have : 0 < l.count 46 := List.count_pos_iff.2 hc
    omega
  · intro h
    have : l.count 46 = 0 := List.count_eq_zero.2 (fun hm => h 46 hm rfl)
    omega

/-- Facts of words. -/
theorem inW_cases {c : UInt8} (h : inW c = true) : c ≠ 42 ∧ c ≠ 35 ∧ c ≠ 46 ∧ c ≠ 47 ∧ c ≠ 43 ∧ c.toNat < 128 := by
  refine ⟨?_, ?_, ?_, ?_, ?_, ?_⟩
  all_goals first
    | (intro e; subst e; revert h; decide)
    | (unfold inW at h
       simp only [Bool.or_eq_true, Bool.and_eq_true, decide_eq_true_eq, beq_iff_eq] at h
       rcases h with ((h | h) | h) | h
       · omega
       · omega
       · subst h; decide
       · subst h; decide)
theorem isW_parts {w : List UInt8} (h : isW w = true) : w ≠ [] ∧ w.length ≤ 16 ∧ ∀ c ∈ w, inW c = true := by
  unfold isW at h
  simp only [Bool.and_eq_true, Bool.not_eq_true', decide_eq_true_eq, List.all_eq_true] at h
  refine ⟨?_, h.1.2, h.2⟩
  rintro rfl
  exact absurd h.1.1 (by decide)
theorem isW_star {w : List UInt8} (h : isW w = true) : w ≠ [42] ∧ w ≠ [35] := by
  constructor
  all_goals (rintro rfl; revert h; decide)

theorem okP_all (ws : List (List UInt8)) (h : okP ws = true) : ∀ w ∈ ws, midW w = true ∨ w = [35] := by
  induction ws with
  | nil => intro w hw; simp at hw
  | cons a ws ih =>
    cases ws with
    | nil =>
      intro w hw
      have hw' : w = a := by simpa using hw
      subst hw'
      unfold okP at h
      simpa using h
    | cons b bs =>
      intro w hw
      unfold okP at h
      rw [Bool.and_eq_true] at h
      rcases List.mem_cons.1 hw with rfl | hw
      · exact .inl h.1
      · exact ih h.2 w hw
theorem okP_of_all (ws : List (List UInt8)) (h : ∀ w ∈ ws, midW w = true) : okP ws = true := by
  induction ws with
  | nil => rfl
  | cons a ws ih =>
    cases ws with
    | nil => unfold okP; rw [h a (by simp)]; rfl
    | cons b bs => unfold okP; rw [h a (by simp), ih (fun w hw => h w (by simp [hw]))]; rfl
theorem okP_hash (ws : List (List UInt8)) (h : ∀ w ∈ ws, midW w = true) : okP (ws ++ [[35]]) = true := by
  induction ws with
  | nil => rfl
  | cons a ws ih =>
    have h2 := ih (fun w hw => h w (by simp [hw]))
    cases ws with
    | nil => show okP (a :: [[35]]) = true; unfold okP; rw [h a (by simp)]; exact h2
    | cons b bs => show okP (a :: b :: (bs ++ [[35]])) = true; unfold okP; rw [h a (by simp)]; exact h2

theorem midW_chars {w : List UInt8} (h : midW w = true ∨ w = [35]) : ∀ c ∈ w, (inW c = true ∨ c = 42 ∨ c = 35) := by
  intro c hc
  rcases h with h | rfl
  · unfold midW at h
    rw [Bool.or_eq_true, beq_iff_eq] at h
    rcases h with rfl | h
    · right; left; simpa using hc
    · exact .inl ((isW_parts h).2.2 c hc)
  · right; right; simpa using hc
/-- The bytes of a pattern. -/
theorem pat_chars {l : List UInt8} (h : pat l = true) : ∀ c ∈ l, inW c = true ∨ c = 42 ∨ c = 35 ∨ c = 46 := by
  intro c hc
  unfold pat at h
  rw [Bool.and_eq_true] at h
  rcases sub_words l c hc with h1 | ⟨w, hw, hcw⟩
  · exact .inr (.inr (.inr h1))
  · rcases midW_chars (okP_all _ h.2 w hw) c hcw with h1 | h1 | h1
    · exact .inl h1
    · exact .inr (.inl h1)
    · exact .inr (.inr (.inl h1))
theorem pat_ascii {l : List UInt8} (h : pat l = true) : ∀ c ∈ l, c.toNat < 128 := by
  intro c hc
  rcases pat_chars h c hc with h | rfl | rfl | rfl
  · exact (inW_cases h).2.2.2.2.2
  all_goals decide

theorem good_pat {l : List UInt8} (h : good l = true) : pat l = true := by
  unfold good at h
  unfold pat
  rw [Bool.and_eq_true, List.all_eq_true] at h
  rw [Bool.and_eq_true]
  exact ⟨h.1, okP_of_all _ (fun w hw => by unfold midW; rw [h.2 w hw, Bool.or_true])⟩
theorem good_iff (l : List UInt8) : good l = (pat l && !(l.any (fun c => c == 42 || c == 35))) := by
  rw [Bool.eq_iff_iff, Bool.and_eq_true]
  constructor
  · intro h
    refine ⟨good_pat h, ?_⟩
    rw [Bool.not_eq_true', List.any_eq_false]
    intro c hc
    unfold good at h
    rw [Bool.and_eq_true, List.all_eq_true] at h
    rcases sub_words l c hc with h1 | ⟨w, hw, hcw⟩
    · subst h1; decide
    · have := inW_cases ((isW_parts (h.2 w hw)).2.2 c hcw)
      simp [this.1, this.2.1]
  · rintro ⟨h1, h2⟩
    rw [Bool.not_eq_true', List.any_eq_false] at h2
    unfold pat at h1
    rw [Bool.and_eq_true] at h1
    unfold good
    rw [Bool.and_eq_true, List.all_eq_true]
    refine ⟨h1.1, fun w hw => ?_⟩
    rcases okP_all _ h1.2 w hw with h | rfl
    · unfold midW at h
      rw [Bool.or_eq_true, beq_iff_eq] at h
      rcases h with rfl | h
      · exact absurd (h2 42 (words_sub l _ hw 42 (by simp)).1) (by decide)
      · exact h
    · exact absurd (h2 35 (words_sub l _ hw 35 (by simp)).1) (by decide)

theorem cov_refl (p : List (List UInt8)) : cov p p = true := by
  induction p with
  | nil => rfl
  | cons a p ih =>
    unfold cov
    split
    · rfl
    · rename_i h; simp [h, ih]
theorem cov_trans (p q r : List (List UInt8)) (h1 : cov p q = true) (h2 : cov q r = true) : cov p r = true := by
  induction p generalizing q r with
  | nil =>
    unfold cov at h1
    have : q = [] := by simpa using h1
    subst this
    exact h2
  | cons a p ih =>
    unfold cov at h1 ⊢
    split
    · rfl
    · rename_i ha
      rw [if_neg ha] at h1
      cases q with
      | nil => simp at h1
      | cons b q =>
        simp only [Bool.and_eq_true, bne_iff_ne, Bool.or_eq_true, beq_iff_eq] at h1
        obtain ⟨⟨hb, hab⟩, hpq⟩ := h1
        unfold cov at h2
        rw [if_neg hb] at h2
        cases r with
        | nil => simp at h2
        | cons c r =>
          simp only [Bool.and_eq_true, bne_iff_ne, Bool.or_eq_true, beq_iff_eq] at h2 ⊢
          obtain ⟨⟨hc, hbc⟩, hqr⟩ := h2
          refine ⟨⟨hc, ?_⟩, ih q r hpq hqr⟩
          rcases hab with h | h
          · exact .inl h
          · rw [h]; exact hbc
theorem wit_cov (p q : List (List UInt8)) (h : ∀ w ∈ q, w ≠ [35]) : wit p q = cov p q := by
  induction p generalizing q with
  | nil => rfl
  | cons a p ih =>
    unfold wit cov
    split
    · rfl
    · cases q with
      | nil => rfl
      | cons b q =>
        have hb := h b (by simp)
        simp only [ih q (fun w hw => h w (by simp [hw])), bne_iff_ne.2 hb, Bool.true_and]
end Go.Proofs.YtlbcefocmdnlgaaGreatDoor
