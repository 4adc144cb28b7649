
/- What the statements ask of words and patterns, as facts of lists: covering is an order; a topic is one of its own patterns; turning marks twice leads back. Conditions: those that each row states. -/
import Derived.Test.YtlbcefocmdnlgaaGreatDoorMa
namespace Go.Proofs.YtlbcefocmdnlgaaGreatDoor

theorem covers_self (a : List UInt8) : covers a a = pat a := by unfold covers; rw [cov_refl]; simp
theorem covers_trans (a b c : List UInt8) (h1 : covers a b = true) (h2 : covers b c = true) : covers a c = true := by
  unfold covers at *
  simp only [Bool.and_eq_true] at *
  exact ⟨⟨h1.1.1, h2.1.2⟩, cov_trans _ _ _ h1.2 h2.2⟩
theorem mat_trans (a b c : List UInt8) (h1 : covers a b = true) (h2 : mat b c = true) : mat a c = true := by
  unfold mat at *
  rw [Bool.and_eq_true] at *
  exact ⟨h2.1, covers_trans a b c h1 h2.2⟩
theorem good_words {l : List UInt8} (h : good l = true) : ∀ w ∈ wordsL l, isW w = true := by
  unfold good at h
  rw [Bool.and_eq_true, List.all_eq_true] at h
  exact h.2
theorem good_nums {l : List UInt8} (h : good l = true) : l.length ≤ 64 ∧ (wordsL l).length ≤ 8 := by
  unfold good at h
  simp only [Bool.and_eq_true, decide_eq_true_eq] at h
  exact h.1
theorem pat_nums {l : List UInt8} (h : pat l = true) : l.length ≤ 64 ∧ (wordsL l).length ≤ 8 := by
  unfold pat at h
  simp only [Bool.and_eq_true, decide_eq_true_eq] at h
  exact h.1
theorem mk_pat {l : List UInt8} (h1 : l.length ≤ 64) (h2 : (wordsL l).length ≤ 8) (h3 : okP (wordsL l) = true) : pat l = true := by
  unfold pat
  simp [h1, h2, h3]
theorem mk_good {l : List UInt8} (h1 : l.length ≤ 64) (h2 : (wordsL l).length ≤ 8) (h3 : ∀ w ∈ wordsL l, isW w = true) : good l = true := by
  unfold good
  rw [Bool.and_eq_true, List.all_eq_true]
  exact ⟨by simp [h1, h2], h3⟩

/-- The document's Match. -/
theorem mat_ref (a b : List UInt8) : (pat a && good b && wit (wordsL a) (wordsL b)) = mat a b := by
  unfold mat covers
  cases hb : good b with
  | false => simp
  | true =>
    rw [good_pat hb, wit_cov _ _ (fun w hw => (isW_star (good_words hb w hw)).2)]
    simp

theorem mat_self (s : List UInt8) : mat s s = good s := by
  unfold mat
  rw [covers_self]
  cases h : good s with
  | false => rfl
  | true => rw [good_pat h]; rfl
theorem pat_hash : pat [35] = true := by decide
theorem words_hash : wordsL [35] = [[35]] := rfl
theorem words_star : wordsL [42] = [[42]] := rfl
theorem covers_hash (s : List UInt8) : covers [35] s = pat s := by
  unfold covers
  rw [pat_hash, words_hash]
  have : cov [[35]] (wordsL s) = true := by unfold cov; rw [if_pos rfl]
  rw [this]; simp
theorem mat_hash (s : List UInt8) : mat [35] s = good s := by
  unfold mat
  rw [covers_hash]
  cases h : good s with
  | false => rfl
  | true => rw [good_pat h]; rfl
theorem mat_star (s : List UInt8) : mat [42] s = (good s && s.all (fun c => c != 46)) := by
  unfold mat
  cases h : good s with
  | false => rfl
  | true =>
    rw [Bool.true_and, Bool.true_and]
    unfold covers
    rw [good_pat h, show pat [42] = true by decide, words_star, Bool.and_self, Bool.true_and]
    cases hw : wordsL s with
    | nil => exact absurd hw (wordsL_ne s)
    | cons w ws =>
      have hb : w ≠ [35] := (isW_star (good_words h w (by rw [hw]; simp))).2
      have h1 : cov [[42]] (w :: ws) = ws.isEmpty := by
        simp [cov, hb]
      rw [h1, Bool.eq_iff_iff]
      have h2 := words_one s
      rw [hw] at h2
      constructor
      · intro he
        have : ws = [] := by simpa using he
        subst this
        have h3 := h2.1 rfl
        rw [List.all_eq_true]
        intro c hc
        simpa using h3 c hc
      · intro ha
        rw [List.all_eq_true] at ha
        have h3 := h2.2 (fun c hc => by simpa using ha c hc)
        have : ws = [] := by
          cases ws with
          | nil => rfl
          | cons a b => simp at h3
        rw [this]; rfl

theorem cov_words (p q : List (List UInt8)) (hp : ∀ w ∈ p, isW w = true) (hq : ∀ w ∈ q, isW w = true) : cov p q = decide (p = q) := by
  induction p generalizing q with
  | nil => cases q <;> simp [cov]
  | cons a p ih =>
    have ha := isW_star (hp a (by simp))
    unfold cov
    rw [if_neg ha.2]
    cases q with
    | nil => simp
    | cons b q =>
      have hb := isW_star (hq b (by simp))
      simp only [ih q (fun w hw => hp w (by simp [hw])) (fun w hw => hq w (by simp [hw]))]
      rw [bne_iff_ne.2 hb.2]
      have : (a == [42]) = false := by simpa using ha.1
      rw [this]
      by_cases e : a = b
      · subst e; simp
      · simp [e]
theorem covers_good (a b : List UInt8) (ha : good a = true) (hb : good b = true) : covers a b = decide (a = b) := by
  unfold covers
  rw [good_pat ha, good_pat hb, cov_words _ _ (good_words ha) (good_words hb)]
  by_cases e : a = b
  · subst e; simp
  · have : ¬ wordsL a = wordsL b := fun h => e (wordsL_inj h)
    simp [e, this]
theorem mat_good (a b : List UInt8) (ha : good a = true) (hb : good b = true) : mat a b = decide (a = b) := by
  unfold mat
  rw [hb, covers_good a b ha hb]; rfl

/-- Two topics with a dot between them. -/
theorem good_two (a b : List UInt8) (ha : good a = true) (hb : good b = true) : good (a ++ 46 :: b) = (decide (a.length + b.length + 1 ≤ 64) && decide ((wordsL a).length + (wordsL b).length ≤ 8)) := by
  rw [Bool.eq_iff_iff]
  constructor
  · intro h
    have := good_nums h
    rw [wordsL_app, List.length_append, List.length_append, List.length_cons] at this
    simp only [Bool.and_eq_true, decide_eq_true_eq]
    omega
  · intro h
    simp only [Bool.and_eq_true, decide_eq_true_eq] at h
    refine mk_good ?_ ?_ ?_
    · rw [List.length_append, List.length_cons]; omega
    · rw [wordsL_app, List.length_append]; omega
    · intro w hw
      rw [wordsL_app] at hw
      rcases List.mem_append.1 hw with hw | hw
      · exact good_words ha w hw
      · exact good_words hb w hw
theorem cov_pre (p q r : List (List UInt8)) (hp : ∀ w ∈ p, isW w = true) : cov (p ++ r) (p ++ q) = cov r q := by
  induction p with
  | nil => rfl
  | cons a p ih =>
    have ha := isW_star (hp a (by simp))
    rw [List.cons_append, List.cons_append]
    rw [cov, if_neg ha.2]
    simp only [ih (fun w hw => hp w (by simp [hw])), bne_iff_ne.2 ha.2]
    simp
theorem cov_hash (q : List (List UInt8)) : cov [[35]] q = true := by unfold cov; rw [if_pos rfl]
theorem mat_two (a b : List UInt8) (ha : good a = true) (h : good (a ++ 46 :: b) = true) (hp : pat (a ++ [46, 35]) = true) : mat (a ++ [46, 35]) (a ++ 46 :: b) = true := by
  unfold mat covers
  rw [h, hp, good_pat h, show a ++ [46, 35] = a ++ 46 :: [35] from rfl, wordsL_app, wordsL_app, words_hash, cov_pre _ _ _ (good_words ha), cov_hash]
  rfl
theorem mat_one (a : List UInt8) (ha : good a = true) (hp : pat (a ++ [46, 35]) = true) : mat (a ++ [46, 35]) a = true := by
  unfold mat covers
  rw [ha, hp, good_pat ha, show a ++ [46, 35] = a ++ 46 :: [35] from rfl, wordsL_app, words_hash]
  have := cov_pre (wordsL a) [] [[35]] (good_words ha)
  rw [List.append_nil] at this
  rw [this, cov_hash]
  rfl

/-- One word more ahead of #. -/
theorem mat_more (s : List UInt8) (hs : good s = true) : mat (s ++ [46, 97, 46, 35]) s = false := by
  unfold mat covers
  rw [show s ++ [46, 97, 46, 35] = s ++ 46 :: [97, 46, 35] from rfl, wordsL_app, show wordsL [97, 46, 35] = [[97], [35]] from by decide]
  have := cov_pre (wordsL s) [] [[97], [35]] (good_words hs)
  rw [List.append_nil] at this
  rw [this]
  simp [cov]

theorem join_len_set (ws : List (List UInt8)) (i : Nat) (v : List UInt8) (hi : i < ws.length) : (joinL (ws.set i v)).length + ws[i].length = (joinL ws).length + v.length := by
  induction ws generalizing i with
  | nil => simp at hi
  | cons a ws ih =>
    cases i with
    | zero =>
      cases ws with
      | nil => simp [joinL]; omega
      | cons b bs => simp [joinL]; omega
    | succ i =>
      have hi' : i < ws.length := by simpa using hi
      have h := ih i hi'
      have hne : ws ≠ [] := by rintro rfl; simp at hi'
      have hne2 : ws.set i v ≠ [] := by
        intro e; have := congrArg List.length e; rw [List.length_set] at this; exact hne (List.eq_nil_of_length_eq_zero this)
      rw [List.set_cons_succ, joinL_cons _ _ hne2, joinL_cons _ _ hne]
      simp only [List.length_append, List.length_cons, List.getElem_cons_succ]
      omega
theorem cov_set (ws : List (List UInt8)) (i : Nat) (h : ∀ w ∈ ws, isW w = true) : cov (ws.set i [42]) ws = true := by
  induction ws generalizing i with
  | nil => rfl
  | cons a ws ih =>
    have ha := isW_star (h a (by simp))
    cases i with
    | zero =>
      rw [List.set_cons_zero, cov, if_neg (by decide)]
      simp [ha.2, cov_refl]
    | succ i =>
      rw [List.set_cons_succ, cov, if_neg ha.2]
      simp [ha.2, ih i (fun w hw => h w (by simp [hw]))]
/-- A topic with * in the place of a word. -/
theorem mat_set (s : List UInt8) (hs : good s = true) (i : Nat) (hi : i < (wordsL s).length) : mat (joinL ((wordsL s).set i [42])) s = true := by
  have hw := good_words hs
  have hn := good_nums hs
  have hne : (wordsL s).set i [42] ≠ [] := by
    intro e; have := congrArg List.length e; rw [List.length_set] at this; exact wordsL_ne s (List.eq_nil_of_length_eq_zero this)
  have hmid : ∀ w ∈ (wordsL s).set i [42], midW w = true := by
    intro w hm
    rcases List.mem_or_eq_of_mem_set hm with h | rfl
    · unfold midW; rw [hw w h, Bool.or_true]
    · rfl
  have hwj : wordsL (joinL ((wordsL s).set i [42])) = (wordsL s).set i [42] := by
    refine words_join _ hne (fun w hm c hc => ?_)
    rcases midW_chars (.inl (hmid w hm)) c hc with h | rfl | rfl
    · exact (inW_cases h).2.2.1
    · decide
    · decide
  have hl : (joinL ((wordsL s).set i [42])).length ≤ 64 := by
    have := join_len_set (wordsL s) i [42] hi
    rw [join_words] at this
    have hp : 0 < (wordsL s)[i].length := by
      have := (isW_parts (hw _ (List.getElem_mem hi))).1
      exact List.length_pos_iff.2 this
    simp only [List.length_singleton] at this
    omega
  unfold mat covers
  rw [hs, good_pat hs, mk_pat hl (by rw [hwj, List.length_set]; exact hn.2) (by rw [hwj]; exact okP_of_all _ hmid), hwj, cov_set _ _ hw]
  rfl

/-- The first words with a dot behind each. -/
def headL : List (List UInt8) → List UInt8
  | [] => []
  | w :: ws => w ++ 46 :: headL ws
theorem words_head (ws : List (List UInt8)) (h : ∀ w ∈ ws, ∀ c ∈ w, c ≠ 46) (t : List UInt8) : wordsL (headL ws ++ t) = ws ++ wordsL t := by
  induction ws with
  | nil => rfl
  | cons w ws ih =>
    rw [headL, List.append_assoc, List.cons_append, wordsL_app, wordsL_plain w (h w (by simp)), ih (fun x hx => h x (by simp [hx]))]
    rfl
theorem mat_head (s : List UInt8) (hs : good s = true) (i : Nat) (hi : i < (wordsL s).length) (hl : (headL ((wordsL s).take i)).length < 63) : mat (headL ((wordsL s).take i) ++ [35]) s = true := by
  have hw := good_words hs
  have hn := good_nums hs
  have ht : ∀ w ∈ (wordsL s).take i, isW w = true := fun w h => hw w (List.mem_of_mem_take h)
  have hwj := words_head ((wordsL s).take i) (fun w hm c hc => (inW_cases ((isW_parts (ht w hm)).2.2 c hc)).2.2.1) [35]
  rw [words_hash] at hwj
  unfold mat covers
  rw [hs, good_pat hs, mk_pat (by rw [List.length_append, List.length_singleton]; omega) (by rw [hwj, List.length_append, List.length_take, List.length_singleton]; omega) (by rw [hwj]; exact okP_hash _ (fun w h => by unfold midW; rw [ht w h, Bool.or_true])), hwj]
  have := cov_pre ((wordsL s).take i) ((wordsL s).drop i) [[35]] ht
  rw [List.take_append_drop] at this
  rw [this, cov_hash]
  rfl

/-- Turning marks. -/
def turnB (c : UInt8) : UInt8 := if c = 46 then 47 else if c = 47 then 46 else if c = 42 then 43 else if c = 43 then 42 else c
theorem turnB_turnB (c : UInt8) : turnB (turnB c) = c := by
  by_cases h1 : c = 46
  · subst h1; decide
  · by_cases h2 : c = 47
    · subst h2; decide
    · by_cases h3 : c = 42
      · subst h3; decide
      · by_cases h4 : c = 43
        · subst h4; decide
        · have : turnB c = c := by unfold turnB; rw [if_neg h1, if_neg h2, if_neg h3, if_neg h4]
          rw [this, this]
theorem turnL_turnL (l : List UInt8) : (l.map turnB).map turnB = l := by
  rw [List.map_map]
  conv => rhs; rw [← List.map_id l]
  refine List.map_congr_left (fun c _ => turnB_turnB c)
def slashB (c : UInt8) : UInt8 := if c = 46 then 47 else if c = 42 then 43 else c
def dotB (c : UInt8) : UInt8 := if c = 47 then 46 else if c = 43 then 42 else c
theorem pat_slash {l : List UInt8} (h : pat l = true) : l.map slashB = l.map turnB := by
  refine List.map_congr_left (fun c hc => ?_)
  rcases pat_chars h c hc with h | rfl | rfl | rfl
  · have := inW_cases h
    unfold slashB turnB
    simp [this.1, this.2.2.1, this.2.2.2.1, this.2.2.2.2.1]
  all_goals decide
/-- What the document says of MQTT's texts. -/
def dotsOk (l : List UInt8) : Bool := l.all (fun c => c != 46 && c != 42) && pat (l.map dotB)
theorem dots_same (l : List UInt8) (h : ∀ c ∈ l, c ≠ 46 ∧ c ≠ 42) : l.map dotB = l.map turnB := by
  refine List.map_congr_left (fun c hc => ?_)
  unfold dotB turnB
  simp [(h c hc).1, (h c hc).2]
theorem pat_turn_no {l : List UInt8} (h : pat (l.map turnB) = true) : ∀ c ∈ l, c ≠ 46 ∧ c ≠ 42 := by
  intro c hc
  have := pat_chars h (turnB c) (List.mem_map_of_mem hc)
  constructor
  all_goals (rintro rfl; revert this; decide)
theorem dotsOk_eq (l : List UInt8) : dotsOk l = pat (l.map turnB) := by
  unfold dotsOk
  rw [Bool.eq_iff_iff, Bool.and_eq_true, List.all_eq_true]
  constructor
  · rintro ⟨h1, h2⟩
    rw [dots_same l (fun c hc => by simpa using h1 c hc)] at h2
    exact h2
  · intro h
    have hn := pat_turn_no h
    exact ⟨fun c hc => by simpa using hn c hc, by rw [dots_same l hn]; exact h⟩
theorem len_set_ge {c : UInt8} (l : List UInt8) (h : c ∈ l) (hc : 128 ≤ c.toNat) : pat l = false := by
  cases hp : pat l with
  | false => rfl
  | true => have := pat_ascii hp c h; omega
end Go.Proofs.YtlbcefocmdnlgaaGreatDoor
