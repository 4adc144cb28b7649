
/- A frame that can be, written and read again, with either end of lines. No memory in this text. -/
import Derived.Test.YtfdbekfbbihdgaaDoorPt
import Derived.Test.YtfdbekfbbihdgaaDoorPv
namespace Go.Proofs.YtfdbekfbbihdgaaDoor
open Go.Lib
set_option linter.unusedSimpArgs false

/-- An end of a line. -/
def Eol (e : Bs) : Prop := e = [10] ∨ e = [13, 10]
def lineL (b : Bool) (h : Hd) : Bs := putL b h.1 ++ 58 :: putL b h.2
def hdsE (e : Bs) (b : Bool) : List Hd → Bs
  | [] => []
  | h :: H => lineL b h ++ (e ++ hdsE e b H)
def headE (e : Bs) (f : Fr) : Bs := f.cmd ++ (e ++ (hdsE e (bare f.cmd) f.hs ++ e))
def writeE (e : Bs) (f : Fr) : Bs := headE e f ++ (f.body ++ [0])
theorem hdsE_10 (b : Bool) : ∀ H : List Hd, hdsE [10] b H = hdsP b H
  | [] => rfl
  | h :: H => by
    rw [hdsE, hdsP, hdsE_10 b H]
    simp [lineL, hdP]
theorem writeE_10 (f : Fr) : writeE [10] f = writeL f := by
  unfold writeE headE writeL
  rw [hdsE_10]
  simp
/-- What a line is: not empty, with no end of a line in it. -/
def Line (l : Bs) : Prop := l ≠ [] ∧ 10 ∉ l ∧ 13 ∉ l
theorem trim_line {l : Bs} (h : Line l) : trimR l = l := by
  unfold trimR
  rw [if_neg]
  intro h2
  exact h.2.2 (List.mem_of_getLast? h2)
theorem trim_13 (l : Bs) : trimR (l ++ [13]) = l := by
  unfold trimR
  simp
theorem head_line {e l : Bs} (he : Eol e) (h : Line l) (out : List Bs) (R : Bs) : headA out [] (l ++ (e ++ R)) = headA (out ++ [l]) [] R := by
  rw [headA_cut]
  rcases he with rfl | rfl
  · rw [List.singleton_append, cutN_app _ h.2.1]
    simp only []
    rw [trim_line h, if_neg h.1]
  · have e2 : l ++ ([13, 10] ++ R) = (l ++ [13]) ++ 10 :: R := by simp
    rw [e2, cutN_app _ (by simp only [List.mem_append, List.mem_singleton, not_or]; exact ⟨h.2.1, by decide⟩)]
    simp only []
    rw [trim_13, if_neg h.1]
theorem head_end {e : Bs} (he : Eol e) (out : List Bs) (R : Bs) : headA out [] (e ++ R) = some (out, R) := by
  rw [headA_cut]
  rcases he with rfl | rfl
  · rfl
  · rfl
theorem head_lines {e : Bs} (he : Eol e) (b : Bool) (R : Bs) : ∀ (H : List Hd) (out : List Bs), (∀ h ∈ H, Line (lineL b h)) → headA out [] (hdsE e b H ++ (e ++ R)) = some (out ++ H.map (lineL b), R)
  | [], out, _ => by
    rw [hdsE, List.nil_append, head_end he]
    simp
  | h :: H, out, hl => by
    rw [hdsE, List.append_assoc, List.append_assoc, head_line he (hl h (by simp)), head_lines he b R H _ (fun x hx => hl x (by simp [hx]))]
    simp
/-- No mark is left in what is written with marks. -/
theorem put1_mem {c x : UInt8} (h : x ∈ put1 c) : x ≠ 10 ∧ x ≠ 13 ∧ x ≠ 58 := by
  rcases marks c with ⟨rfl, _⟩ | ⟨rfl, _⟩ | ⟨rfl, _⟩ | ⟨rfl, _⟩ | ⟨hm, hn⟩
  · have : x ∈ ([92, 92] : Bs) := h
    simp at this; subst this; decide
  · have : x ∈ ([92, 114] : Bs) := h
    simp at this; rcases this with rfl | rfl <;> decide
  · have : x ∈ ([92, 110] : Bs) := h
    simp at this; rcases this with rfl | rfl <;> decide
  · have : x ∈ ([92, 99] : Bs) := h
    simp at this; rcases this with rfl | rfl <;> decide
  · unfold put1 at h
    rw [hm] at h
    simp only [List.mem_singleton] at h
    subst h
    rw [cutN_none] at hn
    simp only [List.mem_cons, List.not_mem_nil, or_false, not_or] at hn
    exact ⟨hn.2.2.1, hn.2.1, hn.2.2.2⟩
theorem put_mem {s : Bs} {x : UInt8} (h : x ∈ putL false s) : x ≠ 10 ∧ x ≠ 13 ∧ x ≠ 58 := by
  have h : x ∈ s.flatMap put1 := h
  rw [List.mem_flatMap] at h
  obtain ⟨c, _, h⟩ := h
  exact put1_mem h
theorem unm_one {c : UInt8} (hc : c ≠ 92) (s : Bs) : unm (c :: s) = (unm s).map (c :: ·) := by
  cases s with
  | nil => simp [unm, hc]
  | cons d s => rw [unm, if_neg hc]
theorem unm_put : ∀ s : Bs, unm (putL false s) = some s
  | [] => rfl
  | c :: s => by
    have ih := unm_put s
    have e : putL false (c :: s) = put1 c ++ putL false s := rfl
    rw [e]
    rcases marks c with ⟨rfl, _⟩ | ⟨rfl, _⟩ | ⟨rfl, _⟩ | ⟨rfl, _⟩ | ⟨hm, hn⟩
    · show unm (92 :: 92 :: putL false s) = _
      rw [unm, if_pos rfl, ih]; rfl
    · show unm (92 :: 114 :: putL false s) = _
      rw [unm, if_pos rfl, ih]; rfl
    · show unm (92 :: 110 :: putL false s) = _
      rw [unm, if_pos rfl, ih]; rfl
    · show unm (92 :: 99 :: putL false s) = _
      rw [unm, if_pos rfl, ih]; rfl
    · unfold put1
      rw [hm]
      rw [cutN_none] at hn
      simp only [List.mem_cons, List.not_mem_nil, or_false, not_or] at hn
      show unm (c :: putL false s) = _
      rw [unm_one hn.1, ih]; rfl
theorem anyC_no {s ch : Bs} (h : anyC s ch = false) {x : UInt8} (hx : x ∈ s) : x ∉ ch := by
  unfold anyC at h
  rw [List.any_eq_false] at h
  have := h x hx
  simpa using this
theorem stN_parts {b : Bool} {n t : Bs} (h : stN b (n, t) = true) : n ≠ [] ∧ (b = true → (∀ x ∈ n, x ≠ 58 ∧ x ≠ 13 ∧ x ≠ 10) ∧ ∀ x ∈ t, x ≠ 13 ∧ x ≠ 10) := by
  unfold stN at h
  rw [Bool.and_eq_true, Bool.and_eq_true] at h
  obtain ⟨h1, _, h2⟩ := h
  refine ⟨by simpa using h1, fun hb => ?_⟩
  subst hb
  simp only [Bool.not_true, Bool.false_or, Bool.and_eq_true, Bool.not_eq_true'] at h2
  refine ⟨fun x hx => ?_, fun x hx => ?_⟩
  · have := anyC_no h2.1 hx
    simpa only [List.mem_cons, List.not_mem_nil, or_false, not_or] using this
  · have := anyC_no h2.2 hx
    simpa only [List.mem_cons, List.not_mem_nil, or_false, not_or] using this
theorem put_ne {b : Bool} {n : Bs} (h : n ≠ []) : putL b n ≠ [] := by
  cases b with
  | true => exact h
  | false =>
    cases n with
    | nil => exact absurd rfl h
    | cons c s =>
      show put1 c ++ putL false s ≠ []
      intro h2
      have h3 : put1 c = [] := (List.append_eq_nil_iff.1 h2).1
      unfold put1 at h3
      split at h3 <;> cases h3
theorem line_ok {b : Bool} {h : Hd} (hs : stN b h = true) : Line (lineL b h) ∧ hdrL b (lineL b h) = some h := by
  obtain ⟨n, t⟩ := h
  obtain ⟨h1, h2⟩ := stN_parts hs
  have hn58 : 58 ∉ putL b n := by
    cases b with
    | true => intro hx; exact ((h2 rfl).1 58 hx).1 rfl
    | false => intro hx; exact (put_mem hx).2.2 rfl
  have hmem : ∀ x ∈ lineL b (n, t), x ≠ 10 ∧ x ≠ 13 := by
    intro x hx
    unfold lineL at hx
    rw [List.mem_append, List.mem_cons] at hx
    cases b with
    | true =>
      rcases hx with hx | rfl | hx
      · have := (h2 rfl).1 x hx; exact ⟨this.2.2, this.2.1⟩
      · decide
      · have := (h2 rfl).2 x hx; exact ⟨this.2, this.1⟩
    | false =>
      rcases hx with hx | rfl | hx
      · have := put_mem hx; exact ⟨this.1, this.2.1⟩
      · decide
      · have := put_mem hx; exact ⟨this.1, this.2.1⟩
  refine ⟨⟨by unfold lineL; simp, fun hx => (hmem 10 hx).1 rfl, fun hx => (hmem 13 hx).2 rfl⟩, ?_⟩
  unfold hdrL lineL
  rw [cutN_app _ hn58]
  simp only []
  rw [if_neg (put_ne h1)]
  cases b with
  | true => rfl
  | false => simp only [unm_put]; rfl
theorem hdrs_ok {b : Bool} : ∀ {H : List Hd}, H.all (stN b) = true → hdrsL b (H.map (lineL b)) = some H ∧ ∀ h ∈ H, Line (lineL b h)
  | [], _ => ⟨rfl, fun _ h => by cases h⟩
  | h :: H, hs => by
    rw [List.all_cons, Bool.and_eq_true] at hs
    obtain ⟨h1, h2⟩ := line_ok hs.1
    obtain ⟨h3, h4⟩ := hdrs_ok hs.2
    refine ⟨?_, fun x hx => ?_⟩
    · rw [List.map_cons, hdrsL, h2, h3]; rfl
    · rcases List.mem_cons.1 hx with rfl | hx
      · exact h1
      · exact h4 x hx
theorem cmd_ok {c : Bs} (h : isCmd c = true) : Line c ∧ ∀ x ∈ c, x ≠ 10 ∧ x ≠ 13 := by
  unfold isCmd at h
  rw [Bool.and_eq_true, Bool.and_eq_true, List.all_eq_true] at h
  obtain ⟨h1, h2, _⟩ := h
  have hm : ∀ x ∈ c, x ≠ 10 ∧ x ≠ 13 := fun x hx => by
    have := h1 x hx
    constructor <;> (rintro rfl; exact absurd this (by decide))
  exact ⟨⟨by simpa using h2, fun hx => (hm 10 hx).1 rfl, fun hx => (hm 13 hx).2 rfl⟩, hm⟩
theorem upTo_body (b more : Bs) : upTo b.length (b ++ ([0] ++ more)) = .ok (b, more) := by
  unfold upTo
  rw [if_neg (by simp), if_pos (by simp)]
  simp
theorem body_ok {c : Bs} {H : List Hd} {b : Bs} (hb : b.length ≤ 1024) (h : clN ⟨c, H, b⟩ = true) (more : Bs) : bodyL H (b ++ ([0] ++ more)) = .ok (b, more) := by
  unfold clN at h
  unfold bodyL
  cases hg : getL CL H with
  | some t =>
    rw [hg] at h
    simp only [decide_eq_true_eq] at h
    subst h
    simp only [lenL_itoa b.length hb]
    exact upTo_body b more
  | none =>
    rw [hg] at h
    simp only [Option.isNone_iff_eq_none] at h
    have h0 := cutN_none.1 h
    have e : (b ++ ([0] ++ more)).take 1025 = b ++ 0 :: more.take (1024 - b.length) := by
      rw [List.take_append, List.take_of_length_le (by omega)]
      congr 1
      rw [show 1025 - b.length = (1024 - b.length) + 1 by omega]
      rfl
    simp only []
    rw [e, cutN_app _ h0]
    exact upTo_body b more
theorem can_parts {f : Fr} (h : canL f = true) : isCmd f.cmd = true ∧ f.hs.length ≤ 32 ∧ f.body.length ≤ 1024 ∧ f.hs.all (stN (bare f.cmd)) = true ∧ clN f = true := by
  unfold canL at h
  simp only [Bool.and_eq_true, decide_eq_true_eq] at h
  exact h
/-- What is read of what is written, with either end of lines. -/
theorem read_back {e : Bs} (he : Eol e) {f : Fr} (h : canL f = true) (more : Bs) : readL (writeE e f ++ more) = .ok (f, more) := by
  obtain ⟨h1, h2, h3, h4, h5⟩ := can_parts h
  obtain ⟨h6, h7⟩ := hdrs_ok h4
  have e1 : writeE e f ++ more = f.cmd ++ (e ++ (hdsE e (bare f.cmd) f.hs ++ (e ++ (f.body ++ ([0] ++ more))))) := by
    unfold writeE headE
    simp only [List.append_assoc]
  unfold readL
  rw [e1, head_line he (cmd_ok h1).1, head_lines he _ _ _ _ h7]
  simp only [List.nil_append, List.singleton_append]
  rw [if_pos ⟨h1, by rw [List.length_map]; exact h2⟩, h6]
  simp only []
  rw [show f.body ++ 0 :: more = f.body ++ ([0] ++ more) from rfl, body_ok h3 h5]
theorem blanks_zero {e : Bs} {f : Fr} (h : canL f = true) (more : Bs) : blanksN (writeE e f ++ more) = 0 := by
  obtain ⟨h1, _⟩ := can_parts h
  obtain ⟨h2, h3⟩ := cmd_ok h1
  cases hc : f.cmd with
  | nil => exact absurd hc h2.1
  | cons c s =>
    rw [hc] at h3
    have := h3 c (by simp)
    unfold writeE headE
    rw [hc]
    exact blanksN_x this.1 (.inl this.2)
/-- P18.1: what Next answers of what Encode wrote, and of its beginnings. -/
theorem next_back {e : Bs} (he : Eol e) {f : Fr} (h : canL f = true) (hl : (writeE e f).length ≤ 16384) (more : Bs) : nextL (writeE e f ++ more) = (f, (writeE e f).length, 0) := by
  unfold nextL
  have ht : (writeE e f ++ more).take 16384 = writeE e f ++ more.take (16384 - (writeE e f).length) := by
    rw [List.take_append, List.take_of_length_le hl]
  rw [blanks_zero h, List.drop_zero, ht, read_back he h]
  simp
theorem next_part {f : Fr} (h : canL f = true) (hl : (writeL f).length ≤ 16384) {n : Nat} (hn : n < (writeL f).length) : (nextL ((writeL f).take n)).2 = (0, 41) := by
  have hb : blanksN ((writeL f).take n) = 0 := by
    obtain ⟨h1, _⟩ := can_parts h
    obtain ⟨h2, h3⟩ := cmd_ok h1
    cases n with
    | zero => rfl
    | succ n =>
      cases hc : f.cmd with
      | nil => exact absurd hc h2.1
      | cons c s =>
        rw [hc] at h3
        have := h3 c (by simp)
        unfold writeL
        rw [hc]
        exact blanksN_x this.1 (.inl this.2)
  have hr : readL ((writeL f).take n) = .error 41 := by
    have hm := readL_more (s := (writeL f).take n) ((writeL f).drop n)
    rw [List.take_append_drop] at hm
    have hk := read_back (.inl rfl) h []
    rw [List.append_nil, writeE_10] at hk
    cases hx : readL ((writeL f).take n) with
    | ok p =>
      obtain ⟨g, r⟩ := p
      have := hm.1 g r hx
      rw [hk] at this
      injection this with this
      injection this with _ this
      have h9 := congrArg List.length this
      rw [List.length_append, List.length_drop, List.length_nil] at h9
      omega
    | error e =>
      rcases readL_err hx with rfl | rfl
      · have := hm.2 hx
        rw [hk] at this
        cases this
      · rfl
  unfold nextL
  have hlen : ((writeL f).take n).length = n := by rw [List.length_take]; omega
  rw [hb, List.drop_zero, List.take_of_length_le (by rw [hlen]; omega), hr]
  simp only []
  rw [if_pos ⟨trivial, by rw [hlen]; omega⟩]
end Go.Proofs.YtfdbekfbbihdgaaDoor
