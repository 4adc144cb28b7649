
/- The library's words for splitting, searching and turning texts, held against our own: facts of lists and texts, with those conditions that each row states. -/
import Derived.Test.YtlbcefocmdnlgaaGreatDoorNa
import Derived.Lib.Split
import Derived.Lib.SplitLaws
import Derived.Lib.IndexLaws
import Derived.Lib.IndexBytes
import Derived.Lib.CountLaws
import Derived.Lib.CutLaws
import Derived.Lib.IndexAny
import Derived.Lib.TrimUEq
import Derived.Lib.MapLaws
import Derived.Lib.TrimAscii
import Derived.Shelf.GgClosure.StringsIndexFunc
namespace Go.Proofs.YtlbcefocmdnlgaaGreatDoor.To
open Go.Lib

def dot : ByteArray := ⟨#[46]⟩
theorem mk_bl (s : ByteArray) : (⟨(bl s).toArray⟩ : ByteArray) = s := by cases s; simp [bl]

theorem split_words (n : Nat) : ∀ s : ByteArray, s.size ≤ n → (Lib.splitB dot 0 (Lib.countB s dot) s).map bl = wordsL (bl s) := by
  induction n with
  | zero =>
    intro s hs
    have h0 : bl s = [] := List.eq_nil_of_length_eq_zero (by rw [bl_len]; omega)
    have hi : Lib.indexB s dot = -1 := by show Lib.index (bl s) _ = -1; rw [h0]; rfl
    rw [Lib.splitB_miss _ _ _ _ hi, h0]
    show [bl s] = _
    rw [h0]; rfl
  | succ n ih =>
    intro s hs
    have h1 : Lib.indexB s dot = Lib.indexByte (bl s) 46 := Lib.index_one (bl s) 46
    rcases Lib.indexB_cases s dot with hm | ⟨i, hi, hle⟩
    · rw [Lib.splitB_miss _ _ _ _ hm]
      rw [hm] at h1
      have hno := Lib.indexByte_none h1.symm
      show [bl s] = _
      rw [wordsL_plain]
      intro c hc e
      obtain ⟨k, hk, hkc⟩ := List.mem_iff_getElem.1 hc
      exact hno k (by rw [List.getElem?_eq_getElem hk, hkc, e])
    · rw [hi] at h1
      obtain ⟨h2, h3⟩ := Lib.indexByte_some h1.symm
      have hd : dot.size = 1 := rfl
      rw [hd] at hle
      rw [Lib.countB_hit s dot i (by rw [hd]; omega) hi, Nat.add_comm 1, Lib.splitB_hit _ _ _ _ i hi, List.map_cons, hd]
      have hsz := bl_len s
      have hx : bl (s.extract (i + 1) s.size) = (bl s).drop (i + 1) := by
        show (s.extract (i + 1) s.size).data.toList = _
        rw [Lib.extract_data]
        exact List.take_of_length_le (by rw [List.length_drop]; show (bl s).length - (i + 1) ≤ _; omega)
      have hx0 : bl (s.extract 0 (i + 0)) = (bl s).take i := by
        show (s.extract 0 (i + 0)).data.toList = _
        rw [Lib.extract_data]; rfl
      have hsz2 : (s.extract (i + 1) s.size).size ≤ n := by
        rw [← bl_len, hx, List.length_drop, hsz]; omega
      rw [ih _ hsz2, hx, hx0]
      have hi2 : i < (bl s).length := by omega
      have h46 : (bl s)[i] = 46 := by rw [List.getElem?_eq_getElem hi2] at h2; injection h2
      have hl : bl s = (bl s).take i ++ 46 :: (bl s).drop (i + 1) := by
        conv => lhs; rw [← List.take_append_drop i (bl s), List.drop_eq_getElem_cons hi2, h46]
      conv => rhs; rw [hl]
      rw [wordsL_app, wordsL_plain ((bl s).take i)]
      · rfl
      · intro c hc e
        obtain ⟨k, hk, hkc⟩ := List.mem_iff_getElem.1 hc
        have hk' : k < i := by rw [List.length_take] at hk; omega
        refine h3 k hk' ?_
        rw [List.getElem_take] at hkc
        rw [List.getElem?_eq_getElem (by omega), hkc, e]
theorem split_vals (s : ByteArray) : (Lib.splitB dot 0 (Lib.countB s dot) s).map Value.string = (wordsL (bl s)).map (fun l => Value.string ⟨l.toArray⟩) := by
  rw [← split_words s.size s (Nat.le_refl _), List.map_map]
  refine List.map_congr_left (fun x _ => ?_)
  show Value.string x = Value.string ⟨(bl x).toArray⟩
  rw [mk_bl]
theorem split_count (s : ByteArray) : Lib.countB s dot + 1 = (wordsL (bl s)).length := by
  have := congrArg List.length (split_words s.size s (Nat.le_refl _))
  rw [List.length_map, Lib.splitB_all dot (by decide) 0 (Lib.countB s dot) s rfl] at this
  exact this

theorem decodeN_big (n b0 b1 b2 b3 : Nat) (h : 128 ≤ b0) : 128 ≤ (Lib.decodeN n b0 b1 b2 b3).1 := by
  unfold Lib.decodeN
  rw [if_neg (by omega)]
  split
  · split <;> simp <;> omega
  · split
    · split <;> simp <;> omega
    · split
      · split <;> simp <;> omega
      · simp
theorem inN_big (z : Nat) (h : 128 ≤ z) : inN (z : Int) = false := by
  unfold inN
  have a : ¬ ((z : Int) ≤ 122) := by omega
  have b : ¬ ((z : Int) ≤ 57) := by omega
  have c : ¬ ((z : Int) = 45) := by omega
  have d : ¬ ((z : Int) = 95) := by omega
  simp [a, b, c, d]
theorem idx_from (s : ByteArray) (g : Nat) : ∀ pos, s.size ≤ pos + g → decide (0 ≤ Lib.idxFuncFrom (fun x => !inN (x : Int)) true s g pos) = ((bl s).drop pos).any (fun c => !inW c) := by
  induction g with
  | zero =>
    intro pos h
    rw [List.drop_eq_nil_of_le (by rw [bl_len]; omega)]
    rfl
  | succ g ih =>
    intro pos h
    by_cases hp : pos < s.size
    · have hp2 : pos < (bl s).length := by rw [bl_len]; exact hp
      rw [List.drop_eq_getElem_cons hp2, List.any_cons]
      unfold Lib.idxFuncFrom
      rw [if_pos hp]
      have hd := Lib.decode_N s pos
      have hg : s.data.toList.getD pos 0 = (bl s)[pos] := by show ((bl s)[pos]?).getD 0 = _; rw [List.getElem?_eq_getElem hp2]; rfl
      rw [hg] at hd
      by_cases hb : (bl s)[pos].toNat < 128
      · have : Utf8.decode s pos = ((bl s)[pos].toNat, 1) := by rw [hd]; unfold Lib.decodeN; rw [if_pos hb]
        rw [this]
        simp only
        rw [inN_inW]
        cases hw : inW (bl s)[pos] with
        | false => simp
        | true =>
          simp only [Bool.not_true, Bool.false_eq_true, if_false, Bool.false_or]
          exact ih (pos + 1) (by omega)
      · have h1 : 128 ≤ (Utf8.decode s pos).1 := by rw [hd]; exact decodeN_big _ _ _ _ _ (by omega)
        have h2 : inW (bl s)[pos] = false := by rw [← inN_inW]; exact inN_big _ (by omega)
        rw [inN_big _ h1, h2]
        simp
    · rw [List.drop_eq_nil_of_le (by rw [bl_len]; omega), Lib.idxFuncFrom_end _ _ _ _ _ hp]
      rfl
theorem idx_any (s : ByteArray) : decide (0 ≤ Lib.idxFunc (fun x => !inN (x : Int)) true s) = (bl s).any (fun c => !inW c) := idx_from s s.size 0 (by omega)

theorem containsAny_two (l : List UInt8) : Lib.containsAny l [42, 35] = l.any (fun c => c == 42 || c == 35) := by
  unfold Lib.containsAny
  induction l with
  | nil => rfl
  | cons b l ih =>
    have hge := Lib.indexAny_ge [42, 35] l
    rw [List.any_cons, ← ih]
    rw [Lib.indexAny]
    have : ([42, 35] : List UInt8).contains b = (b == 42 || b == 35) := by cases h1 : (b == 42) <;> cases h2 : (b == 35) <;> simp [List.contains, List.elem, h1, h2]
    rw [this]
    cases h : (b == 42 || b == 35) with
    | true => simp
    | false =>
      simp only [Bool.false_eq_true, if_false, Bool.false_or, beq_iff_eq]
      split
      · rename_i e; rw [e]
      · exact decide_eq_decide.2 (by omega)

/-- The turning of letters. -/
def turnR (z : Int) : Int := if z = 46 then 47 else if z = 47 then 46 else if z = 42 then 43 else if z = 43 then 42 else z
theorem turnR_small (c : UInt8) (h : c.toNat < 128) : Lib.encodeRune (turnR (c.toNat : Int)) = [turnB c] := by
  have e : turnR (c.toNat : Int) = ((turnB c).toNat : Int) := by
    have k : ∀ d : UInt8, ((c.toNat : Int) = (d.toNat : Int)) ↔ c = d := fun d => by rw [Int.ofNat_inj, UInt8.toNat_inj]
    unfold turnR turnB
    have k46 : ((c.toNat : Int) = 46) ↔ c = 46 := k 46
    have k47 : ((c.toNat : Int) = 47) ↔ c = 47 := k 47
    have k42 : ((c.toNat : Int) = 42) ↔ c = 42 := k 42
    have k43 : ((c.toNat : Int) = 43) ↔ c = 43 := k 43
    simp only [k46, k47, k42, k43]
    repeat' split
    all_goals rfl
  have hl : (turnB c).toNat < 128 := by
    unfold turnB
    repeat' split
    all_goals first | decide | exact h
  rw [e]
  unfold Lib.encodeRune
  rw [Lib.encodeRuneZ_one (by omega) (by omega)]
  show [((turnB c).toNat : Int).toNat.toUInt8] = _
  simp
theorem turnR_big (z : Nat) (h : 128 ≤ z) : turnR (z : Int) = z := by
  unfold turnR
  rw [if_neg (by omega), if_neg (by omega), if_neg (by omega), if_neg (by omega)]
theorem encode_big (z : Nat) (h : 128 ≤ z) : ∃ c ∈ Lib.encodeRune (z : Int), 128 ≤ c.toNat := by
  unfold Lib.encodeRune Lib.encodeRuneZ
  rw [if_neg (by omega)]
  have key : ∀ r : Int, 128 ≤ r → r < 256 → 128 ≤ (r.toNat.toUInt8).toNat := by
    intro r h1 h2
    have : r.toNat.toUInt8.toNat = r.toNat := by
      show r.toNat % 256 = r.toNat
      omega
    omega
  split
  · exact ⟨_, List.mem_map_of_mem (List.mem_cons_self ..), key _ (by omega) (by omega)⟩
  · split
    · exact ⟨_, List.mem_map_of_mem (List.mem_cons_self ..), key _ (by omega) (by omega)⟩
    · split
      · exact ⟨_, List.mem_map_of_mem (List.mem_cons_self ..), key _ (by omega) (by omega)⟩
      · exact ⟨_, List.mem_map_of_mem (List.mem_cons_self ..), key _ (by omega) (by omega)⟩
theorem mapD_nil (f : Int → Int) : Lib.mapD f [] = [] := rfl
theorem mapD_ascii (l : List UInt8) (h : ∀ c ∈ l, c.toNat < 128) : Lib.mapD turnR l = l.map turnB := by
  induction l with
  | nil => rfl
  | cons c l ih =>
    have hc := h c (by simp)
    rw [Lib.mapD_step turnR (c :: l) (by simp), Lib.decodeL_ascii c l hc]
    have : 0 ≤ turnR (c.toNat : Int) := by
      unfold turnR
      repeat' split
      all_goals omega
    simp only
    rw [if_pos this, turnR_small c hc, List.drop_one, List.tail_cons, ih (fun d hd => h d (by simp [hd]))]
    rfl
theorem mapD_bad (n : Nat) : ∀ l : List UInt8, l.length ≤ n → (∃ c ∈ l, 128 ≤ c.toNat) → ∃ c ∈ Lib.mapD turnR l, 128 ≤ c.toNat := by
  induction n with
  | zero =>
    rintro l hl ⟨c, hc, _⟩
    have : l = [] := List.eq_nil_of_length_eq_zero (by omega)
    subst this
    simp at hc
  | succ n ih =>
    rintro l hl ⟨c, hc, h128⟩
    cases l with
    | nil => simp at hc
    | cons a l =>
      rw [Lib.mapD_step turnR (a :: l) (by simp)]
      by_cases ha : a.toNat < 128
      · rw [Lib.decodeL_ascii a l ha]
        have hcl : c ∈ l := by
          rcases List.mem_cons.1 hc with rfl | h
          · omega
          · exact h
        simp only [List.length_cons] at hl
        obtain ⟨d, hd, hd2⟩ := ih l (by omega) ⟨c, hcl, h128⟩
        refine ⟨d, List.mem_append_right _ ?_, hd2⟩
        simpa using hd
      · have hb : 128 ≤ (Lib.decodeL (a :: l)).1 := by
          rw [Lib.decodeL_N]
          exact decodeN_big _ _ _ _ _ (by simpa using Nat.le_of_not_lt ha)
        rw [turnR_big _ hb, if_pos (by omega)]
        obtain ⟨d, hd, hd2⟩ := encode_big _ hb
        exact ⟨d, List.mem_append_left _ hd, hd2⟩
/-- Turned and a pattern: then turned byte by byte. -/
theorem pat_mapD (l : List UInt8) : pat (Lib.mapD turnR l) = pat (l.map turnB) ∧ (pat (Lib.mapD turnR l) = true → Lib.mapD turnR l = l.map turnB) := by
  by_cases h : ∀ c ∈ l, c.toNat < 128
  · rw [mapD_ascii l h]
    exact ⟨rfl, fun _ => rfl⟩
  · have hx : ∃ c ∈ l, 128 ≤ c.toNat := by
      refine Classical.byContradiction (fun hn => h (fun c hc => ?_))
      exact Classical.byContradiction (fun h2 => hn ⟨c, hc, by omega⟩)
    obtain ⟨d, hd, hd2⟩ := mapD_bad l.length l (Nat.le_refl _) hx
    have h1 := len_set_ge _ hd hd2
    obtain ⟨c, hc, hc2⟩ := hx
    have h2 : pat (l.map turnB) = false := by
      refine len_set_ge _ (List.mem_map_of_mem hc) ?_
      unfold turnB
      have : c ≠ 46 ∧ c ≠ 47 ∧ c ≠ 42 ∧ c ≠ 43 := by
        refine ⟨?_, ?_, ?_, ?_⟩
        all_goals (rintro rfl; revert hc2; decide)
      rw [if_neg this.1, if_neg this.2.1, if_neg this.2.2.1, if_neg this.2.2.2]
      exact hc2
    rw [h1, h2]
    exact ⟨rfl, fun h => by simp at h⟩
end Go.Proofs.YtlbcefocmdnlgaaGreatDoor.To
