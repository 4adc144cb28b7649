/- Words, topics and patterns as lists of bytes: what is proved here is of lists alone, with no condition but those that each row states. -/
import Derived.Test.YtnpikgakpmkipabGreatDoorProg
import Derived.WalkKit
import Derived.WalkLawsBesides
import Derived.Below
import Derived.Deep.LoopGhost
import Derived.Lib.Split
import Derived.Lib.SplitLaws
import Derived.Lib.IndexLaws
import Derived.Lib.IndexBytes
import Derived.Lib.CountLaws
import Derived.Lib.CutLaws
import Derived.Lib.IndexAny
import Derived.Lib.TrimUEq
import Derived.Lib.MapLaws
import Derived.Lib.TrimAscii
import Derived.Shelf.GgClosure.StringsIndexFunc
namespace Go.Proofs.YtnpikgakpmkipabGreatDoor
def wordsL : List UInt8 → List (List UInt8)
  | [] => [[]]
  | c :: l => if c = 46 then [] :: wordsL l else
    match wordsL l with
    | [] => [[c]]
    | w :: ws => (c :: w) :: ws
def inW (c : UInt8) : Bool := (decide (97 ≤ c.toNat) && decide (c.toNat ≤ 122)) || (decide (48 ≤ c.toNat) && decide (c.toNat ≤ 57)) || c == 45 || c == 95
def isW (w : List UInt8) : Bool := !w.isEmpty && decide (w.length ≤ 16) && w.all inW
def midW (w : List UInt8) : Bool := w == [42] || isW w
def okP : List (List UInt8) → Bool
  | [] => true
  | [w] => midW w || w == [35]
  | w :: v :: ws => midW w && okP (v :: ws)
def pat (l : List UInt8) : Bool := decide (l.length ≤ 64) && decide ((wordsL l).length ≤ 8) && okP (wordsL l)
def good (l : List UInt8) : Bool := decide (l.length ≤ 64) && decide ((wordsL l).length ≤ 8) && (wordsL l).all isW
def cov : List (List UInt8) → List (List UInt8) → Bool
  | [], q => q.isEmpty
  | p :: ps, q => if p = [35] then true else
    match q with
    | [] => false
    | r :: rs => r != [35] && (p == [42] || p == r) && cov ps rs
def covers (a b : List UInt8) : Bool := pat a && pat b && cov (wordsL a) (wordsL b)
def mat (a b : List UInt8) : Bool := good b && covers a b
theorem wordsL_ne (l : List UInt8) : wordsL l ≠ [] := by
  cases l with
  | nil => simp [wordsL]
  | cons c l =>
    unfold wordsL
    split
    · simp
    · split <;> simp
theorem wordsL_dot (l : List UInt8) : wordsL (46 :: l) = [] :: wordsL l := by rw [wordsL, if_pos rfl]
theorem wordsL_other (c : UInt8) (l : List UInt8) (h : c ≠ 46) : ∃ w ws, wordsL l = w :: ws ∧ wordsL (c :: l) = (c :: w) :: ws := by
  cases hw : wordsL l with
  | nil => exact absurd hw (wordsL_ne l)
  | cons w ws => exact ⟨w, ws, rfl, by rw [wordsL, if_neg h, hw]⟩
theorem wordsL_app (a b : List UInt8) : wordsL (a ++ 46 :: b) = wordsL a ++ wordsL b := by
  induction a with
  | nil => rw [List.nil_append, wordsL_dot]; rfl
  | cons c a ih =>
    by_cases h : c = 46
    · subst h
      rw [List.cons_append, wordsL_dot, wordsL_dot, ih]; rfl
    · obtain ⟨w, ws, h1, h2⟩ := wordsL_other c a h
      obtain ⟨w', ws', h3, h4⟩ := wordsL_other c (a ++ 46 :: b) h
      rw [ih, h1] at h3
      injection h3 with h5 h6
      rw [List.cons_append, h4, h2, ← h5, ← h6]; rfl
theorem wordsL_plain (w : List UInt8) (h : ∀ c ∈ w, c ≠ 46) : wordsL w = [w] := by
  induction w with
  | nil => rfl
  | cons c w ih =>
    obtain ⟨v, vs, h1, h2⟩ := wordsL_other c w (h c (by simp))
    rw [ih (fun c hc => h c (by simp [hc]))] at h1
    injection h1 with h3 h4
    rw [h2, ← h3, ← h4]
theorem words_sub (l : List UInt8) : ∀ w ∈ wordsL l, ∀ c ∈ w, c ∈ l ∧ c ≠ 46 := by
  induction l with
  | nil => intro w hw c hc; simp [wordsL] at hw; subst hw; simp at hc
  | cons d l ih =>
    intro w hw c hc
    by_cases h : d = 46
    · subst h
      rw [wordsL_dot] at hw
      rcases List.mem_cons.1 hw with rfl | hw
      · simp at hc
      · have := ih w hw c hc; exact ⟨by simp [this.1], this.2⟩
    · obtain ⟨v, vs, h1, h2⟩ := wordsL_other d l h
      rw [h2] at hw
      rcases List.mem_cons.1 hw with rfl | hw
      · rcases List.mem_cons.1 hc with rfl | hc
        · exact ⟨by simp, h⟩
        · have := ih v (by rw [h1]; simp) c hc; exact ⟨by simp [this.1], this.2⟩
      · have := ih w (by rw [h1]; simp [hw]) c hc; exact ⟨by simp [this.1], this.2⟩
theorem sub_words (l : List UInt8) : ∀ c ∈ l, c = 46 ∨ ∃ w ∈ wordsL l, c ∈ w := by
  induction l with
  | nil => intro c hc; simp at hc
  | cons d l ih =>
    intro c hc
    by_cases h : d = 46
    · subst h
      rcases List.mem_cons.1 hc with rfl | hc
      · exact .inl rfl
      · rcases ih c hc with h | ⟨w, hw, hcw⟩
        · exact .inl h
        · exact .inr ⟨w, by rw [wordsL_dot]; simp [hw], hcw⟩
    · obtain ⟨v, vs, h1, h2⟩ := wordsL_other d l h
      rcases List.mem_cons.1 hc with rfl | hc
      · exact .inr ⟨c :: v, by rw [h2]; simp, by simp⟩
      · rcases ih c hc with h | ⟨w, hw, hcw⟩
        · exact .inl h
        · rw [h1] at hw
          rcases List.mem_cons.1 hw with rfl | hw
          · exact .inr ⟨d :: w, by rw [h2]; simp, by simp [hcw]⟩
          · exact .inr ⟨w, by rw [h2]; simp [hw], hcw⟩
theorem words_len (l : List UInt8) : (wordsL l).length = l.count 46 + 1 := by
  induction l with
  | nil => rfl
  | cons d l ih =>
    by_cases h : d = 46
    · subst h; rw [wordsL_dot]; simp [ih]
    · obtain ⟨v, vs, h1, h2⟩ := wordsL_other d l h
      rw [h2, List.count_cons_of_ne h, ← ih, h1]; rfl
theorem inW_cases {c : UInt8} (h : inW c = true) : c ≠ 42 ∧ c ≠ 35 ∧ c ≠ 46 ∧ c ≠ 47 ∧ c ≠ 43 ∧ c.toNat < 128 := by
  refine ⟨?_, ?_, ?_, ?_, ?_, ?_⟩
  all_goals first
    | (intro e; subst e; revert h; decide)
    | (unfold inW at h
       simp only [Bool.or_eq_true, Bool.and_eq_true, decide_eq_true_eq, beq_iff_eq] at h
       rcases h with ((h | h) | h) | h
       · omega
       · omega
       · subst h; decide
       · subst h; decide)
theorem isW_parts {w : List UInt8} (h : isW w = true) : w ≠ [] ∧ w.length ≤ 16 ∧ ∀ c ∈ w, inW c = true := by
  unfold isW at h
  simp only [Bool.and_eq_true, Bool.not_eq_true', decide_eq_true_eq, List.all_eq_true] at h
  refine ⟨?_, h.1.2, h.2⟩
  rintro rfl
  exact absurd h.1.1 (by decide)
theorem okP_all (ws : List (List UInt8)) (h : okP ws = true) : ∀ w ∈ ws, midW w = true ∨ w = [35] := by
  induction ws with
  | nil => intro w hw; simp at hw
  | cons a ws ih =>
    cases ws with
    | nil =>
      intro w hw
      have hw' : w = a := by simpa using hw
      subst hw'
      unfold okP at h
      simpa using h
    | cons b bs =>
      intro w hw
      unfold okP at h
      rw [Bool.and_eq_true] at h
      rcases List.mem_cons.1 hw with rfl | hw
      · exact .inl h.1
      · exact ih h.2 w hw
theorem okP_of_all (ws : List (List UInt8)) (h : ∀ w ∈ ws, midW w = true) : okP ws = true := by
  induction ws with
  | nil => rfl
  | cons a ws ih =>
    cases ws with
    | nil => unfold okP; rw [h a (by simp)]; rfl
    | cons b bs => unfold okP; rw [h a (by simp), ih (fun w hw => h w (by simp [hw]))]; rfl
theorem midW_chars {w : List UInt8} (h : midW w = true ∨ w = [35]) : ∀ c ∈ w, (inW c = true ∨ c = 42 ∨ c = 35) := by
  intro c hc
  rcases h with h | rfl
  · unfold midW at h
    rw [Bool.or_eq_true, beq_iff_eq] at h
    rcases h with rfl | h
    · right; left; simpa using hc
    · exact .inl ((isW_parts h).2.2 c hc)
  · right; right; simpa using hc
theorem pat_chars {l : List UInt8} (h : pat l = true) : ∀ c ∈ l, inW c = true ∨ c = 42 ∨ c = 35 ∨ c = 46 := by
  intro c hc
  unfold pat at h
  rw [Bool.and_eq_true] at h
  rcases sub_words l c hc with h1 | ⟨w, hw, hcw⟩
  · exact .inr (.inr (.inr h1))
  · rcases midW_chars (okP_all _ h.2 w hw) c hcw with h1 | h1 | h1
    · exact .inl h1
    · exact .inr (.inl h1)
    · exact .inr (.inr (.inl h1))
theorem pat_ascii {l : List UInt8} (h : pat l = true) : ∀ c ∈ l, c.toNat < 128 := by
  intro c hc
  rcases pat_chars h c hc with h | rfl | rfl | rfl
  · exact (inW_cases h).2.2.2.2.2
  all_goals decide
theorem good_pat {l : List UInt8} (h : good l = true) : pat l = true := by
  unfold good at h
  unfold pat
  rw [Bool.and_eq_true, List.all_eq_true] at h
  rw [Bool.and_eq_true]
  exact ⟨h.1, okP_of_all _ (fun w hw => by unfold midW; rw [h.2 w hw, Bool.or_true])⟩
theorem good_iff (l : List UInt8) : good l = (pat l && !(l.any (fun c => c == 42 || c == 35))) := by
  rw [Bool.eq_iff_iff, Bool.and_eq_true]
  constructor
  · intro h
    refine ⟨good_pat h, ?_⟩
    rw [Bool.not_eq_true', List.any_eq_false]
    intro c hc
    unfold good at h
    rw [Bool.and_eq_true, List.all_eq_true] at h
    rcases sub_words l c hc with h1 | ⟨w, hw, hcw⟩
    · subst h1; decide
    · have := inW_cases ((isW_parts (h.2 w hw)).2.2 c hcw)
      simp [this.1, this.2.1]
  · rintro ⟨h1, h2⟩
    rw [Bool.not_eq_true', List.any_eq_false] at h2
    unfold pat at h1
    rw [Bool.and_eq_true] at h1
    unfold good
    rw [Bool.and_eq_true, List.all_eq_true]
    refine ⟨h1.1, fun w hw => ?_⟩
    rcases okP_all _ h1.2 w hw with h | rfl
    · unfold midW at h
      rw [Bool.or_eq_true, beq_iff_eq] at h
      rcases h with rfl | h
      · exact absurd (h2 42 (words_sub l _ hw 42 (by simp)).1) (by decide)
      · exact h
    · exact absurd (h2 35 (words_sub l _ hw 35 (by simp)).1) (by decide)
theorem pat_nums {l : List UInt8} (h : pat l = true) : l.length ≤ 64 ∧ (wordsL l).length ≤ 8 := by
 unfold pat at h
 simp only [Bool.and_eq_true, decide_eq_true_eq] at h
 exact h.1
end Go.Proofs.YtnpikgakpmkipabGreatDoor
namespace Go.Proofs.YtnpikgakpmkipabGreatDoor.To
open Go.RowKit Go.Lib
theorem ret_b {a b : Bool} (h : a = b) : Ending.returned (.bool a) = .returned (.bool b) := by rw [h]
def inN (c : Int) : Bool := decide (97 ≤ c) && decide (c ≤ 122) || decide (48 ≤ c) && decide (c ≤ 57) || c == 45 || c == 95
theorem toList_len (s : ByteArray) : s.toList.length = s.size := by rw [ByteArray.toList_eq]; rfl
theorem inN_inW (c : UInt8) : inN (c.toNat : Int) = inW c := by
 unfold inN inW
 have h1 : ∀ k : Nat, decide ((k : Int) ≤ (c.toNat : Int)) = decide (k ≤ c.toNat) := fun k => decide_eq_decide.2 Int.ofNat_le
 have h2 : ∀ k : Nat, decide ((c.toNat : Int) ≤ (k : Int)) = decide (c.toNat ≤ k) := fun k => decide_eq_decide.2 Int.ofNat_le
 have h3 : ((c.toNat : Int) == 45) = (c == 45) := by
  rw [Bool.eq_iff_iff, beq_iff_eq, beq_iff_eq]
  constructor
  ·intro h; exact UInt8.toNat_inj.1 (by show c.toNat = 45; omega)
  ·rintro rfl; rfl
 have h4 : ((c.toNat : Int) == 95) = (c == 95) := by
  rw [Bool.eq_iff_iff, beq_iff_eq, beq_iff_eq]
  constructor
  ·intro h; exact UInt8.toNat_inj.1 (by show c.toNat = 95; omega)
  ·rintro rfl; rfl
 rw [h3, h4]
 have a : decide ((97 : Int) ≤ (c.toNat : Int)) = decide (97 ≤ c.toNat) := h1 97
 have b : decide ((c.toNat : Int) ≤ 122) = decide (c.toNat ≤ 122) := h2 122
 have d : decide ((48 : Int) ≤ (c.toNat : Int)) = decide (48 ≤ c.toNat) := h1 48
 have e : decide ((c.toNat : Int) ≤ 57) = decide (c.toNat ≤ 57) := h2 57
 rw [a, b, d, e]
abbrev bl (s : ByteArray) : List UInt8 := s.data.toList
theorem bl_toList (s : ByteArray) : s.toList = bl s := ByteArray.toList_eq s
theorem bl_len (s : ByteArray) : (bl s).length = s.size := by rw [← bl_toList]; exact toList_len s
theorem inword_any (w : World) (c : Int) : Calls Tryz.prog 100 #[.int .i32 c] w fun e w' => e = .returned (.bool (inN c)) ∧ w' = w := by
 by_cases h1 : 97 ≤ c
 ·by_cases h2 : c ≤ 122
  ·have e : inN c = true := by simp [inN, h1, h2]
   rw [e]
   go_enter Tryz.func100, Tryz.ntmps100
   go_wp2
   go_ret
   exact ⟨rfl, rfl⟩
  ·have h3 : 48 ≤ c := by omega
   have h4 : ¬ c ≤ 57 := by omega
   have h5 : (c == 45) = false := by simp; omega
   have h6 : (c == 95) = false := by simp; omega
   have e : inN c = false := by simp [inN, h2, h4, h5, h6]
   rw [e]
   go_enter Tryz.func100, Tryz.ntmps100
   go_wp2
   go_ret
   exact ⟨rfl, rfl⟩
 ·by_cases h2 : 48 ≤ c
  ·by_cases h3 : c ≤ 57
   ·have e : inN c = true := by simp [inN, h2, h3]
    rw [e]
    go_enter Tryz.func100, Tryz.ntmps100
    go_wp2
    go_ret
    exact ⟨rfl, rfl⟩
   ·have h5 : (c == 45) = false := by simp; omega
    have e : inN c = (c == 95) := by simp [inN, h1, h3, h5]
    rw [e]
    go_enter Tryz.func100, Tryz.ntmps100
    go_wp2
    go_ret
    exact ⟨rfl, rfl⟩
  ·cases h5 : (c == 45) with
   | true =>
    have e : inN c = true := by simp [inN, h5]
    rw [e]
    go_enter Tryz.func100, Tryz.ntmps100
    go_wp2
    go_ret
    exact ⟨rfl, rfl⟩
   | false =>
    have e : inN c = (c == 95) := by simp [inN, h1, h2, h5]
    rw [e]
    go_enter Tryz.func100, Tryz.ntmps100
    go_wp2
    go_ret
    exact ⟨rfl, rfl⟩
theorem notword_any (w : World) (c : Int) : Calls Tryz.prog 99 #[.int .i32 c] w fun e w' => e = .returned (.bool (!inN c)) ∧ w' = w := by
 go_enter Tryz.func99, Tryz.ntmps99
 go_wp2_with (go_at_call 100; refine (inword_any _ _).mono ?_; rintro e w' ⟨rfl, rfl⟩)
 go_ret
 exact ⟨rfl, rfl⟩
abbrev str (l : List UInt8) : Value := .string ⟨l.toArray⟩
def RdS (w : World) (b off : Nat) (ws : List (List UInt8)) : Prop := b < w.heap.size ∧ ∀ j (h : j < ws.length), w.cell? ⟨b, off + j, none⟩ = some (str ws[j])
theorem RdS.below {w w' : World} {b off : Nat} {ws : List (List UInt8)} (h : RdS w b off ws) {B : Nat} (hb : Below B w w') (hB : b < B) : RdS w' b off ws :=
 ⟨Nat.lt_of_lt_of_le h.1 (Nat.le_trans (Nat.le_refl _) (by have := hb.size; have := h.1; omega)), fun j hj => by rw [hb.cell (p := ⟨b, off + j, none⟩) hB]; exact h.2 j hj⟩
def oddL : List (List UInt8) → Nat
 | [] => 0
 | w :: ws => if midW w then oddL ws + 1 else 0
def oddZ (ws : List (List UInt8)) : Int := if oddL ws < ws.length then (oddL ws : Int) else -1
theorem oddL_le (ws : List (List UInt8)) : oddL ws ≤ ws.length := by
 induction ws with
 | nil => simp [oddL]
 | cons w ws ih => unfold oddL; split <;> simp; omega
theorem odd_hit (ws : List (List UInt8)) (k : Nat) (h : k < ws.length) (hk : midW ws[k] = false) (hb : ∀ j (hj : j < ws.length), j < k → midW ws[j] = true) : oddL ws = k := by
 induction ws generalizing k with
 | nil => simp at h
 | cons w ws ih =>
  cases k with
  | zero => unfold oddL; rw [if_neg (by simpa using hk)]
  | succ k =>
   have hb0 : midW w = true := hb 0 (by simp) (by omega)
   unfold oddL
   rw [if_pos hb0, ih k (by simpa using h) (by simpa using hk) (fun j hj hjk => hb (j + 1) (Nat.succ_lt_succ hj) (Nat.succ_lt_succ hjk))]
theorem odd_miss (ws : List (List UInt8)) (hb : ∀ j (hj : j < ws.length), midW ws[j] = true) : oddL ws = ws.length := by
 induction ws with
 | nil => rfl
 | cons w ws ih =>
  have hb0 : midW w = true := hb 0 (by simp)
  unfold oddL
  rw [if_pos hb0, ih (fun j hj => hb (j + 1) (Nat.succ_lt_succ hj))]; rfl
theorem okP_odd (ws : List (List UInt8)) (hne : ws ≠ []) : okP ws = (decide (oddZ ws < 0) || (decide (oddZ ws = (ws.length : Int) - 1) && ws.getLast hne == [35])) := by
 induction ws with
 | nil => exact absurd rfl hne
 | cons a ws ih =>
  cases ws with
  | nil =>
   unfold okP
   cases h : midW a with
   | true => simp [oddZ, oddL, h]
   | false => simp [oddZ, oddL, h]
  | cons b bs =>
   have ih := ih (by simp)
   unfold okP
   cases h : midW a with
   | false =>
    have h0 : oddL (a :: b :: bs) = 0 := by unfold oddL; rw [if_neg (by simp [h])]
    have h1 : oddZ (a :: b :: bs) = 0 := by unfold oddZ; rw [h0]; simp
    rw [h1]
    have : ¬ ((0 : Int) = ((a :: b :: bs).length : Int) - 1) := by simp only [List.length_cons]; omega
    simp only [this]
    simp
   | true =>
    have h0 : oddL (a :: b :: bs) = oddL (b :: bs) + 1 := by rw [oddL, if_pos h]
    have hgl : (a :: b :: bs).getLast hne = (b :: bs).getLast (by simp) := List.getLast_cons (by simp)
    rw [Bool.true_and, ih, hgl]
    have hz : oddZ (a :: b :: bs) = if oddZ (b :: bs) < 0 then -1 else oddZ (b :: bs) + 1 := by
     unfold oddZ
     rw [h0]
     have := oddL_le (b :: bs)
     simp only [List.length_cons] at *
     split <;> split <;> (try split) <;> omega
    have hge : -1 ≤ oddZ (b :: bs) := by unfold oddZ; split <;> omega
    rw [hz]
    congr 1
    ·exact decide_eq_decide.2 (by split <;> omega)
    ·congr 1
     refine decide_eq_decide.2 ?_
     simp only [List.length_cons]
     split <;> omega
set_option maxHeartbeats 1000000 in
theorem indexFunc_any (w : World) (b c : Nat) (ws : List (List UInt8)) (hw : RdS w b 0 ws) (hn : ws.length ≤ 9223372036854775807)
  (hp : ∀ (W : World) (l : List UInt8), Below w.heap.size w W → Calls Tryz.prog 39 #[str l] W fun e w' => e = .returned (.bool (!midW l)) ∧ Below W.heap.size W w') :
  Calls Tryz.prog 38 #[.slice (some ⟨b, 0, none⟩) ws.length c, .func (.func 39) #[] #[]] w fun e w' => e = .returned (.int .i64 (oddZ ws)) ∧ Below w.heap.size w w' := by
 obtain ⟨n, hnn⟩ : ∃ n, ws.length = n := ⟨_, rfl⟩
 rw [hnn] at hn ⊢
 have HW : Hid (∀ j (h : j < ws.length), w.cell? ⟨b, 0 + j, none⟩ = some (str ws[j])) := hw.2
 have hb0 := hw.1
 clear hw
 have HN : Hid (ws.length = n) := hnn
 clear hnn
 go_enter Tryz.func38, Tryz.ntmps38
 go_wp2_with fail
 go_loopg [5, 8] n (fun gg _ s8 wr => ∃ kk : Nat, kk ≤ n ∧ n - kk ≤ gg ∧ s8 = .int .i64 kk ∧ Below w.heap.size w wr ∧ Hid (∀ j (hj : j < ws.length), j < kk → midW ws[j] = true))
 case atStart => exact ⟨0, Nat.zero_le _, by omega, rfl, Below.refl _ _, fun j _ hj => absurd hj (Nat.not_lt_zero _)⟩
 case round =>
  obtain ⟨kk, hkk, hg, rfl, hbw, A⟩ := hrel
  by_cases hlt : kk < n
  ·have hltz : (kk : Int) < (n : Int) := by omega
   have hkl : kk < ws.length := by have := HN.out; omega
   have hcell : wr.cell? ⟨b, 0 + kk, none⟩ = some (str ws[kk]) := by rw [hbw.cell (p := ⟨b, 0 + kk, none⟩) hb0]; exact HW.out kk hkl
   obtain ⟨y, hy⟩ : ∃ y, ws[kk] = y := ⟨_, rfl⟩
   rw [hy] at hcell
   have B : Hid (ws[kk] = y) := hy
   clear hy
   rw [Nat.zero_add] at hcell
   have hcall := hp wr y hbw
   cases hq : midW y with
   | false =>
    rw [hq] at hcall
    go_wp2_with (go_at_call 39; refine hcall.mono ?_; rintro e w' ⟨rfl, hbb⟩)
    go_ret
    refine ⟨?_, hbw.trans (hbb.mono hbw.size)⟩
    have h1 := odd_hit ws kk hkl (by rw [B.out]; exact hq) A.out
    have : oddZ ws = (kk : Int) := by unfold oddZ; rw [h1, if_pos hkl]
    rw [this]; rfl
   | true =>
    rw [hq] at hcall
    go_wp2_with (go_at_call 39; refine hcall.mono ?_; rintro e w' ⟨rfl, hbb⟩)
    go_roundg (n - (kk + 1))
    case measure => omega
    case rel =>
     refine ⟨kk + 1, by omega, by omega, by go_num, hbw.trans (hbb.mono hbw.size), (show Hid _ from fun j hj hjk => ?_)⟩
     by_cases e : j = kk
     ·subst e
      rw [B.out]; exact hq
     ·exact A.out j hj (by omega)
  ·have hltz : ¬ (kk : Int) < (n : Int) := by omega
   have : kk = n := by omega
   subst this
   go_wp2
   go_ret
   refine ⟨?_, hbw⟩
   have h1 := odd_miss ws (fun j hj => A.out j hj (by have := HN.out; omega))
   have : oddZ ws = -1 := by unfold oddZ; rw [h1, if_neg (by omega)]
   rw [this]; rfl
theorem cov_drop (p q : List (List UInt8)) (k : Nat) (h : k < p.length) : cov (p.drop k) (q.drop k) = if p[k] = [35] then true else if h2 : k < q.length then (q[k] != [35] && (p[k] == [42] || p[k] == q[k]) && cov (p.drop (k + 1)) (q.drop (k + 1))) else false := by
 rw [List.drop_eq_getElem_cons h]
 by_cases h2 : k < q.length
 ·rw [dif_pos h2, List.drop_eq_getElem_cons h2]
  simp only [cov]
 ·rw [dif_neg h2, List.drop_eq_nil_of_le (show q.length ≤ k by omega)]
  simp only [cov]
theorem cov_end (p q : List (List UInt8)) (h : p.length ≤ q.length) : cov (p.drop p.length) (q.drop p.length) = decide (p.length = q.length) := by
 rw [List.drop_length]
 show (q.drop p.length).isEmpty = _
 rw [Bool.eq_iff_iff]
 simp [List.isEmpty_iff, List.drop_eq_nil_iff]
 omega
end Go.Proofs.YtnpikgakpmkipabGreatDoor.To
namespace Go.Proofs.YtnpikgakpmkipabGreatDoor.To
open Go.Lib
def dot : ByteArray := ⟨#[46]⟩
theorem mk_bl (s : ByteArray) : (⟨(bl s).toArray⟩ : ByteArray) = s := by cases s; simp [bl]
theorem split_words (n : Nat) : ∀ s : ByteArray, s.size ≤ n → (Lib.splitB dot 0 (Lib.countB s dot) s).map bl = wordsL (bl s) := by
 induction n with
 | zero =>
  intro s hs
  have h0 : bl s = [] := List.eq_nil_of_length_eq_zero (by rw [bl_len]; omega)
  have hi : Lib.indexB s dot = -1 := by show Lib.index (bl s) _ = -1; rw [h0]; rfl
  rw [Lib.splitB_miss _ _ _ _ hi, h0]
  show [bl s] = _
  rw [h0]; rfl
 | succ n ih =>
  intro s hs
  have h1 : Lib.indexB s dot = Lib.indexByte (bl s) 46 := Lib.index_one (bl s) 46
  rcases Lib.indexB_cases s dot with hm | ⟨i, hi, hle⟩
  ·rw [Lib.splitB_miss _ _ _ _ hm]
   rw [hm] at h1
   have hno := Lib.indexByte_none h1.symm
   show [bl s] = _
   rw [wordsL_plain]
   intro c hc e
   obtain ⟨k, hk, hkc⟩ := List.mem_iff_getElem.1 hc
   exact hno k (by rw [List.getElem?_eq_getElem hk, hkc, e])
  ·rw [hi] at h1
   obtain ⟨h2, h3⟩ := Lib.indexByte_some h1.symm
   have hd : dot.size = 1 := rfl
   rw [hd] at hle
   rw [Lib.countB_hit s dot i (by rw [hd]; omega) hi, Nat.add_comm 1, Lib.splitB_hit _ _ _ _ i hi, List.map_cons, hd]
   have hsz := bl_len s
   have hx : bl (s.extract (i + 1) s.size) = (bl s).drop (i + 1) := by
    show (s.extract (i + 1) s.size).data.toList = _
    rw [Lib.extract_data]
    exact List.take_of_length_le (by rw [List.length_drop]; show (bl s).length - (i + 1) ≤ _; omega)
   have hx0 : bl (s.extract 0 (i + 0)) = (bl s).take i := by
    show (s.extract 0 (i + 0)).data.toList = _
    rw [Lib.extract_data]; rfl
   have hsz2 : (s.extract (i + 1) s.size).size ≤ n := by
    rw [← bl_len, hx, List.length_drop, hsz]; omega
   rw [ih _ hsz2, hx, hx0]
   have hi2 : i < (bl s).length := by omega
   have h46 : (bl s)[i] = 46 := by rw [List.getElem?_eq_getElem hi2] at h2; injection h2
   have hl : bl s = (bl s).take i ++ 46 :: (bl s).drop (i + 1) := by
    conv => lhs; rw [← List.take_append_drop i (bl s), List.drop_eq_getElem_cons hi2, h46]
   conv => rhs; rw [hl]
   rw [wordsL_app, wordsL_plain ((bl s).take i)]
   ·rfl
   ·intro c hc e
    obtain ⟨k, hk, hkc⟩ := List.mem_iff_getElem.1 hc
    have hk' : k < i := by rw [List.length_take] at hk; omega
    refine h3 k hk' ?_
    rw [List.getElem_take] at hkc
    rw [List.getElem?_eq_getElem (by omega), hkc, e]
theorem split_vals (s : ByteArray) : (Lib.splitB dot 0 (Lib.countB s dot) s).map Value.string = (wordsL (bl s)).map (fun l => Value.string ⟨l.toArray⟩) := by
 rw [← split_words s.size s (Nat.le_refl _), List.map_map]
 refine List.map_congr_left (fun x _ => ?_)
 show Value.string x = Value.string ⟨(bl x).toArray⟩
 rw [mk_bl]
theorem split_count (s : ByteArray) : Lib.countB s dot + 1 = (wordsL (bl s)).length := by
 have := congrArg List.length (split_words s.size s (Nat.le_refl _))
 rw [List.length_map, Lib.splitB_all dot (by decide) 0 (Lib.countB s dot) s rfl] at this
 exact this
theorem decodeN_big (n b0 b1 b2 b3 : Nat) (h : 128 ≤ b0) : 128 ≤ (Lib.decodeN n b0 b1 b2 b3).1 := by
 unfold Lib.decodeN
 rw [if_neg (by omega)]
 split
 ·split <;> simp <;> omega
 ·split
  ·split <;> simp <;> omega
  ·split
   ·split <;> simp <;> omega
   ·simp
theorem inN_big (z : Nat) (h : 128 ≤ z) : inN (z : Int) = false := by
 unfold inN
 have a : ¬ ((z : Int) ≤ 122) := by omega
 have b : ¬ ((z : Int) ≤ 57) := by omega
 have c : ¬ ((z : Int) = 45) := by omega
 have d : ¬ ((z : Int) = 95) := by omega
 simp [a, b, c, d]
theorem idx_from (s : ByteArray) (g : Nat) : ∀ pos, s.size ≤ pos + g → decide (0 ≤ Lib.idxFuncFrom (fun x => !inN (x : Int)) true s g pos) = ((bl s).drop pos).any (fun c => !inW c) := by
 induction g with
 | zero =>
  intro pos h
  rw [List.drop_eq_nil_of_le (by rw [bl_len]; omega)]
  rfl
 | succ g ih =>
  intro pos h
  by_cases hp : pos < s.size
  ·have hp2 : pos < (bl s).length := by rw [bl_len]; exact hp
   rw [List.drop_eq_getElem_cons hp2, List.any_cons]
   unfold Lib.idxFuncFrom
   rw [if_pos hp]
   have hd := Lib.decode_N s pos
   have hg : s.data.toList.getD pos 0 = (bl s)[pos] := by show ((bl s)[pos]?).getD 0 = _; rw [List.getElem?_eq_getElem hp2]; rfl
   rw [hg] at hd
   by_cases hb : (bl s)[pos].toNat < 128
   ·have : Utf8.decode s pos = ((bl s)[pos].toNat, 1) := by rw [hd]; unfold Lib.decodeN; rw [if_pos hb]
    rw [this]
    simp only
    rw [inN_inW]
    cases hw : inW (bl s)[pos] with
    | false => simp
    | true =>
     simp only [Bool.not_true, Bool.false_eq_true, if_false, Bool.false_or]
     exact ih (pos + 1) (by omega)
   ·have h1 : 128 ≤ (Utf8.decode s pos).1 := by rw [hd]; exact decodeN_big _ _ _ _ _ (by omega)
    have h2 : inW (bl s)[pos] = false := by rw [← inN_inW]; exact inN_big _ (by omega)
    rw [inN_big _ h1, h2]
    simp
  ·rw [List.drop_eq_nil_of_le (by rw [bl_len]; omega), Lib.idxFuncFrom_end _ _ _ _ _ hp]
   rfl
theorem idx_any (s : ByteArray) : decide (0 ≤ Lib.idxFunc (fun x => !inN (x : Int)) true s) = (bl s).any (fun c => !inW c) := idx_from s s.size 0 (by omega)
theorem containsAny_two (l : List UInt8) : Lib.containsAny l [42, 35] = l.any (fun c => c == 42 || c == 35) := by
 unfold Lib.containsAny
 induction l with
 | nil => rfl
 | cons b l ih =>
  have hge := Lib.indexAny_ge [42, 35] l
  rw [List.any_cons, ← ih]
  rw [Lib.indexAny]
  have : ([42, 35] : List UInt8).contains b = (b == 42 || b == 35) := by cases h1 : (b == 42) <;> cases h2 : (b == 35) <;> simp [List.contains, List.elem, h1, h2]
  rw [this]
  cases h : (b == 42 || b == 35) with
  | true => simp
  | false =>
   simp only [Bool.false_eq_true, if_false, Bool.false_or, beq_iff_eq]
   split
   ·rename_i e; rw [e]
   ·exact decide_eq_decide.2 (by omega)
end Go.Proofs.YtnpikgakpmkipabGreatDoor.To
