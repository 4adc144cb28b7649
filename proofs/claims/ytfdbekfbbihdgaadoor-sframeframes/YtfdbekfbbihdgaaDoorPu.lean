
/- Frames of STOMP as functions on lists of bytes. No memory in this text. -/
import Derived.Lib.IndexMore
import Derived.Lib.IndexBytes
import Derived.Lib.IndexLaws
import Derived.Lib.AtoiAll
import Derived.Lib.ItoaNum
namespace Go.Proofs.YtfdbekfbbihdgaaDoor
open Go.Lib
set_option linter.unusedSimpArgs false

abbrev Bs := List UInt8
/-- What lies ahead of a byte and behind it. -/
def cutN (c : UInt8) : Bs → Option (Bs × Bs)
  | [] => none
  | x :: s => if x = c then some ([], s) else (cutN c s).map fun r => (x :: r.1, r.2)
theorem cutN_some {c : UInt8} : ∀ {s a r : Bs}, cutN c s = some (a, r) → s = a ++ c :: r ∧ c ∉ a
  | [], _, _, h => by simp [cutN] at h
  | x :: s, a, r, h => by
    unfold cutN at h
    split at h
    · rename_i hx
      simp only [Option.some.injEq, Prod.mk.injEq] at h
      obtain ⟨rfl, rfl⟩ := h
      simp [hx]
    · rename_i hx
      cases hc : cutN c s with
      | none => rw [hc] at h; cases h
      | some p =>
        rw [hc] at h
        simp only [Option.map_some, Option.some.injEq, Prod.mk.injEq] at h
        obtain ⟨rfl, rfl⟩ := h
        obtain ⟨h1, h2⟩ := cutN_some (a := p.1) (r := p.2) (by rw [hc])
        refine ⟨by rw [List.cons_append, ← h1], ?_⟩
        simp only [List.mem_cons, not_or]
        exact ⟨fun e => hx e.symm, h2⟩
theorem cutN_app {c : UInt8} : ∀ {a : Bs} (r : Bs), c ∉ a → cutN c (a ++ c :: r) = some (a, r)
  | [], r, _ => by simp [cutN]
  | x :: a, r, h => by
    simp only [List.mem_cons, not_or] at h
    rw [List.cons_append, cutN, if_neg (fun e => h.1 e.symm), cutN_app r h.2]
    rfl
theorem cutN_none {c : UInt8} : ∀ {s : Bs}, cutN c s = none ↔ c ∉ s
  | [] => by simp [cutN]
  | x :: s => by
    rw [cutN]
    split
    · rename_i h; simp [h]
    · rename_i h
      rw [Option.map_eq_none_iff, cutN_none]
      simp only [List.mem_cons, not_or]
      exact ⟨fun h2 => ⟨fun e => h e.symm, h2⟩, fun h2 => h2.2⟩
theorem cutN_more {c : UInt8} {s a r : Bs} (h : cutN c s = some (a, r)) (t : Bs) : cutN c (s ++ t) = some (a, r ++ t) := by
  obtain ⟨rfl, h2⟩ := cutN_some h
  rw [List.append_assoc, List.cons_append, cutN_app _ h2]
theorem ib_cut (c : UInt8) : ∀ s : Bs, indexByte s c = (match cutN c s with | some (a, _) => (a.length : Int) | none => -1)
  | [] => by simp [cutN, indexByte]
  | x :: s => by
    have ih := ib_cut c s
    unfold indexByte cutN
    by_cases hx : x = c
    · subst hx; simp
    · have hb : (x == c) = false := by simpa using hx
      rw [hb, if_neg hx]
      cases hc : cutN c s with
      | none => rw [hc] at ih; simp only [] at ih; rw [ih]; simp
      | some p =>
        rw [hc] at ih
        simp only [] at ih
        rw [ih]
        simp only [Option.map_some, List.length_cons]
        have h1 : (((p.1.length : Nat) : Int) == -1) = false := by rw [beq_eq_false_iff_ne]; omega
        rw [h1]
        simp
theorem index_ib (c : UInt8) : ∀ s : Bs, index s [c] = indexByte s c
  | [] => by simp [index, indexByte]
  | x :: s => by
    have ih := index_ib c s
    unfold index indexByte
    have e : [c].isPrefixOf (x :: s) = (x == c) := by
      simp only [List.isPrefixOf, Bool.and_true]
      rw [Bool.eq_iff_iff, beq_iff_eq, beq_iff_eq]
      exact eq_comm
    rw [e, ih]
theorem cut_one (c : UInt8) (s : Bs) : Lib.cut s [c] = (match cutN c s with | some (a, r) => (a, r, true) | none => (s, [], false)) := by
  unfold Lib.cut
  rw [index_ib, ib_cut]
  cases hc : cutN c s with
  | none =>
    simp only []
    rw [if_neg (by decide)]
  | some p =>
    obtain ⟨h1, _⟩ := cutN_some (a := p.1) (r := p.2) (by rw [hc])
    simp only []
    rw [if_pos (by omega)]
    simp only [Int.toNat_natCast, List.length_cons, List.length_nil]
    have e1 : s.take p.1.length = p.1 := by rw [h1]; simp
    have e2 : s.drop (p.1.length + 1) = p.2 := by
      rw [h1, ← List.drop_drop]; simp
    rw [e1, e2]

def trimR (l : Bs) : Bs := if l.getLast? = some 13 then l.dropLast else l
theorem trim_one (l : Bs) : Lib.trimSuffix l [13] = trimR l := by
  unfold Lib.trimSuffix Lib.hasSuffix trimR
  rcases List.eq_nil_or_concat l with rfl | ⟨a, x, hax⟩
  · simp
  · rw [List.concat_eq_append] at hax
    subst hax
    simp only [List.getLast?_concat, List.dropLast_concat, List.length_append, List.length_cons, List.length_nil]
    by_cases hx : x = 13
    · subst hx
      rw [if_pos (by rw [List.isSuffixOf_iff_suffix]; exact List.suffix_append a [13]), if_pos rfl]
      simp
    · rw [if_neg, if_neg (by simpa using hx)]
      rw [List.isSuffixOf_iff_suffix]
      rintro ⟨t, ht⟩
      have := congrArg List.getLast? ht
      simp at this
      exact hx this.symm
theorem trimR_nil {l : Bs} : trimR l = [] ↔ l = [] ∨ l = [13] := by
  unfold trimR
  rcases List.eq_nil_or_concat l with rfl | ⟨a, x, hax⟩
  · simp
  · rw [List.concat_eq_append] at hax
    subst hax
    simp only [List.getLast?_concat, List.dropLast_concat, Option.some.injEq]
    by_cases hx : x = 13
    · subst hx
      rw [if_pos rfl]
      constructor
      · rintro rfl; exact .inr rfl
      · rintro (h | h)
        · simp at h
        · have := congrArg List.dropLast h
          simpa using this
    · rw [if_neg hx]
      constructor
      · intro h; simp at h
      · rintro (h | h)
        · simp at h
        · have := congrArg List.getLast? h
          simp at this
          exact absurd this hx
theorem trimR_len (l : Bs) : (trimR l).length ≤ l.length := by
  unfold trimR
  split
  · rw [List.length_dropLast]; omega
  · exact Nat.le_refl _

/-- The lines ahead of an empty one, and what is behind that. -/
def headA (out : List Bs) (cur : Bs) : Bs → Option (List Bs × Bs)
  | [] => none
  | c :: s => if c = 10 then (if trimR cur = [] then some (out, s) else headA (out ++ [trimR cur]) [] s) else headA out (cur ++ [c]) s
theorem headA_cons (out : List Bs) (cur : Bs) (c : UInt8) (s : Bs) : headA out cur (c :: s) = if c = 10 then (if trimR cur = [] then some (out, s) else headA (out ++ [trimR cur]) [] s) else headA out (cur ++ [c]) s := rfl
theorem headA_run (out : List Bs) : ∀ (s cur : Bs), headA out cur s = (match cutN 10 s with
    | none => none
    | some (a, r) => if trimR (cur ++ a) = [] then some (out, r) else headA (out ++ [trimR (cur ++ a)]) [] r)
  | [], cur => rfl
  | c :: s, cur => by
    rw [headA_cons, cutN]
    by_cases hc : c = 10
    · rw [if_pos hc, if_pos hc]
      simp
    · rw [if_neg hc, if_neg hc, headA_run out s (cur ++ [c])]
      cases cutN 10 s with
      | none => rfl
      | some p => simp
theorem headA_cut (out : List Bs) (s : Bs) : headA out [] s = (match cutN 10 s with
    | none => none
    | some (a, r) => if trimR a = [] then some (out, r) else headA (out ++ [trimR a]) [] r) := by
  rw [headA_run]
  simp
theorem headA_more : ∀ (s : Bs) (out : List Bs) (cur : Bs) {L : List Bs} {r : Bs}, headA out cur s = some (L, r) → ∀ t, headA out cur (s ++ t) = some (L, r ++ t)
  | [], _, _, _, _, h, _ => by cases h
  | c :: s, out, cur, L, r, h, t => by
    rw [List.cons_append, headA_cons]
    rw [headA_cons] at h
    split at h
    · rename_i hc
      rw [if_pos hc]
      split at h
      · rename_i h2
        rw [if_pos h2]
        simp only [Option.some.injEq, Prod.mk.injEq] at h
        rw [h.1, h.2]
      · rename_i h2
        rw [if_neg h2]
        exact headA_more s _ _ h t
    · rename_i hc
      rw [if_neg hc]
      exact headA_more s _ _ h t
theorem headA_left : ∀ (s : Bs) (out : List Bs) (cur : Bs) {L : List Bs} {r : Bs}, headA out cur s = some (L, r) → r.length < s.length
  | [], _, _, _, _, h => by cases h
  | c :: s, out, cur, L, r, h => by
    rw [headA_cons] at h
    rw [List.length_cons]
    split at h
    · split at h
      · simp only [Option.some.injEq, Prod.mk.injEq] at h
        rw [h.2]; omega
      · have := headA_left s _ _ h; omega
    · have := headA_left s _ _ h; omega

/-- How many bytes are ends of lines alone. -/
def blanksN : Bs → Nat
  | [] => 0
  | [c] => if c = 10 then 1 else 0
  | c :: d :: s => if c = 10 then blanksN (d :: s) + 1 else if c = 13 ∧ d = 10 then blanksN s + 2 else 0
theorem blanksN_10 (s : Bs) : blanksN (10 :: s) = blanksN s + 1 := by
  cases s with
  | nil => rfl
  | cons d s => rw [blanksN]; simp
theorem blanksN_13 (s : Bs) : blanksN (13 :: 10 :: s) = blanksN s + 2 := by
  rw [blanksN]; simp
theorem blanksN_x {c : UInt8} {s : Bs} (h : c ≠ 10) (h2 : c ≠ 13 ∨ s.head? ≠ some 10) : blanksN (c :: s) = 0 := by
  cases s with
  | nil => rw [blanksN, if_neg h]
  | cons d s =>
    rw [blanksN, if_neg h, if_neg]
    rintro ⟨h3, h4⟩
    rcases h2 with h2 | h2
    · exact h2 h3
    · exact h2 (by rw [h4]; rfl)
theorem blanksN_le : ∀ s : Bs, blanksN s ≤ s.length
  | [] => Nat.le_refl _
  | [c] => by rw [blanksN]; split <;> simp
  | c :: d :: s => by
    rw [blanksN]
    have h1 := blanksN_le (d :: s)
    have h2 := blanksN_le s
    simp only [List.length_cons] at h1 ⊢
    split
    · omega
    · split <;> omega
theorem blanksN_cut (s : Bs) : blanksN s = (match cutN 10 s with
    | none => 0
    | some (a, r) => if trimR a = [] then a.length + 1 + blanksN r else 0) := by
  cases s with
  | nil => rfl
  | cons c s =>
    rw [cutN]
    by_cases hc : c = 10
    · subst hc
      rw [if_pos rfl, blanksN_10]
      simp only []
      rw [if_pos (by rfl)]
      simp only [List.length_nil]; omega
    · rw [if_neg hc]
      cases s with
      | nil => rw [blanksN, if_neg hc]; simp [cutN]
      | cons d s =>
        by_cases hd : c = 13 ∧ d = 10
        · obtain ⟨rfl, rfl⟩ := hd
          rw [blanksN_13, cutN, if_pos rfl]
          simp only [Option.map_some]
          rw [if_pos (by rfl)]
          simp only [List.length_cons, List.length_nil]; omega
        · rw [blanksN, if_neg hc, if_neg hd]
          cases hk : cutN 10 (d :: s) with
          | none => rfl
          | some p =>
            simp only [Option.map_some]
            rw [if_neg]
            rw [trimR_nil]
            rintro (h | h)
            · cases h
            · injection h with h1 h2
              obtain ⟨h3, _⟩ := cutN_some (a := p.1) (r := p.2) (by rw [hk])
              rw [h2] at h3
              injection h3 with h3 _
              exact hd ⟨h1, h3⟩
theorem blanksN_ends : ∀ (s : Bs) (i : Nat), i < blanksN s → s.getD i 0 = 10 ∨ s.getD i 0 = 13
  | [], i, h => by simp [blanksN] at h
  | [c], i, h => by
    rw [blanksN] at h
    split at h
    · rename_i hc; have : i = 0 := by omega
      subst this; exact .inl hc
    · omega
  | c :: d :: s, i, h => by
    rw [blanksN] at h
    split at h
    · rename_i hc
      cases i with
      | zero => exact .inl hc
      | succ i => simpa using blanksN_ends (d :: s) i (by omega)
    · split at h
      · rename_i hc
        match i, h with
        | 0, h => exact .inr hc.1
        | 1, h => exact .inl hc.2
        | i + 2, h => simpa using blanksN_ends s i (by omega)
      · omega
/-- What ends blanks stays their end, unless nothing, or 0d alone, is left. -/
theorem blanksN_app : ∀ (s t : Bs), s.drop (blanksN s) ≠ [] → s.drop (blanksN s) ≠ [13] → blanksN (s ++ t) = blanksN s
  | [], t, h, _ => by simp at h
  | [c], t, h, h2 => by
    rw [blanksN] at h h2 ⊢
    split at h
    · simp at h
    · rename_i hc
      rw [if_neg hc] at h2
      simp at h2
      rw [if_neg hc]
      exact blanksN_x hc (.inl h2)
  | c :: d :: s, t, h, h2 => by
    rw [blanksN] at h h2 ⊢
    rw [List.cons_append, List.cons_append, blanksN]
    split at h
    · rename_i hc
      rw [if_pos hc] at h2
      have := blanksN_app (d :: s) t (by simpa using h) (by simpa using h2)
      rw [List.cons_append] at this
      rw [if_pos hc, if_pos hc, this]
    · rename_i hc
      rw [if_neg hc] at h2 ⊢
      rw [if_neg hc]
      split at h
      · rename_i hd
        rw [if_pos hd] at h2
        rw [if_pos hd, if_pos hd, blanksN_app s t (by simpa using h) (by simpa using h2)]
      · rename_i hd
        rw [if_neg hd, if_neg hd]

def isUp (c : UInt8) : Bool := decide (65 ≤ c.toNat) && decide (c.toNat ≤ 90)
def isCmd (l : Bs) : Bool := l.all isUp && (decide (l ≠ []) && decide (l.length ≤ 16))
def CONN : Bs := [67, 79, 78, 78, 69, 67, 84]
def CONND : Bs := [67, 79, 78, 78, 69, 67, 84, 69, 68]
def bare (c : Bs) : Bool := decide (c = CONN) || decide (c = CONND)
/-- The byte that a letter writes. -/
def letter (d : UInt8) : Option UInt8 := if d = 92 then some 92 else if d = 114 then some 13 else if d = 110 then some 10 else if d = 99 then some 58 else none
def unm : Bs → Option Bs
  | [] => some []
  | [c] => if c = 92 then none else some [c]
  | c :: d :: s => if c = 92 then (letter d).bind fun x => (unm s).map (x :: ·) else (unm (d :: s)).map (c :: ·)
abbrev Hd := Bs × Bs
def hdrL (b : Bool) (l : Bs) : Option Hd := match cutN 58 l with
  | none => none
  | some (n, t) => if n = [] then none else if b then some (n, t) else match unm n with
    | none => none
    | some n' => (unm t).map fun t' => (n', t')
def hdrsL (b : Bool) : List Bs → Option (List Hd)
  | [] => some []
  | l :: s => (hdrL b l).bind fun h => (hdrsL b s).map (h :: ·)
def getL (n : Bs) : List Hd → Option Bs
  | [] => none
  | h :: s => if h.1 = n then some h.2 else getL n s
/-- content-length. -/
def CL : Bs := [99, 111, 110, 116, 101, 110, 116, 45, 108, 101, 110, 103, 116, 104]
def lenL (t : Bs) : Option Nat := match atoiAll t with
  | .ok v => if 0 ≤ v ∧ v ≤ 1024 ∧ itoa v = t then some v.toNat else none
  | _ => none
def upTo (n : Nat) (r : Bs) : Except Int (Bs × Bs) := if r.length ≤ n then .error 41 else if r.getD n 0 = 0 then .ok (r.take n, r.drop (n + 1)) else .error 40
def bodyL (hs : List Hd) (r : Bs) : Except Int (Bs × Bs) := match getL CL hs with
  | some t => match lenL t with
    | some n => upTo n r
    | none => .error 40
  | none => match cutN 0 (r.take 1025) with
    | some (a, _) => upTo a.length r
    | none => if r.length ≤ 1024 then .error 41 else .error 40
structure Fr where
  cmd : Bs
  hs : List Hd
  body : Bs
def Fr.z : Fr := ⟨[], [], []⟩
def readL (s : Bs) : Except Int (Fr × Bs) := match headA [] [] s with
  | none => .error 41
  | some ([], _) => .error 40
  | some (c :: ls, r) => if isCmd c = true ∧ ls.length ≤ 32 then match hdrsL (bare c) ls with
      | none => .error 40
      | some H => match bodyL H r with
        | .error e => .error e
        | .ok (b, r') => .ok (⟨c, H, b⟩, r')
    else .error 40
def nextL (s : Bs) : Fr × Nat × Int :=
  match readL ((s.drop (blanksN s)).take 16384) with
  | .ok (f, r) => (f, blanksN s + (((s.drop (blanksN s)).take 16384).length - r.length), 0)
  | .error e => if e = 41 ∧ (s.drop (blanksN s)).length < 16384 then (Fr.z, blanksN s, 41) else (Fr.z, 0, 40)
end Go.Proofs.YtfdbekfbbihdgaaDoor
