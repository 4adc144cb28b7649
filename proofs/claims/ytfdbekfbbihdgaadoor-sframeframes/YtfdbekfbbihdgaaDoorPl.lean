
/- Ends of lines ahead, and 0d ahead of the ends of lines. No memory in this text. -/
import Derived.Test.YtfdbekfbbihdgaaDoorPb
namespace Go.Proofs.YtfdbekfbbihdgaaDoor
open Go.Lib
set_option linter.unusedSimpArgs false

/-- The k-th end of a line that is put ahead. -/
def endK (k : Nat) : Bs := if k % 2 = 0 then [13, 10] else [10]
def leadL : Nat → Bs
  | 0 => []
  | k + 1 => leadL k ++ endK k
theorem leadL_len : ∀ k, (leadL k).length ≤ 2 * k
  | 0 => Nat.le_refl _
  | k + 1 => by
    have := leadL_len k
    rw [leadL, List.length_append]
    have : (endK k).length ≤ 2 := by unfold endK; split <;> decide
    omega
theorem blanks_lead : ∀ (k : Nat) (R : Bs), blanksN (leadL k ++ R) = (leadL k).length + blanksN R
  | 0, R => by simp [leadL]
  | k + 1, R => by
    rw [leadL, List.append_assoc, blanks_lead k, List.length_append]
    have : blanksN (endK k ++ R) = (endK k).length + blanksN R := by
      unfold endK
      split
      · show blanksN (13 :: 10 :: R) = _
        rw [blanksN_13]
        simp only [List.length_cons, List.length_nil]; omega
      · show blanksN (10 :: R) = _
        rw [blanksN_10]
        simp only [List.length_cons, List.length_nil]; omega
    omega
theorem next_lead {e : Bs} (he : Eol e) {f : Fr} (h : canL f = true) (hl : (writeE e f).length ≤ 16384) (k : Nat) : nextL (leadL k ++ writeE e f) = (f, (leadL k ++ writeE e f).length, 0) := by
  have hb := blanks_zero (e := e) h []
  rw [List.append_nil] at hb
  have hr := read_back he h []
  rw [List.append_nil] at hr
  unfold nextL
  rw [blanks_lead, hb, Nat.add_zero, List.drop_left, List.take_of_length_le hl, hr]
  simp
/-- 0d put ahead of 0a, in the first h bytes. -/
def accE : Nat → Bs → Bs
  | _, [] => []
  | 0, x :: l => x :: accE 0 l
  | h + 1, x :: l => (if x = 10 then [13, 10] else [x]) ++ accE h l
theorem accE_zero : ∀ l, accE 0 l = l
  | [] => rfl
  | x :: l => by rw [accE, accE_zero l]
theorem accE_snoc (x : UInt8) : ∀ (l : Bs) (h : Nat), accE h (l ++ [x]) = accE h l ++ (if x = 10 ∧ l.length < h then [13, 10] else [x])
  | [], 0 => by simp [accE]
  | [], h + 1 => by simp [accE]
  | y :: l, 0 => by
    simp only [List.cons_append, accE]
    rw [accE_snoc x l 0]
    simp
  | y :: l, h + 1 => by
    simp only [List.cons_append, accE]
    rw [accE_snoc x l h, List.append_assoc]
    simp
theorem accE_take (L : Bs) (h k : Nat) (hk : k < L.length) : accE h (L.take (k + 1)) = accE h (L.take k) ++ (if L[k] = 10 ∧ k < h then [13, 10] else [L[k]]) := by
  rw [List.take_succ_eq_append_getElem hk, accE_snoc]
  have : (L.take k).length = k := by rw [List.length_take]; omega
  rw [this]
theorem accE_len : ∀ (l : Bs) (h : Nat), (accE h l).length ≤ 2 * l.length
  | [], h => by simp [accE]
  | x :: l, 0 => by rw [accE_zero]; omega
  | x :: l, h + 1 => by
    have := accE_len l h
    rw [accE, List.length_append]
    split <;> simp only [List.length_cons, List.length_nil] <;> omega
theorem accE_app (B : Bs) : ∀ A : Bs, accE A.length (A ++ B) = accE A.length A ++ B
  | [] => by simp [accE, accE_zero]
  | x :: A => by
    simp only [List.cons_append, List.length_cons, accE]
    rw [accE_app B A, List.append_assoc]
def eolL (l : Bs) : Bs := l.flatMap fun x => if x = 10 then [13, 10] else [x]
theorem accE_eol : ∀ A : Bs, accE A.length A = eolL A
  | [] => rfl
  | x :: A => by
    simp only [List.length_cons, accE]
    rw [accE_eol A]
    rfl
theorem eol_app (A B : Bs) : eolL (A ++ B) = eolL A ++ eolL B := by simp [eolL]
theorem eol_line : ∀ {l : Bs}, 10 ∉ l → eolL l = l
  | [], _ => rfl
  | x :: l, h => by
    simp only [List.mem_cons, not_or] at h
    have hx : x ≠ 10 := fun e => h.1 e.symm
    show (if x = 10 then [13, 10] else [x]) ++ eolL l = _
    rw [if_neg hx, eol_line h.2]
    rfl
theorem eol_hds (b : Bool) : ∀ {H : List Hd}, (∀ h ∈ H, Line (lineL b h)) → eolL (hdsE [10] b H) = hdsE [13, 10] b H
  | [], _ => rfl
  | h :: H, hl => by
    rw [hdsE, hdsE, eol_app, eol_app, eol_line (hl h (by simp)).2.1, eol_hds b (fun x hx => hl x (by simp [hx]))]
    rfl
theorem eol_head {f : Fr} (h : canL f = true) : eolL (headE [10] f) = headE [13, 10] f := by
  obtain ⟨h1, _, _, h4, _⟩ := can_parts h
  unfold headE
  rw [eol_app, eol_app, eol_app, eol_line (cmd_ok h1).1.2.1, eol_hds _ (hdrs_ok h4).2]
  rfl
/-- What the whole comes to. -/
theorem accE_all {f : Fr} (h : canL f = true) : accE ((writeL f).length - 1 - f.body.length) (writeL f) = writeE [13, 10] f := by
  have e : (writeL f).length - 1 - f.body.length = (headE [10] f).length := by
    rw [← writeE_10]
    unfold writeE
    simp only [List.length_append, List.length_cons, List.length_nil]
    omega
  rw [e, ← writeE_10]
  unfold writeE
  rw [accE_app, accE_eol, eol_head h]
end Go.Proofs.YtfdbekfbbihdgaaDoor
