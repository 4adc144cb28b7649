/- Plain facts on reading, for ints of 64 bits: what was put is read as it is; of a proper beginning something isn't there; what can be read, put anew, is the bytes that were read. -/
import Derived.Test.YtbdfhmffdnlbfaaDoorText
namespace Go.Proofs.YtbdfhmffdnlbfaaDoor
open Go.Lib

/-- An int of 64 bits. -/
def I64 (n : Int) : Prop := -9223372036854775808 ≤ n ∧ n ≤ 9223372036854775807

def dvF (acc : Nat) (l : List UInt8) : Nat := l.foldl (fun a c => a * 10 + (c.toNat - 48)) acc
theorem dvF_ge (l : List UInt8) : ∀ acc, acc ≤ dvF acc l := by
  induction l with
  | nil => intro acc; exact Nat.le_refl _
  | cons c r ih => intro acc; have := ih (acc * 10 + (c.toNat - 48)); simp only [dvF, List.foldl_cons] at this ⊢; omega
theorem parse_ok (l : List UInt8) : ∀ acc, (∀ c ∈ l, 48 ≤ c.toNat ∧ c.toNat ≤ 57) → dvF acc l < 18446744073709551616 → parseUint10 acc l = .ok (dvF acc l) := by
  induction l with
  | nil => intro acc _ _; rfl
  | cons c r ih =>
    intro acc hd hlt
    have hc := hd c (by simp)
    have hge := dvF_ge r (acc * 10 + (c.toNat - 48))
    have e : dvF acc (c :: r) = dvF (acc * 10 + (c.toNat - 48)) r := rfl
    rw [e] at hlt ⊢
    unfold parseUint10
    rw [if_pos hc, if_neg (by omega), if_neg (by omega)]
    exact ih _ (fun x hx => hd x (List.mem_cons_of_mem _ hx)) hlt
theorem dec_ne (u : Nat) : decDigits u ≠ [] := by
  intro h
  have := decDigits_length u
  rw [h, List.length_nil] at this
  have := nDigits_pos u
  omega
theorem mag_dec (u : Nat) (h : u < 18446744073709551616) : parseMag (decDigits u) = .ok u := by
  unfold parseMag
  rw [if_neg (dec_ne u)]
  have e : dvF 0 (decDigits u) = u := dv_dec u
  have := parse_ok (decDigits u) 0 (dec_mem u) (by rw [e]; exact h)
  rw [this, e]
theorem atoi_itoa (n : Int) (h : I64 n) : atoiAll (itoa n) = .ok n := by
  obtain ⟨h0, h1⟩ := h
  by_cases hn : n < 0
  · have e : itoa n = 45 :: decDigits n.natAbs := by unfold itoa; rw [if_pos hn]
    have hm := mag_dec n.natAbs (by omega)
    have e45 : (45 : UInt8).toNat = 45 := rfl
    rw [e]
    simp only [atoiAll, e45, or_true, if_true, hm]
    rw [if_neg (by simp), if_neg (by omega)]
    simp
    omega
  · have e : itoa n = decDigits n.toNat := by unfold itoa; rw [if_neg hn]
    have hm := mag_dec n.toNat (by omega)
    have hmem := dec_mem n.toNat
    rw [e]
    cases hd : decDigits n.toNat with
    | nil => exact absurd hd (dec_ne _)
    | cons c r =>
      rw [hd] at hm hmem
      have hc := hmem c (by simp)
      have h43 : ¬ (c.toNat = 43 ∨ c.toNat = 45) := by omega
      have h45 : ¬ c.toNat = 45 := by omega
      simp only [atoiAll]
      rw [if_neg h43, hm]
      simp only
      rw [if_neg (by omega), if_neg (by omega), if_neg h45, Int.toNat_of_nonneg (by omega)]

theorem index_app (x : List UInt8) (c : UInt8) (r : List UInt8) (h : c ∉ x) : indexByte (x ++ c :: r) c = x.length := by
  induction x with
  | nil => simp [indexByte]
  | cons a x ih =>
    have ha : ¬ a = c := fun e => h (by simp [e])
    have := ih (fun hx => h (List.mem_cons_of_mem _ hx))
    simp only [List.cons_append, indexByte, beq_iff_eq, ha, if_false, this, List.length_cons]
    rw [if_neg (by omega)]
    omega
theorem index_none (x : List UInt8) (c : UInt8) (h : c ∉ x) : indexByte x c = -1 := by
  induction x with
  | nil => rfl
  | cons a x ih =>
    have ha : ¬ a = c := fun e => h (by simp [e])
    have := ih (fun hx => h (List.mem_cons_of_mem _ hx))
    simp [indexByte, ha, this]
theorem itoa_not (n : Int) (c : UInt8) (hc : 58 ≤ c.toNat) : c ∉ itoa n := fun h => by
  have := itoa_lt n c h
  omega

theorem digs_enc (n : Int) (hn : I64 n) (c : UInt8) (hc : 58 ≤ c.toNat) (r : List UInt8) : digs (itoa n ++ c :: r) c = some (n, (itoa n).length) := by
  have hi := index_app (itoa n) c r (itoa_not n c hc)
  have hl := itoa_length n hn.1 hn.2
  unfold digs
  rw [hi, if_neg (by omega)]
  simp [atoi_itoa n hn]
theorem digs_far {l : List UInt8} {c : UInt8} (h : c ∉ l) : digs l c = none := by
  unfold digs
  rw [index_none l c h]
  simp
theorem digs_inv {l : List UInt8} {c : UInt8} {n : Int} {i : Nat} (h : digs l c = some (n, i)) : l = itoa n ++ c :: l.drop (i + 1) ∧ I64 n := by
  unfold digs at h
  split at h
  · cases h
  · rename_i hf
    obtain ⟨k, hk⟩ := Int.eq_ofNat_of_zero_le (show 0 ≤ indexByte l c by omega)
    have hs := (indexByte_some hk).1
    obtain ⟨hil, hg⟩ := List.getElem?_eq_some_iff.1 hs
    split at h
    · rename_i v hv
      have hb := atoiAll_bounds hv
      split at h
      · rename_i he
        simp only [Option.some.injEq, Prod.mk.injEq] at h
        obtain ⟨rfl, rfl⟩ := h
        have ek : (indexByte l c).toNat = k := by omega
        rw [ek] at he ⊢
        refine ⟨?_, hb⟩
        rw [he, ← hg]
        simp
      · cases h
    · cases h

theorem numR_enc (least n : Int) (hn : I64 n) (hl : least ≤ n) (r : List UInt8) : numR least false (encN n ++ r) = (n, false, r) := by
  have e : encN n ++ r = itoa n ++ 59 :: r := by simp [encN]
  have hd := digs_enc n hn 59 (by decide) r
  rw [e]
  unfold numR
  rw [if_neg (by simp), hd]
  simp only
  rw [if_neg (by omega)]
  simp
theorem strR_enc (s : List UInt8) (hs : s.length ≤ 140737488355328) (r : List UInt8) : strR false (encS s ++ r) = (s, false, r) := by
  have e : encS s ++ r = itoa s.length ++ 58 :: (s ++ 44 :: r) := by simp [encS]
  have hd := digs_enc (s.length : Int) ⟨by omega, by omega⟩ 58 (by decide) (s ++ 44 :: r)
  have hdr : (itoa s.length ++ 58 :: (s ++ 44 :: r)).drop ((itoa s.length).length + 1) = s ++ 44 :: r := by simp
  rw [e]
  unfold strR
  rw [if_neg (by simp), hd]
  simp only [hdr, Int.toNat_natCast]
  rw [if_neg]
  · simp
  · simp
    omega

/-- Something is read: a text, a number. -/
def readR (text : Bool) (bad : Bool) (l : List UInt8) : Bool × List UInt8 := if text then (strR bad l).2 else (numR (-9223372036854775808) bad l).2
/-- So many things are read, one behind the other. -/
def readAll : List Bool → Bool → List UInt8 → Bool × List UInt8
  | [], bad, l => (bad, l)
  | t :: ts, bad, l => readAll ts (readR t bad l).1 (readR t bad l).2

theorem readR_bad (t : Bool) (l : List UInt8) : (readR t true l).1 = true := by cases t <;> simp [readR, strR, numR]
theorem readAll_bad (ts : List Bool) : ∀ l, (readAll ts true l).1 = true := by
  induction ts with
  | nil => intro l; rfl
  | cons t ts ih => intro l; simp only [readAll, readR_bad]; exact ih _

/-- What is played of a part. -/
def PtOk (p : Pt) : Prop := I64 p.2.1 ∧ p.2.2.length ≤ 140737488355328
theorem readR_enc (p : Pt) (hp : PtOk p) (r : List UInt8) : readR p.1 false (encP p ++ r) = (false, r) := by
  obtain ⟨t, n, s⟩ := p
  cases t
  · simp [readR, encP, numR_enc _ n hp.1 hp.1.1 r]
  · simp [readR, encP, strR_enc s hp.2 r]

theorem prefix_split {x y l : List UInt8} (h : l <+: x ++ y) (hn : ¬ ∃ m, l = x ++ m) : l <+: x ∧ l.length < x.length := by
  obtain ⟨t, ht⟩ := h
  rcases List.append_eq_append_iff.1 ht with ⟨a, rfl, _⟩ | ⟨b, rfl, _⟩
  · refine ⟨⟨a, rfl⟩, ?_⟩
    rcases a with _ | ⟨c, a⟩
    · exact absurd ⟨[], by simp⟩ hn
    · simp
  · exact absurd ⟨b, rfl⟩ hn

theorem readR_short (p : Pt) (hp : PtOk p) (l : List UInt8) (h : l <+: encP p) (hl : l.length < (encP p).length) : (readR p.1 false l).1 = true := by
  obtain ⟨t, n, s⟩ := p
  cases t
  · have h' : l <+: itoa n ++ [59] := by simpa [encP, encN] using h
    have hm : (59 : UInt8) ∉ l := by
      obtain ⟨u, hu⟩ := h'
      have hx : l <+: itoa n := by
        have e : l.length ≤ (itoa n).length := by simp [encP, encN] at hl; omega
        exact List.prefix_of_prefix_length_le ⟨u, hu⟩ ⟨[59], rfl⟩ e
      obtain ⟨v, hv⟩ := hx
      intro h9
      exact itoa_not n 59 (by decide) (by rw [← hv]; exact List.mem_append_left _ h9)
    simp [readR, numR, digs_far hm]
  · have h' : l <+: itoa s.length ++ 58 :: (s ++ [44]) := by simpa [encP, encS] using h
    have hlen : l.length < (itoa s.length).length + 1 + (s.length + 1) := by simp [encP, encS] at hl; omega
    by_cases hx : ∃ m, l = itoa s.length ++ 58 :: m
    · obtain ⟨m, rfl⟩ := hx
      have hd := digs_enc (s.length : Int) ⟨by have := hp.2; simp only at this; omega, by have := hp.2; simp only at this; omega⟩ 58 (by decide) m
      have hdr : (itoa s.length ++ 58 :: m).drop ((itoa s.length).length + 1) = m := by simp
      have hml : m.length ≤ s.length := by simp at hlen; omega
      simp only [readR, if_true, strR, Bool.false_eq_true, if_false, hd, hdr]
      rw [if_pos (.inr (.inl (by omega)))]
    · have h58 : (58 : UInt8) ∉ l := by
        have e : itoa s.length ++ 58 :: (s ++ [44]) = (itoa s.length ++ [58]) ++ (s ++ [44]) := by simp
        rw [e] at h'
        obtain ⟨h1, h2⟩ := prefix_split h' (by rintro ⟨m, rfl⟩; exact hx ⟨m, by simp⟩)
        have h3 : l <+: itoa s.length := List.prefix_of_prefix_length_le h1 ⟨[58], rfl⟩ (by simp at h2; omega)
        obtain ⟨v, hv⟩ := h3
        intro h9
        exact itoa_not s.length 58 (by decide) (by rw [← hv]; exact List.mem_append_left _ h9)
      simp [readR, strR, digs_far h58]

theorem readAll_short (ps : List Pt) : (∀ p ∈ ps, PtOk p) → ∀ l, l <+: encAll ps → l.length < (encAll ps).length → (readAll (ps.map (·.1)) false l).1 = true := by
  induction ps with
  | nil => intro _ l _ h; simp [encAll] at h
  | cons p ps ih =>
    intro hp l hpre hl
    rw [encAll_cons] at hpre hl
    have hok := hp p (by simp)
    simp only [List.map_cons, readAll]
    by_cases hx : ∃ m, l = encP p ++ m
    · obtain ⟨m, rfl⟩ := hx
      rw [readR_enc p hok m]
      exact ih (fun q hq => hp q (List.mem_cons_of_mem _ hq)) m ((List.prefix_append_right_inj _).1 hpre) (by simp at hl; omega)
    · obtain ⟨h1, h2⟩ := prefix_split hpre hx
      rw [readR_short p hok l h1 h2]
      exact readAll_bad _ _
end Go.Proofs.YtbdfhmffdnlbfaaDoor
