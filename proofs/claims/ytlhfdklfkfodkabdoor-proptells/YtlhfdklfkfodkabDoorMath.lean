
/- Plain facts on the bytes of layer 1, with no condition: a numeral's bytes are digits, with a sign ahead perhaps; numerals tell their numbers; two rows of parts have the same bytes just if they are the same. -/
import Derived.Lib.ItoaNum
namespace Go.Proofs.YtlhfdklfkfodkabDoor
open Go.Lib

/-- What digits spell. -/
def dv (l : List UInt8) : Nat := l.foldl (fun a c => a * 10 + (c.toNat - 48)) 0
theorem dv_snoc (l : List UInt8) (c : UInt8) : dv (l ++ [c]) = dv l * 10 + (c.toNat - 48) := by simp [dv, List.foldl_append]
theorem toNat_dig (d : Nat) (h : d < 10) : (UInt8.ofNat (48 + d)).toNat = 48 + d := by
  rw [UInt8.toNat_ofNat']; omega
theorem dv_dec (u : Nat) : dv (decDigits u) = u := by
  induction u using Nat.strongRecOn with
  | _ u ih =>
    by_cases h : u < 10
    · rw [decDigits, dif_pos h]
      have e := toNat_dig u h
      simp only [dv, List.foldl_cons, List.foldl_nil, e]; omega
    · rw [decDigits, dif_neg h, dv_snoc, ih (u / 10) (by omega), toNat_dig _ (Nat.mod_lt _ (by decide))]; omega
theorem dec_mem (u : Nat) : ∀ c ∈ decDigits u, 48 ≤ c.toNat ∧ c.toNat ≤ 57 := by
  induction u using Nat.strongRecOn with
  | _ u ih =>
    intro c hc
    by_cases h : u < 10
    · rw [decDigits, dif_pos h] at hc
      have e := toNat_dig u h
      simp only [List.mem_singleton] at hc
      subst hc; omega
    · rw [decDigits, dif_neg h] at hc
      rcases List.mem_append.1 hc with hc | hc
      · exact ih (u / 10) (by omega) c hc
      · have e := toNat_dig (u % 10) (Nat.mod_lt _ (by decide))
        simp only [List.mem_singleton] at hc
        subst hc; omega
theorem itoa_mem (n : Int) : ∀ c ∈ itoa n, c.toNat = 45 ∨ (48 ≤ c.toNat ∧ c.toNat ≤ 57) := by
  intro c hc
  unfold itoa at hc
  split at hc
  · rcases List.mem_cons.1 hc with rfl | hc
    · exact .inl rfl
    · exact .inr (dec_mem _ c hc)
  · exact .inr (dec_mem _ c hc)
theorem itoa_lt (n : Int) : ∀ c ∈ itoa n, c.toNat < 58 := fun c hc => by
  rcases itoa_mem n c hc with h | h <;> omega
theorem itoa_inj {m n : Int} (h : itoa m = itoa n) : m = n := by
  unfold itoa at h
  split at h <;> split at h
  · have e := congrArg dv (List.cons.inj h).2
    rw [dv_dec, dv_dec] at e; omega
  · have : (45 : UInt8) ∈ decDigits n.toNat := by rw [← h]; simp
    have := dec_mem _ _ this
    have e : (45 : UInt8).toNat = 45 := rfl
    omega
  · have : (45 : UInt8) ∈ decDigits m.toNat := by rw [h]; simp
    have := dec_mem _ _ this
    have e : (45 : UInt8).toNat = 45 := rfl
    omega
  · have e := congrArg dv h
    rw [dv_dec, dv_dec] at e; omega

/-- A number's bytes; numbers' bytes; a text's bytes. -/
def encN (n : Int) : List UInt8 := itoa n ++ [59]
def encNs (zs : List Int) : List UInt8 := zs.flatMap encN
def encS (s : List UInt8) : List UInt8 := itoa (s.length : Int) ++ 58 :: (s ++ [44])
theorem encNs_snoc (zs : List Int) (n : Int) : encNs (zs ++ [n]) = encNs zs ++ (itoa n ++ [59]) := by simp [encNs, encN]

/-- A part: whether it is a text, the number, the text. -/
abbrev Pt := Bool × Int × List UInt8
def encP (p : Pt) : List UInt8 := if p.1 then encS p.2.2 else encN p.2.1
def encAll (l : List Pt) : List UInt8 := l.flatMap encP
theorem encAll_nil : encAll [] = [] := rfl
theorem encAll_cons (p : Pt) (l : List Pt) : encAll (p :: l) = encP p ++ encAll l := by simp [encAll]
theorem encAll_snoc (l : List Pt) (p : Pt) : encAll (l ++ [p]) = encAll l ++ encP p := by simp [encAll]
def eqP (p q : Pt) : Bool := (p.1 == q.1) && ((p.1 && (p.2.2 == q.2.2)) || (!p.1 && (p.2.1 == q.2.1)))

theorem cut {x y : List UInt8} {c d : UInt8} {u v : List UInt8} (hx : ∀ a ∈ x, a.toNat < 58) (hy : ∀ a ∈ y, a.toNat < 58) (hc : 58 ≤ c.toNat) (hd : 58 ≤ d.toNat)
    (h : x ++ c :: u = y ++ d :: v) : x = y ∧ c = d ∧ u = v := by
  induction x generalizing y with
  | nil =>
    cases y with
    | nil => simp only [List.nil_append, List.cons.injEq] at h; exact ⟨rfl, h.1, h.2⟩
    | cons b y =>
      simp only [List.nil_append, List.cons_append, List.cons.injEq] at h
      have := hy b (by simp)
      rw [← h.1] at this; omega
  | cons a x ih =>
    cases y with
    | nil =>
      simp only [List.nil_append, List.cons_append, List.cons.injEq] at h
      have := hx a (by simp)
      rw [h.1] at this; omega
    | cons b y =>
      simp only [List.cons_append, List.cons.injEq] at h
      obtain ⟨e1, e2, e3⟩ := ih (fun a ha => hx a (List.mem_cons_of_mem _ ha)) (fun a ha => hy a (List.mem_cons_of_mem _ ha)) h.2
      exact ⟨by rw [h.1, e1], e2, e3⟩

theorem encP_ne (p : Pt) (l : List UInt8) : encP p ++ l ≠ [] := by
  unfold encP encS encN
  split <;> simp

theorem encP_cancel {p q : Pt} {u v : List UInt8} (h : encP p ++ u = encP q ++ v) : eqP p q = true ∧ u = v := by
  obtain ⟨tp, np, sp⟩ := p
  obtain ⟨tq, nq, sq⟩ := q
  cases tp <;> cases tq
  all_goals simp only [encP, encS, encN, Bool.false_eq_true, if_false, if_true, List.append_assoc, List.cons_append, List.nil_append] at h
  · obtain ⟨e1, _, e3⟩ := cut (itoa_lt _) (itoa_lt _) (by decide) (by decide) h
    have := itoa_inj e1
    subst this
    exact ⟨by simp [eqP], e3⟩
  · obtain ⟨_, e2, _⟩ := cut (itoa_lt _) (itoa_lt _) (by decide) (by decide) h
    exact absurd e2 (by decide)
  · obtain ⟨_, e2, _⟩ := cut (itoa_lt _) (itoa_lt _) (by decide) (by decide) h
    exact absurd e2 (by decide)
  · obtain ⟨e1, _, e3⟩ := cut (itoa_lt _) (itoa_lt _) (by decide) (by decide) h
    have e := itoa_inj e1
    obtain ⟨e4, e5⟩ := List.append_inj e3 (by omega)
    subst e4
    simp only [List.cons.injEq, true_and] at e5
    exact ⟨by simp [eqP], e5⟩

theorem encP_eq {p q : Pt} (h : eqP p q = true) : encP p = encP q := by
  obtain ⟨tp, np, sp⟩ := p
  obtain ⟨tq, nq, sq⟩ := q
  cases tp <;> cases tq <;> simp [eqP] at h <;> simp [encP, h]

theorem tells (a b : List Pt) : encAll a = encAll b ↔ (a.length = b.length ∧ (a.zip b).all (fun x => eqP x.1 x.2) = true) := by
  induction a generalizing b with
  | nil =>
    cases b with
    | nil => simp
    | cons q b => rw [encAll_nil, encAll_cons]; simp only [List.length_nil, List.length_cons]; exact ⟨fun h => absurd h.symm (encP_ne _ _), fun h => by omega⟩
  | cons p a ih =>
    cases b with
    | nil => rw [encAll_nil, encAll_cons]; simp only [List.length_nil, List.length_cons]; exact ⟨fun h => absurd h (encP_ne _ _), fun h => by omega⟩
    | cons q b =>
      rw [encAll_cons, encAll_cons]
      simp only [List.length_cons, List.zip_cons_cons, List.all_cons, Bool.and_eq_true]
      constructor
      · intro h
        obtain ⟨h1, h2⟩ := encP_cancel h
        obtain ⟨h3, h4⟩ := (ih b).1 h2
        exact ⟨by omega, h1, h4⟩
      · rintro ⟨h1, h2, h3⟩
        rw [encP_eq h2, (ih b).2 ⟨by omega, h3⟩]
end Go.Proofs.YtlhfdklfkfodkabDoor
