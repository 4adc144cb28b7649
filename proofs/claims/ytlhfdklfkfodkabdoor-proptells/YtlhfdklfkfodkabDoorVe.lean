
/- What a text is worth: read back from its bytes. -/
import Derived.Test.YtlhfdklfkfodkabDoorEi
set_option maxRecDepth 100000
namespace Go.Proofs.YtlhfdklfkfodkabDoor.Ff
open Go.Lib

/-- A list of digits. -/
def DgL (l : List UInt8) : Prop := ∀ c ∈ l, 48 ≤ c.toNat ∧ c.toNat ≤ 57
/-- A numeral's number. -/
def numL (l : List UInt8) : Nat := l.foldl (fun a c => a * 10 + (c.toNat - 48)) 0
theorem foldl_num (l : List UInt8) : ∀ a, l.foldl (fun a c => a * 10 + (c.toNat - 48)) a = a * 10 ^ l.length + numL l := by
  induction l with
  | nil => intro a; simp [numL]
  | cons c l ih =>
    intro a
    unfold numL
    simp only [List.foldl_cons, List.length_cons]
    rw [ih, ih (0 * 10 + _), Nat.pow_succ]
    rw [Nat.zero_mul, Nat.zero_add, Nat.add_mul, Nat.mul_assoc, Nat.mul_comm 10]
    omega
theorem numL_append (a b : List UInt8) : numL (a ++ b) = numL a * 10 ^ b.length + numL b := by
  unfold numL
  rw [List.foldl_append, foldl_num]
  rfl
theorem numL_zeros (n : Nat) : numL (List.replicate n 48) = 0 := by
  induction n with
  | zero => rfl
  | succ n ih => rw [List.replicate_succ', numL_append, ih]; simp [numL]
theorem numL_one (c : UInt8) : numL [c] = c.toNat - 48 := by simp [numL]

/-- Reading: digits ahead of an 'e', how many behind the point, what stands behind the 'e'. -/
def mantL (U : List UInt8) : List UInt8 := U.takeWhile (fun c => c != 101)
def restL (U : List UInt8) : List UInt8 := U.dropWhile (fun c => c != 101)
def fracL (U : List UInt8) : Nat := ((mantL U).dropWhile (fun c => c != 46)).length - 1
def wholeL (U : List UInt8) : Nat := numL ((mantL U).filter (fun c => c != 46))
def expL (U : List UInt8) : Int := match restL U with
  | _ :: s :: l => if s = 45 then -(numL l : Int) else (numL l : Int)
  | _ => 0
def valL (U : List UInt8) : Nat := wholeL U * 10 ^ (expL U - (fracL U : Int) + 400).toNat

theorem dg_ne {c : UInt8} (h : 48 ≤ c.toNat ∧ c.toNat ≤ 57) : (c != 101) = true ∧ (c != 46) = true := by
  constructor
  · rw [bne_iff_ne]; intro e; subst e; revert h; decide
  · rw [bne_iff_ne]; intro e; subst e; revert h; decide
theorem DgL.app {a b : List UInt8} (ha : DgL a) (hb : DgL b) : DgL (a ++ b) := fun c hc => by
  rcases List.mem_append.1 hc with h | h
  · exact ha c h
  · exact hb c h
theorem DgL.take {a : List UInt8} (h : DgL a) (n : Nat) : DgL (a.take n) := fun c hc => h c (List.mem_of_mem_take hc)
theorem DgL.drop {a : List UInt8} (h : DgL a) (n : Nat) : DgL (a.drop n) := fun c hc => h c (List.mem_of_mem_drop hc)
theorem DgL.zeros (n : Nat) : DgL (List.replicate n 48) := fun c hc => by
  have := (List.mem_replicate.1 hc).2
  subst this
  decide
theorem DgL.one {c : UInt8} (h : 48 ≤ c.toNat ∧ c.toNat ≤ 57) : DgL [c] := fun d hd => by
  rw [List.mem_singleton] at hd
  subst hd
  exact h
theorem DgL.filter {a : List UInt8} (h : DgL a) : a.filter (fun c => c != 46) = a := List.filter_eq_self.2 fun c hc => (dg_ne (h c hc)).2
theorem DgL.tw {a : List UInt8} (h : DgL a) (b : List UInt8) : (a ++ b).takeWhile (fun c => c != 101) = a ++ b.takeWhile (fun c => c != 101) :=
  List.takeWhile_append_of_pos fun c hc => (dg_ne (h c hc)).1
theorem DgL.dw {a : List UInt8} (h : DgL a) (b : List UInt8) : (a ++ b).dropWhile (fun c => c != 101) = b.dropWhile (fun c => c != 101) :=
  List.dropWhile_append_of_pos fun c hc => (dg_ne (h c hc)).1
theorem DgL.dw46 {a : List UInt8} (h : DgL a) (b : List UInt8) : (a ++ b).dropWhile (fun c => c != 46) = b.dropWhile (fun c => c != 46) :=
  List.dropWhile_append_of_pos fun c hc => (dg_ne (h c hc)).2

/-- Digits, a point, digits, and what follows from an 'e' on or nothing. -/
theorem val_dot {a b x : List UInt8} (ha : DgL a) (hb : DgL b) (hx : x = [] ∨ ∃ l, x = 101 :: l) : mantL (a ++ (46 :: b) ++ x) = a ++ 46 :: b ∧ restL (a ++ (46 :: b) ++ x) = x := by
  have e : a ++ (46 :: b) ++ x = a ++ ([46] ++ (b ++ x)) := by simp
  have t1 : ([46] ++ (b ++ x)).takeWhile (fun c : UInt8 => c != 101) = 46 :: (b ++ x).takeWhile (fun c => c != 101) := by simp
  have t2 : ([46] ++ (b ++ x)).dropWhile (fun c : UInt8 => c != 101) = (b ++ x).dropWhile (fun c => c != 101) := by simp
  unfold mantL restL
  rw [e, ha.tw, ha.dw, t1, t2, hb.tw, hb.dw]
  rcases hx with rfl | ⟨l, rfl⟩
  · simp
  · simp
theorem val_plain {a x : List UInt8} (ha : DgL a) (hx : x = [] ∨ ∃ l, x = 101 :: l) : mantL (a ++ x) = a ∧ restL (a ++ x) = x := by
  unfold mantL restL
  rw [ha.tw, ha.dw]
  rcases hx with rfl | ⟨l, rfl⟩
  · simp
  · simp
theorem frac_dot {a b x : List UInt8} (ha : DgL a) (hb : DgL b) (hx : x = [] ∨ ∃ l, x = 101 :: l) : fracL (a ++ (46 :: b) ++ x) = b.length ∧ wholeL (a ++ (46 :: b) ++ x) = numL (a ++ b) := by
  unfold fracL wholeL
  rw [(val_dot ha hb hx).1, ha.dw46, List.filter_append, ha.filter]
  constructor
  · simp
  · have : (46 :: b).filter (fun c : UInt8 => c != 46) = b.filter (fun c => c != 46) := by simp
    rw [this, hb.filter]
theorem frac_plain {a x : List UInt8} (ha : DgL a) (hx : x = [] ∨ ∃ l, x = 101 :: l) : fracL (a ++ x) = 0 ∧ wholeL (a ++ x) = numL a := by
  unfold fracL wholeL
  rw [(val_plain ha hx).1, ha.filter]
  refine ⟨?_, rfl⟩
  have := ha.dw46 []
  rw [List.append_nil] at this
  rw [this]
  rfl
theorem c8_num {n : Nat} (h : n < 10) : numL [c8 (48 + n)] = n := by
  have e := c8_val (48 + n) (by omega)
  rw [numL_one]
  omega
theorem numL_cons (c : UInt8) (l : List UInt8) : numL (c :: l) = (c.toNat - 48) * 10 ^ l.length + numL l := by
  rw [show c :: l = [c] ++ l from rfl, numL_append, numL_one]
theorem c8_nat {n : Nat} (h : n < 10) : (c8 (48 + n)).toNat - 48 = n := by
  have e := c8_val (48 + n) (by omega)
  omega
theorem exp_read (x : Int) (h0 : -400 ≤ x) (h1 : x ≤ 400) (a : List UInt8) (ha : restL a = 101 :: expB x) : expL a = x := by
  unfold expL
  rw [ha]
  unfold expB
  dsimp only
  have hn : ∀ l : List UInt8, numL l = x.natAbs → (if sgX x = 45 then -(numL l : Int) else (numL l : Int)) = x := by
    intro l hl
    rw [hl]
    unfold sgX
    by_cases hx : x < 0
    · rw [if_pos hx, if_pos rfl]; omega
    · rw [if_neg hx, if_neg (by decide)]; omega
  by_cases c1 : x.natAbs < 10
  · rw [if_pos c1]
    refine hn _ ?_
    rw [numL_cons, c8_num c1]
    simp
  · rw [if_neg c1]
    by_cases c2 : x.natAbs < 100
    · rw [if_pos c2]
      refine hn _ ?_
      rw [numL_cons, c8_num (by omega), c8_nat (by omega)]
      simp
      omega
    · rw [if_neg c2]
      refine hn _ ?_
      rw [numL_cons, numL_cons, c8_num (by omega), c8_nat (by omega), c8_nat (by omega)]
      simp
      omega
end Go.Proofs.YtlhfdklfkfodkabDoor.Ff
