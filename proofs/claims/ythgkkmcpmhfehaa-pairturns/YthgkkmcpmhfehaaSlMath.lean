/- Plain mathematics of the sums: their halves, steps, pieces; what one changed byte, two turned neighbours or another seed make of them. -/
namespace Go.Proofs.Ythgkkmcpmhfehaa.Sl
/-- One step of the left half, and of the right one. -/
def stL (x : Nat) (c : UInt8) : Nat := (x * 257 + (c.toNat + 1)) % 2147483647
def stR (y : Nat) (c : UInt8) : Nat := (y * 65599 + (c.toNat + 1)) % 2147483647
/-- The halves with bytes behind. -/
def goL (x : Nat) (l : List UInt8) : Nat := l.foldl stL x
def goR (y : Nat) (l : List UInt8) : Nat := l.foldl stR y
/-- A number's halves, and the number of two halves. -/
def haL (n : Nat) : Nat := n / 2147483648 % 2147483648 % 2147483647
def haR (n : Nat) : Nat := n % 2147483648 % 2147483647
def joinN (x y : Nat) : Nat := x * 2147483648 + y
/-- The sum with bytes behind. -/
def addN (n : Nat) (l : List UInt8) : Nat := joinN (goL (haL n) l) (goR (haR n) l)
/-- A seed's rest, and the sum of no bytes. -/
def restN (s : Int) : Nat := (s % 2147483647).toNat
def startN (s : Int) : Nat := joinN (restN s) ((restN s + 1) % 2147483647)

theorem stL_lt (x : Nat) (c : UInt8) : stL x c < 2147483647 := Nat.mod_lt _ (by omega)
theorem stR_lt (x : Nat) (c : UInt8) : stR x c < 2147483647 := Nat.mod_lt _ (by omega)
theorem haL_lt (n : Nat) : haL n < 2147483647 := Nat.mod_lt _ (by omega)
theorem haR_lt (n : Nat) : haR n < 2147483647 := Nat.mod_lt _ (by omega)
theorem restN_lt (s : Int) : restN s < 2147483647 := by unfold restN; omega
theorem goL_lt (l : List UInt8) : ∀ (x : Nat), x < 2147483647 → goL x l < 2147483647 := by
  induction l with
  | nil => intro x h; exact h
  | cons c l ih => intro x _; exact ih _ (stL_lt x c)
theorem goR_lt (l : List UInt8) : ∀ (x : Nat), x < 2147483647 → goR x l < 2147483647 := by
  induction l with
  | nil => intro x h; exact h
  | cons c l ih => intro x _; exact ih _ (stR_lt x c)
theorem goL_append (x : Nat) (l m : List UInt8) : goL x (l ++ m) = goL (goL x l) m := List.foldl_append
theorem goR_append (x : Nat) (l m : List UInt8) : goR x (l ++ m) = goR (goR x l) m := List.foldl_append
theorem goL_cons (x : Nat) (c : UInt8) (l : List UInt8) : goL x (c :: l) = goL (stL x c) l := rfl
theorem goR_cons (x : Nat) (c : UInt8) (l : List UInt8) : goR x (c :: l) = goR (stR x c) l := rfl
theorem haL_join (x y : Nat) (hx : x < 2147483647) (hy : y < 2147483647) : haL (joinN x y) = x := by unfold haL joinN; omega
theorem haR_join (x y : Nat) (hy : y < 2147483647) : haR (joinN x y) = y := by unfold haR joinN; omega
theorem joinN_lt (x y : Nat) (hx : x < 2147483647) (hy : y < 2147483647) : joinN x y < 4611686018427387904 := by unfold joinN; omega
theorem joinN_inj {x y x' y' : Nat} (hy : y < 2147483647) (hy' : y' < 2147483647) (h : joinN x y = joinN x' y') : x = x' ∧ y = y' := by unfold joinN at h; omega
theorem addN_lt (n : Nat) (l : List UInt8) : addN n l < 4611686018427387904 := joinN_lt _ _ (goL_lt l _ (haL_lt n)) (goR_lt l _ (haR_lt n))
theorem addN_append (n : Nat) (l m : List UInt8) : addN n (l ++ m) = addN (addN n l) m := by
  unfold addN
  rw [haL_join _ _ (goL_lt l _ (haL_lt n)) (goR_lt l _ (haR_lt n)), haR_join _ _ (goR_lt l _ (haR_lt n)), goL_append, goR_append]
theorem startN_lt (s : Int) : startN s < 4611686018427387904 := joinN_lt _ _ (restN_lt s) (Nat.mod_lt _ (by omega))
theorem haL_start (s : Int) : haL (startN s) = restN s := haL_join _ _ (restN_lt s) (Nat.mod_lt _ (by omega))
theorem haR_start (s : Int) : haR (startN s) = (restN s + 1) % 2147483647 := haR_join _ _ (Nat.mod_lt _ (by omega))
theorem add_left (n : Nat) (l : List UInt8) : addN n l / 2147483648 = goL (haL n) l := by
  have := goR_lt l _ (haR_lt n); unfold addN joinN; omega
theorem add_right (n : Nat) (l : List UInt8) : addN n l % 2147483648 = goR (haR n) l := by
  have := goR_lt l _ (haR_lt n); unfold addN joinN; omega

theorem stL_inj {x y : Nat} {c : UInt8} (hx : x < 2147483647) (hy : y < 2147483647) (h : stL x c = stL y c) : x = y := by
  unfold stL at h; omega
theorem stR_inj {x y : Nat} {c : UInt8} (hx : x < 2147483647) (hy : y < 2147483647) (h : stR x c = stR y c) : x = y := by
  unfold stR at h; omega
theorem goL_inj (l : List UInt8) : ∀ {x y : Nat}, x < 2147483647 → y < 2147483647 → goL x l = goL y l → x = y := by
  induction l with
  | nil => intro x y _ _ h; exact h
  | cons c l ih => intro x y hx hy h; exact stL_inj hx hy (ih (stL_lt x c) (stL_lt y c) h)
theorem goR_inj (l : List UInt8) : ∀ {x y : Nat}, x < 2147483647 → y < 2147483647 → goR x l = goR y l → x = y := by
  induction l with
  | nil => intro x y _ _ h; exact h
  | cons c l ih => intro x y hx hy h; exact stR_inj hx hy (ih (stR_lt x c) (stR_lt y c) h)
theorem stL_tells {x : Nat} {c d : UInt8} (h : stL x c = stL x d) : c = d := by
  have hc := c.toNat_lt; have hd := d.toNat_lt
  apply UInt8.toNat_inj.1
  unfold stL at h; omega
theorem stR_tells {x : Nat} {c d : UInt8} (h : stR x c = stR x d) : c = d := by
  have hc := c.toNat_lt; have hd := d.toNat_lt
  apply UInt8.toNat_inj.1
  unfold stR at h; omega
theorem stL_turns {x : Nat} {c d : UInt8} (h : stL (stL x c) d = stL (stL x d) c) : c = d := by
  have hc := c.toNat_lt; have hd := d.toNat_lt
  apply UInt8.toNat_inj.1
  unfold stL at h; omega

/-- One byte changed. -/
theorem goL_tells (x : Nat) (l m : List UInt8) (c d : UInt8) (h : goL x (l ++ c :: m) = goL x (l ++ d :: m)) : c = d := by
  rw [goL_append, goL_append] at h
  exact stL_tells (goL_inj m (stL_lt _ c) (stL_lt _ d) h)
theorem goR_tells (x : Nat) (l m : List UInt8) (c d : UInt8) (h : goR x (l ++ c :: m) = goR x (l ++ d :: m)) : c = d := by
  rw [goR_append, goR_append] at h
  exact stR_tells (goR_inj m (stR_lt _ c) (stR_lt _ d) h)
/-- Two neighbours changed for one another. -/
theorem goL_turns (x : Nat) (l m : List UInt8) (c d : UInt8) (h : goL x (l ++ c :: d :: m) = goL x (l ++ d :: c :: m)) : c = d := by
  rw [goL_append, goL_append, goL_cons, goL_cons, goL_cons, goL_cons] at h
  exact stL_turns (goL_inj m (stL_lt _ d) (stL_lt _ c) h)
theorem split_at (l : List UInt8) (i : Nat) (h : i < l.length) : l = l.take i ++ l.getD i 0 :: l.drop (i + 1) := by
  have e : l.getD i 0 = l[i] := by simp [List.getElem?_eq_getElem h]
  rw [e, ← List.drop_eq_getElem_cons h, List.take_append_drop]
theorem set_at (l : List UInt8) (i : Nat) (c : UInt8) (h : i < l.length) : l.set i c = l.take i ++ c :: l.drop (i + 1) := List.set_eq_take_append_cons_drop.trans (by rw [if_pos h])
theorem seeds (s t : Int) (l : List UInt8) : addN (startN s) l = addN (startN t) l ↔ restN s = restN t := by
  constructor
  · intro h
    unfold addN at h
    have := (joinN_inj (goR_lt l _ (haR_lt _)) (goR_lt l _ (haR_lt _)) h).1
    rw [haL_start, haL_start] at this
    exact goL_inj l (restN_lt s) (restN_lt t) this
  · intro h; unfold startN; rw [h]
end Go.Proofs.Ythgkkmcpmhfehaa.Sl
