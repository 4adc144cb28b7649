/- Whatever three values, trivetlaw07.PropOrders answers true, where the library's table of powers of ten reads as it was laid. -/
import Derived.Test.YtlhfdklfkfodkaaDoorPj
namespace Go.Proofs.YtlhfdklfkfodkaaDoor
open Go.RowKit Go.Lib Ieee

def turnB (c : Nat) : Nat := if 2 ^ 63 ≤ c then 2 ^ 64 - 1 - c else c + 2 ^ 63
theorem keyB_turn (b : Nat) : keyB b = turnB (canonB b) := rfl
theorem turnB_inj {a b : Nat} (ha : a < 2 ^ 64) (hb : b < 2 ^ 64) (h : turnB a = turnB b) : a = b := by
  unfold turnB at h
  split at h <;> split at h <;> omega
theorem keyB_inj {a b : Nat} (ha : a < 2 ^ 64) (hb : b < 2 ^ 64) : keyB a = keyB b ↔ canonB a = canonB b := by
  rw [keyB_turn, keyB_turn]
  exact ⟨turnB_inj (canonB_lt ha) (canonB_lt hb), fun h => by rw [h]⟩

theorem cmpZ_anti (a b : Int) : cmpZ b a = - cmpZ a b := by unfold cmpZ; (repeat' split) <;> omega
theorem cmpZ_rng (a b : Int) : cmpZ a b = -1 ∧ a < b ∨ cmpZ a b = 0 ∧ a = b ∨ cmpZ a b = 1 ∧ b < a := by unfold cmpZ; (repeat' split) <;> omega
theorem cmpN_rng (a b : Nat) : cmpN a b = -1 ∧ a < b ∨ cmpN a b = 0 ∧ a = b ∨ cmpN a b = 1 ∧ b < a := by unfold cmpN; (repeat' split) <;> omega
theorem cmpN_anti (a b : Nat) : cmpN b a = - cmpN a b := by unfold cmpN; (repeat' split) <;> omega
theorem cmpL_rng (a b : List UInt8) : cmpL a b = -1 ∧ Op.bytesLess a b = true ∨ cmpL a b = 0 ∧ a = b ∨ cmpL a b = 1 ∧ Op.bytesLess b a = true := by
  unfold cmpL
  split
  · exact .inl ⟨rfl, by assumption⟩
  · split
    · exact .inr (.inl ⟨rfl, by assumption⟩)
    · refine .inr (.inr ⟨rfl, ?_⟩)
      cases e : Op.bytesLess b a with
      | true => rfl
      | false => exact absurd (bl_tri a b (by simp_all) e) (by assumption)
theorem cmpL_anti (a b : List UInt8) : cmpL b a = - cmpL a b := by
  rcases cmpL_rng a b with ⟨h, h1⟩ | ⟨h, rfl⟩ | ⟨h, h1⟩
  · rw [h]
    have h2 := bl_asymm _ _ h1
    have h3 : b ≠ a := fun e => by subst e; rw [bl_irrefl] at h1; cases h1
    rw [cmpL_gt h2 h3]; rfl
  · rw [h]; rfl
  · rw [h, cmpL_lt h1]
theorem or4_rng {a b c d : Int} (ha : a = -1 ∨ a = 0 ∨ a = 1) (hb : b = -1 ∨ b = 0 ∨ b = 1) (hc : c = -1 ∨ c = 0 ∨ c = 1) (hd : d = -1 ∨ d = 0 ∨ d = 1) : or4 a b c d = -1 ∨ or4 a b c d = 0 ∨ or4 a b c d = 1 := by
  unfold or4; (repeat' split) <;> assumption
theorem cmpV_rng (a b : Val) : cmpV a b = -1 ∨ cmpV a b = 0 ∨ cmpV a b = 1 := by
  refine or4_rng ?_ ?_ ?_ ?_
  · rcases cmpZ_rng a.kind b.kind with h | h | h <;> omega
  · rcases cmpZ_rng a.num b.num with h | h | h <;> omega
  · rcases cmpL_rng a.text.toList b.text.toList with h | h | h <;> simp [h.1]
  · rcases cmpN_rng (keyB a.real) (keyB b.real) with h | h | h <;> omega
theorem or4_neg (a b c d : Int) : or4 (-a) (-b) (-c) (-d) = - or4 a b c d := by
  unfold or4; (repeat' split) <;> omega
theorem cmpV_anti (a b : Val) : cmpV b a = - cmpV a b := by
  unfold cmpV; rw [cmpZ_anti a.kind, cmpZ_anti a.num, cmpL_anti a.text.toList, cmpN_anti (keyB a.real), or4_neg]
theorem or4_zero {a b c d : Int} : or4 a b c d = 0 ↔ a = 0 ∧ b = 0 ∧ c = 0 ∧ d = 0 := by
  unfold or4; (repeat' split) <;> omega
theorem cmpV_zero (a b : Val) : cmpV a b = 0 ↔ a.kind = b.kind ∧ a.num = b.num ∧ a.text = b.text ∧ keyB a.real = keyB b.real := by
  unfold cmpV
  rw [or4_zero]
  constructor
  · rintro ⟨h1, h2, h3, h4⟩
    refine ⟨?_, ?_, ?_, ?_⟩
    · rcases cmpZ_rng a.kind b.kind with h | h | h <;> omega
    · rcases cmpZ_rng a.num b.num with h | h | h <;> omega
    · rcases cmpL_rng a.text.toList b.text.toList with h | h | h
      · omega
      · exact toList_inj h.2
      · omega
    · rcases cmpN_rng (keyB a.real) (keyB b.real) with h | h | h <;> omega
  · rintro ⟨h1, h2, h3, h4⟩
    rw [h1, h2, h3, h4]
    exact ⟨by simp [cmpZ], by simp [cmpZ], cmpL_self _, by simp [cmpN]⟩
/-- One step of an order by steps. -/
theorem or4_le {a b c d : Int} (ha : a = -1 ∨ a = 0 ∨ a = 1) : or4 a b c d ≤ 0 ↔ a = -1 ∨ a = 0 ∧ or4 b c d 0 ≤ 0 := by
  unfold or4; (repeat' split) <;> omega
theorem cmpV_trans (a b c : Val) (h1 : cmpV a b ≤ 0) (h2 : cmpV b c ≤ 0) : cmpV a c ≤ 0 := by
  unfold cmpV at *
  have Z := fun (x y : Int) => cmpZ_rng x y
  have zr : ∀ x y : Int, cmpZ x y = -1 ∨ cmpZ x y = 0 ∨ cmpZ x y = 1 := fun x y => by rcases Z x y with h | h | h <;> omega
  have lr : ∀ x y, cmpL x y = -1 ∨ cmpL x y = 0 ∨ cmpL x y = 1 := fun x y => by rcases cmpL_rng x y with h | h | h <;> simp [h.1]
  have nr : ∀ x y, cmpN x y = -1 ∨ cmpN x y = 0 ∨ cmpN x y = 1 := fun x y => by rcases cmpN_rng x y with h | h | h <;> omega
  rw [or4_le (zr _ _), or4_le (zr _ _), or4_le (lr _ _), or4_le (nr _ _)] at *
  have t1 : ∀ x y z : Int, cmpZ x y ≤ 0 → cmpZ y z ≤ 0 → cmpZ x z ≤ 0 ∧ (cmpZ x z = 0 → cmpZ x y = 0 ∧ cmpZ y z = 0) := fun x y z h h' => by
    rcases Z x y with g | g | g <;> rcases Z y z with g' | g' | g' <;> rcases Z x z with g2 | g2 | g2 <;> omega
  have t3 : ∀ x y z, cmpN x y ≤ 0 → cmpN y z ≤ 0 → cmpN x z ≤ 0 ∧ (cmpN x z = 0 → cmpN x y = 0 ∧ cmpN y z = 0) := fun x y z h h' => by
    rcases cmpN_rng x y with g | g | g <;> rcases cmpN_rng y z with g' | g' | g' <;> rcases cmpN_rng x z with g2 | g2 | g2 <;> omega
  have t2 : ∀ x y z, cmpL x y ≤ 0 → cmpL y z ≤ 0 → cmpL x z ≤ 0 ∧ (cmpL x z = 0 → cmpL x y = 0 ∧ cmpL y z = 0) := fun x y z h h' => by
    rcases cmpL_rng x y with ⟨g, g0⟩ | ⟨g, rfl⟩ | ⟨g, g0⟩
    · rcases cmpL_rng y z with ⟨g', g1⟩ | ⟨g', rfl⟩ | ⟨g', g1⟩
      · rw [cmpL_lt (bl_trans _ _ _ g0 g1)]; omega
      · rw [g]; omega
      · omega
    · exact ⟨h', fun e => ⟨g, e⟩⟩
    · omega
  have k1 := t1 a.kind b.kind c.kind
  have k2 := t1 a.num b.num c.num
  have k3 := t2 a.text.toList b.text.toList c.text.toList
  have k4 := t3 (keyB a.real) (keyB b.real) (keyB c.real)
  have r1 := zr a.kind c.kind
  have r2 := zr a.num c.num
  have r3 := lr a.text.toList c.text.toList
  have r4 := nr (keyB a.real) (keyB c.real)
  simp only [or4] at *
  omega
theorem good_real (a b : Val) (ha : goodV a = true) (hb : goodV b = true) (hk : a.kind = b.kind) (h : keyB a.real = keyB b.real) (h1 : a.real < 2 ^ 64) (h2 : b.real < 2 ^ 64) : a.real = b.real := by
  have hc := (keyB_inj h1 h2).1 h
  rcases goodV_cases a ha with ⟨n, rfl⟩ | ⟨n, _, rfl⟩ | ⟨t, _, rfl⟩ | ⟨r, hr, rfl⟩ <;> rcases goodV_cases b hb with ⟨n', rfl⟩ | ⟨n', _, rfl⟩ | ⟨t', _, rfl⟩ | ⟨r', hr', rfl⟩ <;> simp_all
theorem good_same (a b : Val) (ha : goodV a = true) (hb : goodV b = true) (h1 : a.real < 2 ^ 64) (h2 : b.real < 2 ^ 64) : (cmpV a b == 0) = sameV a b := by
  rw [Bool.eq_iff_iff, beq_iff_eq, cmpV_zero, sameV_eq]
  constructor
  · rintro ⟨e1, e2, e3, e4⟩
    have e5 := good_real a b ha hb e1 e4 h1 h2
    cases a; cases b; simp_all
  · rintro rfl
    exact ⟨rfl, rfl, rfl, rfl⟩
end Go.Proofs.YtlhfdklfkfodkaaDoor
