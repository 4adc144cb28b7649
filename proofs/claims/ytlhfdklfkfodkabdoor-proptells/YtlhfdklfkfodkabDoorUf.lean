
/- The library's shortest digits of any float: what shortFloat answers, as a number. -/
import Derived.Test.YtlhfdklfkfodkabDoorUc
import Derived.Test.YtlhfdklfkfodkabDoorUd
import Derived.Test.YtlhfdklfkfodkabDoorUe
import GoSem.PinnedTables
set_option maxRecDepth 100000
namespace Go.Proofs.YtlhfdklfkfodkabDoor.Ff
open Go.RowKit Go.Lib Go.Sort

/-- The table's two words at a place. -/
def ph (i : Nat) : Nat := (Go.Pinned.pow10Rows.getD i (0, 0)).1
def pl (i : Nat) : Nat := (Go.Pinned.pow10Rows.getD i (0, 0)).2
theorem rows_ok : (Go.Pinned.pow10Rows.all fun x => decide (2 ^ 63 ≤ x.1) && decide (x.1 < 2 ^ 64) && decide (x.2 < 2 ^ 64)) = true := by kernel_rfl
theorem rows_len : Go.Pinned.pow10Rows.length = 696 := by kernel_rfl
theorem row_at {i : Nat} (h : i < 696) : Go.Pinned.pow10Rows[i]? = some (ph i, pl i) := by
  have hl : i < Go.Pinned.pow10Rows.length := by rw [rows_len]; exact h
  simp [ph, pl, List.getD, List.getElem?_eq_getElem hl]
theorem ph_ok {i : Nat} (h : i < 696) : 2 ^ 63 ≤ ph i ∧ ph i < 2 ^ 64 ∧ pl i < 2 ^ 64 := by
  have hm := List.mem_of_getElem? (row_at h)
  have := List.all_eq_true.1 rows_ok _ hm
  simp only [Bool.and_eq_true, decide_eq_true_eq] at this
  exact ⟨this.1.1, this.1.2, this.2⟩

/-- The table lies there. -/
def Pow (w : World) : Prop := ∀ i, i < 696 → w.cell? ⟨5, i * 2, none⟩ = some (.int .u64 (ph i : Nat)) ∧ w.cell? ⟨5, i * 2 + 1, none⟩ = some (.int .u64 (pl i : Nat))
theorem Pow.on {w w' : World} (hv : Pow w) (h : Below w.heap.size w w') : Pow w' := fun i hi => ⟨below_cell h (hv i hi).1, below_cell h (hv i hi).2⟩

theorem usc_hi {x hi lo s : Nat} (hx : x < 2 ^ 64) (hh : hi < 2 ^ 64) (hs : 3 ≤ s) : usc x hi lo s < 2 ^ 61 := by
  have ha : x * hi / 2 ^ 64 < 2 ^ 64 := (Nat.div_lt_iff_lt_mul (by omega)).2 (Nat.mul_lt_mul'' hx hh)
  have hp : 2 ^ 3 ≤ 2 ^ s := Nat.pow_le_pow_right (by omega) hs
  have hd : ∀ t, t < 2 ^ 64 → t / 2 ^ s < 2 ^ 61 := fun t ht => (Nat.div_lt_iff_lt_mul (Nat.two_pow_pos _)).2 (by have := Nat.mul_le_mul_left (2 ^ 61) hp; omega)
  unfold usc
  dsimp only
  split
  · exact Nat.or_lt_two_pow (hd _ ha) (by omega)
  · refine Nat.or_lt_two_pow (hd _ (Nat.mod_lt _ (by omega))) ?_
    split <;> omega
theorem usc_lo {x hi lo s : Nat} (hx : 2 ^ 62 ≤ x) (hx1 : x < 2 ^ 64) (hh : 2 ^ 63 ≤ hi) (hh1 : hi < 2 ^ 64) (hs : s ≤ 58) : 4 ≤ usc x hi lo s := by
  have ha : x * hi / 2 ^ 64 < 2 ^ 64 := (Nat.div_lt_iff_lt_mul (by omega)).2 (Nat.mul_lt_mul'' hx1 hh1)
  have hb : 2 ^ 61 ≤ x * hi / 2 ^ 64 := (Nat.le_div_iff_mul_le (by omega)).2 (by have := Nat.mul_le_mul hx hh; omega)
  have hp : 2 ^ s ≤ 2 ^ 58 := Nat.pow_le_pow_right (by omega) hs
  have hd : ∀ t, 2 ^ 60 ≤ t → 4 ≤ t / 2 ^ s := fun t ht => (Nat.le_div_iff_mul_le (Nat.two_pow_pos _)).2 (by omega)
  unfold usc
  dsimp only
  split
  · exact Nat.le_trans (hd _ (by omega)) Nat.left_le_or
  · refine Nat.le_trans (hd _ ?_) Nat.left_le_or
    generalize x * hi / 2 ^ 64 = a at *
    split <;> omega

/-- What shortFloat answers of m at the place e. -/
def shP (m : Nat) (e : Int) : Int :=
  if m = 2 ^ 63 ∧ -1085 < e then -(((e + 11) * 631305 - 261663) / 2097152) else if -1085 ≤ e then -((e + 11) * 78913 / 262144) else 324
def shZ (e : Int) : Nat := if -1085 ≤ e then 11 else (-1074 - e).toNat
def shMin (m : Nat) (e : Int) : Nat := if m = 2 ^ 63 ∧ -1085 < e then m - 512 else m - 2 ^ (shZ e - 1)
def shMax (m : Nat) (e : Int) : Nat := m + 2 ^ (shZ e - 1)
def shI (m : Nat) (e : Int) : Nat := (shP m e + 348).toNat
def shS (m : Nat) (e : Int) : Nat := (-(e + shP m e * 108853 / 32768 + 3)).toNat
def shortN (m : Nat) (e : Int) : Nat × Int :=
  fin (usc m (ph (shI m e)) (pl (shI m e)) (shS m e)) (usc (shMin m e) (ph (shI m e)) (pl (shI m e)) (shS m e)) (usc (shMax m e) (ph (shI m e)) (pl (shI m e)) (shS m e)) (m / 2 ^ shZ e % 2) (shP m e)

/-- What is asked of m and e. -/
structure Sh (m : Nat) (e : Int) : Prop where
  lo : 2 ^ 63 ≤ m
  hi : m < 2 ^ 64
  e0 : -1137 ≤ e
  e1 : e ≤ 960
  z : m % 2 ^ shZ e = 0
theorem skewed_any (w : World) (u : Int) (h0 : -10000 ≤ u) (h1 : u ≤ 10000) :
    Calls Tryd.prog 59 #[.int .i64 u] w fun e w' => e = .returned (.int .i64 ((u * 631305 - 261663) / 2097152)) ∧ w' = w := by
  go_enter Tryd.func59, Tryd.ntmps59
  go_wp2
  go_ret
  exact ⟨ret_i (by omega), rfl⟩

theorem sh_bounds {m : Nat} {e : Int} (h : Sh m e) : shP m e + 348 = (shI m e : Int) ∧ shI m e < 696 ∧ -(e + shP m e * 108853 / 32768 + 3) = (shS m e : Int) ∧ 3 ≤ shS m e ∧ shS m e ≤ 58 ∧ -348 ≤ shP m e ∧ shP m e ≤ 347 := by
  have h0 := h.e0
  have h1 := h.e1
  have key : -340 ≤ shP m e ∧ shP m e ≤ 340 ∧ 3 ≤ -(e + shP m e * 108853 / 32768 + 3) ∧ -(e + shP m e * 108853 / 32768 + 3) ≤ 58 := by
    unfold shP
    split
    · rename_i hc
      generalize hl : ((e + 11) * 631305 - 261663) / 2097152 = l
      omega
    · split
      · generalize hl : (e + 11) * 78913 / 262144 = l
        omega
      · omega
  unfold shI shS
  generalize shP m e = p at *
  omega

theorem cond_false {m : Nat} (h : m ≠ 2 ^ 63) : ((m : Int) == 9223372036854775808) = false := by
  rw [beq_eq_false_iff_ne]; omega
theorem lp_bounds {p : Int} (h0 : -348 ≤ p) (h1 : p ≤ 347) : -2000 ≤ p * 108853 / 32768 ∧ p * 108853 / 32768 ≤ 2000 := by omega
theorem odd_11 {m : Nat} (h : m < 2 ^ 64) : bits .and .i64 ((m : Int) / 2048) 1 = ((m / 2 ^ 11 % 2 : Nat) : Int) := by
  rw [show (m : Int) / 2048 = ((m / 2 ^ 11 : Nat) : Int) from by omega]
  exact and1i _ (by omega)
theorem mod_z {m z : Nat} (hm : m % 2 ^ z = 0) (hz : z ≤ 63) (hhi : m < 2 ^ 64) (hz1 : 1 ≤ z) : m + 2 ^ (z - 1) < 2 ^ 64 := by
  have hd := Nat.div_add_mod m (2 ^ z)
  rw [hm, Nat.add_zero] at hd
  have e64 : (2 : Nat) ^ 64 = 2 ^ z * 2 ^ (64 - z) := by rw [← Nat.pow_add]; congr 1; omega
  have hq : m / 2 ^ z < 2 ^ (64 - z) := by
    refine (Nat.div_lt_iff_lt_mul (Nat.two_pow_pos _)).2 ?_
    rw [Nat.mul_comm, ← e64]; exact hhi
  have h1 : 2 ^ z * (m / 2 ^ z + 1) ≤ 2 ^ z * 2 ^ (64 - z) := Nat.mul_le_mul_left _ hq
  rw [← e64, Nat.mul_add, hd, Nat.mul_one] at h1
  have h2 : 2 ^ (z - 1) < 2 ^ z := Nat.pow_lt_pow_right (by omega) (by omega)
  omega

theorem short_any (w : World) (m : Nat) (e : Int) (h : Sh m e) (hP : Pow w) :
    Calls Tryd.prog 55 #[.int .u64 m, .int .i64 e] w fun r w' => r = .returned (.tuple #[.int .u64 ((shortN m e).1 : Nat), .int .i64 (shortN m e).2]) ∧ Below w.heap.size w w' := by
  obtain ⟨b1, b2, b3, b4, b5, b6, b7⟩ := sh_bounds h
  obtain ⟨hlo, hhi, e0, e1, hz⟩ := h
  obtain ⟨c1, c2, c3⟩ := ph_ok b2
  obtain ⟨t0, t1⟩ := hP _ b2
  obtain ⟨l0, l1⟩ := lp_bounds b6 b7
  have gU : ∀ x, x < 2 ^ 64 → (usc x (ph (shI m e)) (pl (shI m e)) (shS m e) : Int) < 2305843009213693952 := fun x hx => by
    have := usc_hi (lo := pl (shI m e)) hx c2 b4; omega
  have gL : ∀ x, 2 ^ 62 ≤ x → x < 2 ^ 64 → 4 ≤ usc x (ph (shI m e)) (pl (shI m e)) (shS m e) := fun x h1 h2 => usc_lo h1 h2 c1 c2 b5
  unfold shortN
  by_cases k1 : -1085 ≤ e
  · have z11 : shZ e = 11 := by unfold shZ; rw [if_pos k1]
    have hmx : shMax m e = m + 1024 := by unfold shMax; rw [z11]
    rw [z11] at hz ⊢
    by_cases k2 : m = 2 ^ 63
    · subst k2
      by_cases k3 : -1085 < e
      · have hp : shP (2 ^ 63) e = -(((e + 11) * 631305 - 261663) / 2097152) := by unfold shP; rw [if_pos ⟨rfl, k3⟩]
        have hmn : shMin (2 ^ 63) e = 2 ^ 63 - 512 := by unfold shMin; rw [if_pos ⟨rfl, k3⟩]
        rw [hmn, hmx]
        exact short_skew w e _ _ _ _ _ _ _ _ _ _ _ _ _ k3 (by decide) (by decide) (by decide) hp.symm rfl b3 (by omega) b1 (by omega) (by omega) b6 b7 l0 l1 (skewed_any w (e + 11) (by omega) (by omega)) (by decide) c2 c3 (by decide) (by decide) rfl rfl rfl (gU _ (by decide)) (gU _ (by decide)) (gU _ (by decide)) (by have := gL (2 ^ 63 + 1024) (by decide) (by decide); omega) t0 t1
      · have he : e = -1085 := by omega
        subst he
        have hp : shP (2 ^ 63) (-1085) = -(-1074 * 78913 / 262144) := by decide
        have hmn : shMin (2 ^ 63) (-1085) = 2 ^ 63 - 1024 := by decide
        rw [hmn, hmx]
        exact short_one w _ _ _ _ _ _ _ _ _ _ _ _ _ (by decide) (by decide) (by decide) hp.symm rfl b3 (by omega) b1 (by omega) b6 b7 l0 l1 (log10_any w (-1074) (by omega) (by omega)) (by decide) c2 c3 (by decide) (by decide) rfl rfl rfl (gU _ (by decide)) (gU _ (by decide)) (gU _ (by decide)) (by have := gL (2 ^ 63 + 1024) (by decide) (by decide); omega) t0 t1
    · have hp : shP m e = -((e + 11) * 78913 / 262144) := by unfold shP; rw [if_neg (fun t => k2 t.1), if_pos k1]
      have hmn : shMin m e = m - 1024 := by unfold shMin; rw [if_neg (fun t => k2 t.1), z11]
      have hx : m + 1024 < 2 ^ 64 := mod_z hz (by omega) hhi (by omega)
      rw [hmn, hmx]
      have ho := odd_11 hhi
      exact short_mid w m e _ _ _ _ _ _ _ _ _ _ _ _ _ (cond_false k2) k1 (by omega) (by omega) ho hp.symm rfl b3 (by omega) b1 (by omega) (by omega) b6 b7 l0 l1 (log10_any w (e + 11) (by omega) (by omega)) (by omega) (by omega) (by omega) c2 c3 (by omega) hx rfl rfl rfl (gU _ hhi) (gU _ (by omega)) (gU _ hx) (by have := gL (m + 1024) (by omega) hx; omega) t0 t1
  · have zN : shZ e = (-1074 - e).toNat := by unfold shZ; rw [if_neg k1]
    have hp : shP m e = -(-1074 * 78913 / 262144) := by unfold shP; rw [if_neg (fun t => by omega), if_neg k1]; decide
    have hmn : shMin m e = m - 2 ^ (shZ e - 1) := by unfold shMin; rw [if_neg (fun t => by omega)]
    have hmx : shMax m e = m + 2 ^ (shZ e - 1) := rfl
    have zb : 12 ≤ shZ e ∧ shZ e ≤ 63 := by rw [zN]; omega
    have zi : (shZ e : Int) = -1074 - e := by rw [zN]; omega
    rw [hmn, hmx]
    generalize shZ e = z at *
    have hx : m + 2 ^ (z - 1) < 2 ^ 64 := mod_z hz zb.2 hhi (by omega)
    have hp62 : 2 ^ (z - 1) ≤ 2 ^ 62 := Nat.pow_le_pow_right (by omega) (by omega)
    have w1 : IntKind.i64.wrap (-1085 - e) = -1085 - e := by simp only [IntKind.wrap, IntKind.bits, IntKind.signed]; simp; omega
    have w2 : IntKind.i64.wrap (11 + (-1085 - e)) = (z : Int) := by simp only [IntKind.wrap, IntKind.bits, IntKind.signed]; simp; omega
    have w3 : IntKind.i64.wrap (e + (z : Int)) = -1074 := by simp only [IntKind.wrap, IntKind.bits, IntKind.signed]; simp; omega
    have w4 : IntKind.i64.wrap ((z : Int) - 1) = ((z - 1 : Nat) : Int) := by simp only [IntKind.wrap, IntKind.bits, IntKind.signed]; simp; omega
    have w5 : IntKind.u64.wrap ((2 : Int) ^ (((z - 1 : Nat) : Int)).toNat) = ((2 ^ (z - 1) : Nat) : Int) := by
      rw [Int.toNat_natCast, show ((2 : Int) ^ (z - 1)) = ((2 ^ (z - 1) : Nat) : Int) from by simp, IntKind.wrap_u64]
      generalize 2 ^ (z - 1) = t at *
      omega
    have w6 : ∀ k : Nat, 2 ^ 62 ≤ k → k < 2 ^ 64 → IntKind.u64.wrap ((k : Int) - ((2 ^ (z - 1) : Nat) : Int)) = ((k - 2 ^ (z - 1) : Nat) : Int) := fun k q1 q2 => by
      rw [IntKind.wrap_u64]
      generalize 2 ^ (z - 1) = t at *
      omega
    have w7 : ∀ k : Nat, k + 2 ^ (z - 1) < 2 ^ 64 → IntKind.u64.wrap ((k : Int) + ((2 ^ (z - 1) : Nat) : Int)) = ((k + 2 ^ (z - 1) : Nat) : Int) := fun k q1 => by
      rw [IntKind.wrap_u64]
      generalize 2 ^ (z - 1) = t at *
      omega
    have hdv : m / 2 ^ z < 2 ^ 52 := by
      refine (Nat.div_lt_iff_lt_mul (Nat.two_pow_pos _)).2 ?_
      have : 2 ^ 12 ≤ 2 ^ z := Nat.pow_le_pow_right (by omega) zb.1
      have := Nat.mul_le_mul_left (2 ^ 52) this
      omega
    have w8 : IntKind.i64.wrap ((m : Int) / 2 ^ ((z : Int)).toNat) = ((m / 2 ^ z : Nat) : Int) := by
      rw [Int.toNat_natCast, show (m : Int) / 2 ^ z = ((m / 2 ^ z : Nat) : Int) from by simp]
      generalize m / 2 ^ z = q at *
      simp only [IntKind.wrap, IntKind.bits, IntKind.signed]; simp; omega
    have w9 := and1i (m / 2 ^ z) (by omega)
    have hL := log10_any w (-1074) (by omega) (by omega)
    have hod1 : m / 2 ^ z % 2 ≤ 1 := by have := Nat.mod_lt (m / 2 ^ z) (show 0 < 2 by omega); omega
    have q5 : 4 ≤ usc (m + 2 ^ (z - 1)) (ph (shI m e)) (pl (shI m e)) (shS m e) := gL _ (Nat.le_trans (show 2 ^ 62 ≤ m by omega) (Nat.le_add_right _ _)) hx
    have q6 := Nat.le_trans hod1 (Nat.le_trans (show 1 ≤ 4 by decide) q5)
    have q7 : m - 2 ^ (z - 1) < 2 ^ 64 := Nat.lt_of_le_of_lt (Nat.sub_le _ _) hhi
    by_cases k2 : m = 2 ^ 63
    · subst k2
      exact short_lowb w e _ _ _ _ _ _ _ _ _ _ _ _ _ (by omega) _ _ _ _ w1 w2 w3 w4 (by omega) (by omega) (by omega) (by omega) w5 (w6 (2 ^ 63) (by omega) (by omega)) (w7 (2 ^ 63) hx) _ w8 w9 hp.symm rfl b3 (by omega) b1 (by omega) (by omega) b6 b7 l0 l1 hL hod1 c2 c3 q7 hx rfl rfl rfl (gU _ hhi) (gU _ q7) (gU _ hx) q6 t0 t1
    · exact short_lowa w m e _ _ _ _ _ _ _ _ _ _ _ _ _ (cond_false k2) (by omega) _ _ _ _ w1 w2 w3 w4 (by omega) (by omega) (by omega) (by omega) w5 (w6 m (by omega) hhi) (w7 m hx) _ w8 w9 hp.symm rfl b3 (by omega) b1 (by omega) (by omega) b6 b7 l0 l1 hL (by omega) (by omega) hod1 c2 c3 q7 hx rfl rfl rfl (gU _ hhi) (gU _ q7) (gU _ hx) q6 t0 t1

/-- There is a digit. -/
theorem shortN_pos {m : Nat} {e : Int} (h : Sh m e) : 1 ≤ (shortN m e).1 ∧ (shortN m e).1 < 2 ^ 60 := by
  obtain ⟨b1, b2, b3, b4, b5, b6, b7⟩ := sh_bounds h
  obtain ⟨c1, c2, c3⟩ := ph_ok b2
  obtain ⟨hlo, hhi, e0, e1, hz⟩ := h
  have zb : 11 ≤ shZ e ∧ shZ e ≤ 63 := by unfold shZ; split <;> omega
  have hx : shMax m e < 2 ^ 64 := by unfold shMax; exact mod_z hz zb.2 hhi (by omega)
  have hp62 : 2 ^ (shZ e - 1) ≤ 2 ^ 62 := Nat.pow_le_pow_right (by omega) (by omega)
  have hn : 2 ^ 62 ≤ shMin m e ∧ shMin m e < 2 ^ 64 := by
    unfold shMin
    generalize 2 ^ (shZ e - 1) = t at *
    split <;> omega
  have um := usc_lo (lo := pl (shI m e)) (by omega) hhi c1 c2 b5
  have un := usc_lo (lo := pl (shI m e)) hn.1 hn.2 c1 c2 b5
  have vm := usc_hi (lo := pl (shI m e)) hhi c2 b4
  have vn := usc_hi (lo := pl (shI m e)) hn.2 c2 b4
  have vx := usc_hi (lo := pl (shI m e)) hx c2 b4
  have ho : m / 2 ^ shZ e % 2 < 2 := Nat.mod_lt _ (by omega)
  unfold shortN fin
  generalize usc m (ph (shI m e)) (pl (shI m e)) (shS m e) = A at *
  generalize usc (shMin m e) (ph (shI m e)) (pl (shI m e)) (shS m e) = B at *
  generalize usc (shMax m e) (ph (shI m e)) (pl (shI m e)) (shS m e) = C at *
  generalize m / 2 ^ shZ e % 2 = o at *
  clear hp62 hn hx zb hz e0 e1 hlo hhi c1 c2 c3 b1 b2 b3 b4 b5 b6 b7
  split
  · dsimp only; omega
  · split
    · dsimp only; omega
    · dsimp only; omega
end Go.Proofs.YtlhfdklfkfodkabDoor.Ff
