/- The statements on keys, walked: FltKeys and FltOrders answer true of any bits, where the listed variables read as the walk needs them. -/
import Derived.Test.YtklgemnmihpkcaaGreatDoorPf
set_option maxRecDepth 100000
namespace Go.Proofs.YtklgemnmihpkcaaGreatDoor
open Go.RowKit Go.Lib Go.Sort Ieee

def turnB (c : Nat) : Nat := if 2 ^ 63 ≤ c then 2 ^ 64 - 1 - c else c + 2 ^ 63
theorem keyB_turn (b : Nat) : keyB b = turnB (canonB b) := rfl
theorem turnB_inj {a b : Nat} (ha : a < 2 ^ 64) (hb : b < 2 ^ 64) (h : turnB a = turnB b) : a = b := by
  unfold turnB at h
  split at h <;> split at h <;> omega
theorem turn_un {k : Nat} (h : k < 2 ^ 64) : turnB (unB k) = k := by
  unfold turnB unB
  split <;> split <;> omega
theorem canonB_idem (b : Nat) : canonB (canonB b) = canonB b := by
  unfold canonB
  by_cases h : isN double b
  · rw [if_pos h]
    split <;> rfl
  · rw [if_neg h, if_neg h]
theorem unkey_alike {k : Nat} (h : k < 2 ^ 64) : decide (keyB (canonB (unB k)) = k) = decide (canonB (unB k) = unB k) := by
  rw [keyB_turn, canonB_idem]
  have h1 := unB_lt h
  have h2 := canonB_lt h1
  have h3 := turn_un h
  by_cases e : canonB (unB k) = unB k
  · rw [decide_eq_true e, decide_eq_true]
    rw [e, h3]
  · rw [decide_eq_false e, decide_eq_false]
    intro e'
    exact e (turnB_inj h2 h1 (e'.trans h3.symm))
theorem keyB_inj {a b : Nat} (ha : a < 2 ^ 64) (hb : b < 2 ^ 64) : keyB a = keyB b ↔ canonB a = canonB b := by
  rw [keyB_turn, keyB_turn]
  exact ⟨turnB_inj (canonB_lt ha) (canonB_lt hb), fun h => by rw [h]⟩

set_option maxHeartbeats 4000000 in
theorem keys_walk (w : World) (a b k : Nat) (ha : a < 2 ^ 64) (hb : b < 2 ^ 64) (hk : k < 2 ^ 64) (hv : Vars w) :
    Calls Tryz.prog 3 #[.int .u64 a, .int .u64 b, .int .u64 k] w fun e w' => e = .returned (.bool true) ∧ Below w.heap.size w w' := by
  have hW := wakes_any w hv
  have hU : ∀ w, _ := fun w => unkey_any w k hk
  have hU' : ∀ w, _ := fun w => runkey_any w k hk
  have he := unkey_alike hk
  have hC : ∀ w, _ := fun w => canon_any w a
  have hC' : ∀ w, _ := fun w => rcanon_any w a ha
  have hK : ∀ w, _ := fun w => key_any w a ha
  have hK' : ∀ w, _ := fun w => rkey_any w a ha
  have hM : ∀ w, _ := fun w => compare_any w a b ha hb
  have hM' : ∀ w, _ := fun w => rcompare_any w a b ha hb
  rw [he] at hU
  generalize decide (canonB (unB k) = unB k) = bb at *
  generalize canonB (unB k) = x at *
  generalize cmpN (keyB a) (keyB b) = n at *
  generalize keyB a = ka at *
  generalize canonB a = ca at *
  have HU : Hid _ := hU
  have HU' : Hid _ := hU'
  have HC : Hid _ := hC
  have HC' : Hid _ := hC'
  have HK : Hid _ := hK
  have HK' : Hid _ := hK'
  have HM : Hid _ := hM
  have HM' : Hid _ := hM'
  clear hU hU' he hC hC' hK hK' hM hM' ha hb hk hv
  go_enter Tryz.func3, Tryz.ntmps3
  go_wp2_with fail
  refine hW.mono ?_
  rintro e w1 ⟨rfl, hb1⟩
  clear hW
  go_wp2_with fail
  refine (rfrom_any w1 a).mono ?_
  rintro e w2 ⟨rfl, rfl⟩
  go_wp2_with fail
  refine (rfrom_any w2 b).mono ?_
  rintro e w3 ⟨rfl, rfl⟩
  go_wp2_with fail
  refine Calls.mono (HU.out w3) ?_
  rintro e w4 ⟨rfl, rfl⟩
  go_wp2_with fail
  refine Calls.mono (HU'.out w4) ?_
  rintro e w5 ⟨rfl, rfl⟩
  go_wp2_with fail
  refine Calls.mono (HC.out w5) ?_
  rintro e w6 ⟨rfl, rfl⟩
  go_wp2_with fail
  refine Calls.mono (HC'.out w6) ?_
  rintro e w7 ⟨rfl, rfl⟩
  go_wp2_with fail
  refine (rsame_any w7 ca ca).mono ?_
  rintro e w8 ⟨rfl, rfl⟩
  rw [decide_eq_true rfl]
  go_wp2_with fail
  refine Calls.mono (HK.out w8) ?_
  rintro e w9 ⟨rfl, rfl⟩
  go_wp2_with fail
  refine Calls.mono (HK'.out w9) ?_
  rintro e w10 ⟨rfl, rfl⟩
  go_wp2_with fail
  refine Calls.mono (HM.out w10) ?_
  rintro e w11 ⟨rfl, rfl⟩
  go_wp2_with fail
  refine Calls.mono (HM'.out w11) ?_
  rintro e w12 ⟨rfl, rfl⟩
  go_wp2_with fail
  refine (rsame_any w12 x x).mono ?_
  rintro e w13 ⟨rfl, rfl⟩
  rw [decide_eq_true rfl]
  go_wp2
  go_ret
  exact ⟨ret_b (by simp), hb1⟩

theorem keyB_of_sr {a b : Nat} (ha : a < 2 ^ 64) (hb : b < 2 ^ 64) (na : ¬ isN double a) (nb : ¬ isN double b) (h : sr double a < sr double b) : keyB a < keyB b := by
  have e1 : canonB a = a := by unfold canonB; rw [if_neg na]
  have e2 : canonB b = b := by unfold canonB; rw [if_neg nb]
  rw [keyB_turn, keyB_turn, e1, e2]
  unfold sr sgn rng at h
  rw [s64] at h
  unfold turnB
  have ha2 : a / 2 ^ 63 = if 2 ^ 63 ≤ a then 1 else 0 := by split <;> omega
  have hb2 : b / 2 ^ 63 = if 2 ^ 63 ≤ b then 1 else 0 := by split <;> omega
  rw [ha2, hb2] at h
  by_cases h1 : 2 ^ 63 ≤ a <;> by_cases h2 : 2 ^ 63 ≤ b <;> simp only [h1, h2, if_true, if_false] at h ⊢ <;> simp at h <;> omega
theorem order_lt {a b : Nat} (ha : a < 2 ^ 64) (hb : b < 2 ^ 64) (h : (FloatKind.f64.format.order a b == some .lt) = true) : keyB a < keyB b := by
  have h' : double.order a b = some .lt := eq_of_beq h
  by_cases na : isN double a
  · rw [order_nan bi64 (.inl na)] at h'; cases h'
  · by_cases nb : isN double b
    · rw [order_nan bi64 (.inr nb)] at h'; cases h'
    · rw [order_num bi64 na nb] at h'
      exact keyB_of_sr ha hb na nb (Int.compare_eq_lt.1 (Option.some.inj h'))
theorem order_gt {a b : Nat} (ha : a < 2 ^ 64) (hb : b < 2 ^ 64) (h : (FloatKind.f64.format.order a b == some .gt) = true) : keyB b < keyB a := by
  have h' : double.order a b = some .gt := eq_of_beq h
  by_cases na : isN double a
  · rw [order_nan bi64 (.inl na)] at h'; cases h'
  · by_cases nb : isN double b
    · rw [order_nan bi64 (.inr nb)] at h'; cases h'
    · rw [order_num bi64 na nb] at h'
      exact keyB_of_sr hb ha nb na (Int.compare_eq_gt.1 (Option.some.inj h'))

theorem cmpN_anti (a b : Nat) : cmpN a b = - cmpN b a := by unfold cmpN; (repeat' split) <;> omega
theorem cmpN_zero (a b : Nat) : (cmpN a b == 0) = decide (a = b) := by
  unfold cmpN
  by_cases h : a < b
  · rw [if_pos h, decide_eq_false (by omega)]; rfl
  · by_cases h2 : b < a
    · rw [if_neg h, if_pos h2, decide_eq_false (by omega)]; rfl
    · rw [if_neg h, if_neg h2, decide_eq_true (by omega)]; rfl
theorem cmpN_neg (a b : Nat) : decide (cmpN a b < 0) = decide (a < b) := by
  unfold cmpN
  by_cases h : a < b
  · rw [if_pos h]; simp [h]
  · by_cases h2 : b < a
    · rw [if_neg h, if_pos h2]; simp [h]
    · rw [if_neg h, if_neg h2]; simp [h]
theorem cmpN_trans (a b c : Nat) (h1 : cmpN a b ≤ 0) (h2 : cmpN b c ≤ 0) : cmpN a c ≤ 0 := by
  unfold cmpN at *
  (repeat' split at *) <;> omega

/-- Three on one line: what the walk needs of them. -/
theorem orders_at (w : World) (a b c : Nat) (n m p : Int) (s bl bg : Bool) (ka kb : Nat) (ca cb : Nat)
    (hW : Calls Tryz.prog 9 #[] w fun e w' => e = .returned (.bool true) ∧ Below w.heap.size w w')
    (M1 : Hid (∀ w, Calls Tryz.prog 18 #[.float .f64 a, .float .f64 b] w fun e w' => e = .returned (.int .i64 n) ∧ w' = w))
    (M2 : Hid (∀ w, Calls Tryz.prog 18 #[.float .f64 b, .float .f64 a] w fun e w' => e = .returned (.int .i64 (-n)) ∧ w' = w))
    (M3 : Hid (∀ w, Calls Tryz.prog 18 #[.float .f64 b, .float .f64 c] w fun e w' => e = .returned (.int .i64 m) ∧ w' = w))
    (M4 : Hid (∀ w, Calls Tryz.prog 18 #[.float .f64 a, .float .f64 c] w fun e w' => e = .returned (.int .i64 p) ∧ w' = w))
    (C1 : Hid (∀ w, Calls Tryz.prog 14 #[.float .f64 a] w fun e w' => e = .returned (.float .f64 ca) ∧ w' = w))
    (C2 : Hid (∀ w, Calls Tryz.prog 14 #[.float .f64 b] w fun e w' => e = .returned (.float .f64 cb) ∧ w' = w))
    (SA : Hid (∀ w, Calls Tryz.prog 13 #[.float .f64 ca, .float .f64 cb] w fun e w' => e = .returned (.bool s) ∧ w' = w))
    (K1 : Hid (∀ w, Calls Tryz.prog 16 #[.float .f64 a] w fun e w' => e = .returned (.int .u64 (ka : Int)) ∧ w' = w))
    (K2 : Hid (∀ w, Calls Tryz.prog 16 #[.float .f64 b] w fun e w' => e = .returned (.int .u64 (kb : Int)) ∧ w' = w))
    (hl : (FloatKind.f64.format.order a b == some .lt) = bl) (hg : (FloatKind.f64.format.order a b == some .gt) = bg)
    (hc : (n = -1 ∧ s = false ∧ ka < kb ∧ bg = false) ∨ (n = 0 ∧ s = true ∧ ¬ ka < kb ∧ bl = false ∧ bg = false) ∨ (n = 1 ∧ s = false ∧ ¬ ka < kb ∧ bl = false))
    (ht : (n ≤ 0 ∧ m ≤ 0 ∧ p ≤ 0) ∨ (n ≤ 0 ∧ ¬ m ≤ 0) ∨ n = 1) :
    Calls Tryz.prog 6 #[.int .u64 a, .int .u64 b, .int .u64 c] w fun e w' => e = .returned (.bool true) ∧ Below w.heap.size w w' := by
  go_enter Tryz.func6, Tryz.ntmps6
  go_wp2_with fail
  refine hW.mono ?_
  rintro e w1 ⟨rfl, hb1⟩
  clear hW
  go_wp2_with fail
  refine (rfrom_any w1 a).mono ?_
  rintro e w2 ⟨rfl, rfl⟩
  go_wp2_with fail
  refine (rfrom_any w2 b).mono ?_
  rintro e w3 ⟨rfl, rfl⟩
  go_wp2_with fail
  refine (rfrom_any w3 c).mono ?_
  rintro e w4 ⟨rfl, rfl⟩
  go_wp2_with fail
  refine Calls.mono (M1.out w4) ?_
  rintro e w5 ⟨rfl, rfl⟩
  go_wp2_with fail
  refine Calls.mono (M2.out w5) ?_
  rintro e w6 ⟨rfl, rfl⟩
  rcases hc with ⟨rfl, rfl, hk, rfl⟩ | ⟨rfl, rfl, hk, rfl, rfl⟩ | ⟨rfl, rfl, hk, rfl⟩
  · have hd : decide (ka < kb) = true := decide_eq_true hk
    go_wp2_with fail
    refine Calls.mono (C1.out w6) ?_
    rintro e w7 ⟨rfl, rfl⟩
    go_wp2_with fail
    refine Calls.mono (C2.out w7) ?_
    rintro e w8 ⟨rfl, rfl⟩
    go_wp2_with fail
    refine Calls.mono (SA.out w8) ?_
    rintro e w9 ⟨rfl, rfl⟩
    go_wp2_with fail
    refine Calls.mono (K1.out w9) ?_
    rintro e w10 ⟨rfl, rfl⟩
    go_wp2_with fail
    refine Calls.mono (K2.out w10) ?_
    rintro e w11 ⟨rfl, rfl⟩
    cases bl
    · rcases ht with ⟨_, hm, hp⟩ | ⟨_, hm⟩ | h
      · go_wp2_with fail
        refine Calls.mono (M3.out w11) ?_
        rintro e w12 ⟨rfl, rfl⟩
        have hm' : decide (m ≤ 0) = true := decide_eq_true hm
        go_wp2_with fail
        refine Calls.mono (M4.out w12) ?_
        rintro e w13 ⟨rfl, rfl⟩
        have hp' : decide (p ≤ 0) = true := decide_eq_true hp
        go_wp2
        go_ret
        exact ⟨ret_b (by simp), hb1⟩
      · go_wp2_with fail
        refine Calls.mono (M3.out w11) ?_
        rintro e w12 ⟨rfl, rfl⟩
        have hm' : decide (m ≤ 0) = false := decide_eq_false (by omega)
        go_wp2
        go_ret
        exact ⟨rfl, hb1⟩
      · omega
    · rcases ht with ⟨_, hm, hp⟩ | ⟨_, hm⟩ | h
      · go_wp2_with fail
        refine Calls.mono (M3.out w11) ?_
        rintro e w12 ⟨rfl, rfl⟩
        have hm' : decide (m ≤ 0) = true := decide_eq_true hm
        go_wp2_with fail
        refine Calls.mono (M4.out w12) ?_
        rintro e w13 ⟨rfl, rfl⟩
        have hp' : decide (p ≤ 0) = true := decide_eq_true hp
        go_wp2
        go_ret
        exact ⟨ret_b (by simp), hb1⟩
      · go_wp2_with fail
        refine Calls.mono (M3.out w11) ?_
        rintro e w12 ⟨rfl, rfl⟩
        have hm' : decide (m ≤ 0) = false := decide_eq_false (by omega)
        go_wp2
        go_ret
        exact ⟨rfl, hb1⟩
      · omega
  · have hd : decide (ka < kb) = false := decide_eq_false hk
    go_wp2_with fail
    refine Calls.mono (C1.out w6) ?_
    rintro e w7 ⟨rfl, rfl⟩
    go_wp2_with fail
    refine Calls.mono (C2.out w7) ?_
    rintro e w8 ⟨rfl, rfl⟩
    go_wp2_with fail
    refine Calls.mono (SA.out w8) ?_
    rintro e w9 ⟨rfl, rfl⟩
    go_wp2_with fail
    refine Calls.mono (K1.out w9) ?_
    rintro e w10 ⟨rfl, rfl⟩
    go_wp2_with fail
    refine Calls.mono (K2.out w10) ?_
    rintro e w11 ⟨rfl, rfl⟩
    rcases ht with ⟨_, hm, hp⟩ | ⟨_, hm⟩ | h
    · go_wp2_with fail
      refine Calls.mono (M3.out w11) ?_
      rintro e w12 ⟨rfl, rfl⟩
      have hm' : decide (m ≤ 0) = true := decide_eq_true hm
      go_wp2_with fail
      refine Calls.mono (M4.out w12) ?_
      rintro e w13 ⟨rfl, rfl⟩
      have hp' : decide (p ≤ 0) = true := decide_eq_true hp
      go_wp2
      go_ret
      exact ⟨ret_b (by simp), hb1⟩
    · go_wp2_with fail
      refine Calls.mono (M3.out w11) ?_
      rintro e w12 ⟨rfl, rfl⟩
      have hm' : decide (m ≤ 0) = false := decide_eq_false (by omega)
      go_wp2
      go_ret
      exact ⟨rfl, hb1⟩
    · omega
  · have hd : decide (ka < kb) = false := decide_eq_false hk
    go_wp2_with fail
    refine Calls.mono (C1.out w6) ?_
    rintro e w7 ⟨rfl, rfl⟩
    go_wp2_with fail
    refine Calls.mono (C2.out w7) ?_
    rintro e w8 ⟨rfl, rfl⟩
    go_wp2_with fail
    refine Calls.mono (SA.out w8) ?_
    rintro e w9 ⟨rfl, rfl⟩
    go_wp2_with fail
    refine Calls.mono (K1.out w9) ?_
    rintro e w10 ⟨rfl, rfl⟩
    go_wp2_with fail
    refine Calls.mono (K2.out w10) ?_
    rintro e w11 ⟨rfl, rfl⟩
    clear ht
    cases bg
    · go_wp2
      go_ret
      exact ⟨rfl, hb1⟩
    · go_wp2
      go_ret
      exact ⟨rfl, hb1⟩

theorem orders_walk (w : World) (a b c : Nat) (ha : a < 2 ^ 64) (hb : b < 2 ^ 64) (hc : c < 2 ^ 64) (hv : Vars w) :
    Calls Tryz.prog 6 #[.int .u64 a, .int .u64 b, .int .u64 c] w fun e w' => e = .returned (.bool true) ∧ Below w.heap.size w w' := by
  have M2 := fun w => compare_any w b a hb ha
  rw [show cmpN (keyB b) (keyB a) = - cmpN (keyB a) (keyB b) from cmpN_anti _ _] at M2
  refine orders_at w a b c (cmpN (keyB a) (keyB b)) (cmpN (keyB b) (keyB c)) (cmpN (keyB a) (keyB c)) (decide (canonB a = canonB b)) _ _ (keyB a) (keyB b) (canonB a) (canonB b)
    (wakes_any w hv) (fun w => compare_any w a b ha hb) M2 (fun w => compare_any w b c hb hc) (fun w => compare_any w a c ha hc) (fun w => canon_any w a) (fun w => canon_any w b) (fun w => rsame_any w _ _) (fun w => key_any w a ha) (fun w => key_any w b hb) rfl rfl ?_ ?_
  · have ki := keyB_inj ha hb
    have hl : (FloatKind.f64.format.order a b == some .lt) = true → keyB a < keyB b := order_lt ha hb
    have hg : (FloatKind.f64.format.order a b == some .gt) = true → keyB b < keyB a := order_gt ha hb
    rcases Nat.lt_trichotomy (keyB a) (keyB b) with h | h | h
    · refine .inl ⟨cmpN_lt h, decide_eq_false (fun e => by have := ki.2 e; omega), h, ?_⟩
      cases e : (FloatKind.f64.format.order a b == some .gt)
      · rfl
      · have := hg e; omega
    · refine .inr (.inl ⟨cmpN_eq h, decide_eq_true (ki.1 h), by omega, ?_, ?_⟩)
      · cases e : (FloatKind.f64.format.order a b == some .lt)
        · rfl
        · have := hl e; omega
      · cases e : (FloatKind.f64.format.order a b == some .gt)
        · rfl
        · have := hg e; omega
    · refine .inr (.inr ⟨cmpN_gt h, decide_eq_false (fun e => by have := ki.2 e; omega), by omega, ?_⟩)
      cases e : (FloatKind.f64.format.order a b == some .lt)
      · rfl
      · have := hl e; omega
  · by_cases h1 : cmpN (keyB a) (keyB b) ≤ 0
    · by_cases h2 : cmpN (keyB b) (keyB c) ≤ 0
      · exact .inl ⟨h1, h2, cmpN_trans _ _ _ h1 h2⟩
      · exact .inr (.inl ⟨h1, h2⟩)
    · refine .inr (.inr ?_)
      rcases Nat.lt_trichotomy (keyB a) (keyB b) with h | h | h
      · rw [cmpN_lt h] at h1; omega
      · rw [cmpN_eq h] at h1; omega
      · exact cmpN_gt h
end Go.Proofs.YtklgemnmihpkcaaGreatDoor
