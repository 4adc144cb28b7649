
/- The library's uscale, of any numbers. -/
import Derived.Test.YtlhfdklfkfodkabDoorFt
set_option maxRecDepth 100000
namespace Go.Proofs.YtlhfdklfkfodkabDoor.Ff
open Go.RowKit Go.Lib Go.Sort

/-- What uscale answers: x times the 128 bits of hi and lo, 64 and s places down, with a last bit that tells whether anything was left. -/
def usc (x hi lo s : Nat) : Nat :=
  let h := x * hi / 2 ^ 64
  if h % 2 ^ s ≠ 0 then h / 2 ^ s ||| 1
  else
    let mid := x * hi % 2 ^ 64
    let mid2 := x * lo / 2 ^ 64
    let h' := (h + 2 ^ 64 - (if mid < mid2 then 1 else 0)) % 2 ^ 64
    h' / 2 ^ s ||| (if 1 < (mid + 2 ^ 64 - mid2) % 2 ^ 64 then 1 else 0)

theorem and63i (s : Nat) (hs : s < 64) : bits .and .i64 (s : Int) 63 = (s : Int) := by
  have : ∀ t : Fin 64, bits .and .i64 (t.val : Int) 63 = (t.val : Int) := by decide
  exact this ⟨s, hs⟩

theorem wrap_back (a s : Nat) (ha : a < 18446744073709551616) : IntKind.u64.wrap ((a : Int) / 2 ^ s * 2 ^ s) = ((a / 2 ^ s * 2 ^ s : Nat) : Int) := by
  have e : (a : Int) / 2 ^ s * 2 ^ s = ((a / 2 ^ s * 2 ^ s : Nat) : Int) := by simp
  have h : a / 2 ^ s * 2 ^ s ≤ a := Nat.div_mul_le_self a _
  rw [e, IntKind.wrap_u64]
  generalize a / 2 ^ s * 2 ^ s = t at *
  omega
theorem back_ne (a s : Nat) (ha : a < 18446744073709551616) : (IntKind.u64.wrap ((a : Int) / 2 ^ s * 2 ^ s) != (a : Int)) = decide (a % 2 ^ s ≠ 0) := by
  rw [wrap_back a s ha]
  have h := Nat.div_add_mod a (2 ^ s)
  rw [Nat.mul_comm] at h
  by_cases hz : a % 2 ^ s = 0
  · rw [hz, Nat.add_zero] at h
    rw [h]
    simp [hz]
  · rw [decide_eq_true hz, bne_iff_ne]
    intro e
    omega

set_option maxHeartbeats 2000000 in
theorem uscale_odd (w : World) (q x hi s : Nat) (hx : x < 18446744073709551616) (hh : hi < 18446744073709551616) (hs : s < 64)
    (c0 : w.cell? ⟨q, 0, none⟩ = some (.int .u64 hi)) (c2 : w.cell? ⟨q, 2, none⟩ = some (.int .i64 s)) (hodd : x * hi / 18446744073709551616 % 2 ^ s ≠ 0) :
    Calls Tryd.prog 62 #[.int .u64 x, .pointer (some ⟨q, 0, none⟩)] w fun e w' => e = .returned (.int .u64 (bits .or .u64 ((x * hi / 18446744073709551616 : Nat) / 2 ^ s : Int) 1)) ∧ w' = w := by
  have hM := Tryd.bits_Mul64 x hi hx hh w
  have ha : x * hi / 18446744073709551616 < 18446744073709551616 := (Nat.div_lt_iff_lt_mul (by omega)).2 (Nat.mul_lt_mul'' hx hh)
  have h63 := and63i s hs
  generalize x * hi / 18446744073709551616 = a at *
  generalize x * hi % 18446744073709551616 = b at *
  have hne := back_ne a s ha
  rw [decide_eq_true hodd] at hne
  clear hx hh hodd ha
  go_enter Tryd.func62, Tryd.ntmps62
  go_wp2_with fail
  refine hM.mono ?_
  rintro e w1 ⟨rfl, rfl⟩
  clear hM
  go_wp2
  go_ret
  exact ⟨rfl, rfl⟩

set_option maxHeartbeats 4000000 in
theorem uscale_even (w : World) (q x hi lo s : Nat) (hx : x < 18446744073709551616) (hh : hi < 18446744073709551616) (hl : lo < 18446744073709551616) (hs : s < 64)
    (c0 : w.cell? ⟨q, 0, none⟩ = some (.int .u64 hi)) (c1 : w.cell? ⟨q, 1, none⟩ = some (.int .u64 lo)) (c2 : w.cell? ⟨q, 2, none⟩ = some (.int .i64 s)) (hev : x * hi / 18446744073709551616 % 2 ^ s = 0)
    (b1 b2 : Bool) (h' m : Nat) (hb1 : decide (x * hi % 18446744073709551616 < x * lo / 18446744073709551616) = b1)
    (hh' : IntKind.u64.wrap (((x * hi / 18446744073709551616 : Nat) : Int) - (if b1 then 1 else 0)) = (h' : Int))
    (hm : IntKind.u64.wrap (((x * hi % 18446744073709551616 : Nat) : Int) - ((x * lo / 18446744073709551616 : Nat) : Int)) = (m : Int)) (hb2 : decide ((1 : Int) < (m : Int)) = b2) :
    Calls Tryd.prog 62 #[.int .u64 x, .pointer (some ⟨q, 0, none⟩)] w fun e w' => e = .returned (.int .u64 (bits .or .u64 ((h' : Int) / 2 ^ s) (if b2 then 1 else 0))) ∧ ∃ n, w' = w.drewN n := by
  have hM := Tryd.bits_Mul64 x hi hx hh w
  have hM2 := Tryd.bits_Mul64 x lo hx hl w
  have ha : x * hi / 18446744073709551616 < 18446744073709551616 := (Nat.div_lt_iff_lt_mul (by omega)).2 (Nat.mul_lt_mul'' hx hh)
  have h63 := and63i s hs
  generalize x * hi / 18446744073709551616 = a at *
  generalize x * hi % 18446744073709551616 = b at *
  generalize x * lo / 18446744073709551616 = a2 at *
  generalize x * lo % 18446744073709551616 = d2 at *
  have hne := back_ne a s ha
  rw [decide_eq_false (by omega)] at hne
  clear hx hh hl hev ha
  have hB1 := bool2u_any w b1
  have HB2 : Hid (∀ w, Calls Tryd.prog 76 #[.bool b2] w fun e w' => e = .returned (.int .u64 (if b2 then 1 else 0)) ∧ w' = w) := fun w => bool2u_any w b2
  generalize (if b1 then (1 : Int) else 0) = c at *
  generalize (if b2 then (1 : Int) else 0) = d at *
  go_enter Tryd.func62, Tryd.ntmps62
  go_wp2_with fail
  refine hM.mono ?_
  rintro e w1 ⟨rfl, rfl⟩
  clear hM
  go_wp2_with fail
  refine hM2.mono ?_
  rintro e w2 ⟨rfl, rfl⟩
  clear hM2
  go_wp2_with fail
  refine hB1.mono ?_
  rintro e w3 ⟨rfl, rfl⟩
  clear hB1
  go_upto_region 7 with fail
  refine wp_region_held (S := fun _ => True) hmix ?_
  show wpAnyH _ _ _ _ _ _ _ _ w3.drew
  have hS : (fun _ : World => True) w3.drew := trivial
  refine wpAnyH_take (i := 0) (v := .int .u64 h') rfl (by kernel_rfl) (by kernel_rfl) (by kernel_rfl) (fun _ _ _ h => h) (.inl ⟨by rfl, fun W' hW' => ?_⟩) hS ?_
  · go_simp
  dsimp only [Act.put]
  refine wpAnyH_take (i := 1) (v := .int .i64 s) rfl (by kernel_rfl) (by kernel_rfl) (by kernel_rfl) (fun _ _ _ h => h) (.inl ⟨by rfl, fun W' hW' => ?_⟩) hS ?_
  · go_simp
  dsimp only [Act.put]
  refine wpAnyH_take (i := 2) (v := .int .u64 ((h' : Int) / 2 ^ s)) rfl (by kernel_rfl) (by kernel_rfl) (by kernel_rfl) (fun _ _ _ h => h) (.inl ⟨by rfl, fun W' hW' => ?_⟩) hS ?_
  · go_simp
  dsimp only [Act.put]
  refine wpAnyH_take (i := 3) (v := .int .u64 b) rfl (by kernel_rfl) (by kernel_rfl) (by kernel_rfl) (fun _ _ _ h => h) (.inl ⟨by rfl, fun W' hW' => ?_⟩) hS ?_
  · go_simp
  dsimp only [Act.put]
  refine wpAnyH_take (i := 4) (v := .int .u64 a2) rfl (by kernel_rfl) (by kernel_rfl) (by kernel_rfl) (fun _ _ _ h => h) (.inl ⟨by rfl, fun W' hW' => ?_⟩) hS ?_
  · go_simp
  dsimp only [Act.put]
  refine wpAnyH_take (i := 5) (v := .int .u64 m) rfl (by kernel_rfl) (by kernel_rfl) (by kernel_rfl) (fun _ _ _ h => h) (.inl ⟨by rfl, fun W' hW' => ?_⟩) hS ?_
  · go_simp
  dsimp only [Act.put]
  refine wpAnyH_take (i := 6) (v := .bool b2) rfl (by kernel_rfl) (by kernel_rfl) (by kernel_rfl) (fun _ _ _ h => h) (.inl ⟨by rfl, fun W' hW' => ?_⟩) hS ?_
  · go_simp
  dsimp only [Act.put]
  refine wpAnyH_one (i := 7) (by kernel_rfl) rfl (by rfl) (fun K hK => ?_)
  go_simp
  refine Calls.mono (HB2.out _) ?_
  rintro e w4 ⟨rfl, rfl⟩
  show K _ _
  refine hK _ _ trivial ?_
  clear hK K
  refine wpAnyH_take (i := 8) (v := .int .u64 (bits .or .u64 ((h' : Int) / 2 ^ s) d)) rfl (by kernel_rfl) (by kernel_rfl) (by kernel_rfl) (fun _ _ _ h => h) (.inl ⟨by rfl, fun W' hW' => ?_⟩) hS ?_
  · go_simp
  dsimp only [Act.put]
  refine wpAnyH_take (i := 9) (v := .int .u64 (bits .or .u64 ((h' : Int) / 2 ^ s) d)) rfl (by kernel_rfl) (by kernel_rfl) (by kernel_rfl) (fun _ _ _ h => h) (.inl ⟨by rfl, fun W' hW' => ?_⟩) hS ?_
  · go_simp
  dsimp only [Act.put]
  refine wpAnyH_done (by kernel_rfl) ?_ _
  go_wp2
  go_ret
  exact ⟨rfl, 1, rfl⟩

theorem or1_nat (a : Nat) (ha : a < 18446744073709551616) (c : Nat) (hc : c ≤ 1) : bits .or .u64 (a : Int) (c : Int) = ((a ||| c : Nat) : Int) := bits_or_u64_nat _ _ ha (by omega)
theorem usc_lt (x hi lo s : Nat) (hx : x < 18446744073709551616) (hh : hi < 18446744073709551616) : usc x hi lo s < 2 ^ 64 := by
  have ha : x * hi / 2 ^ 64 < 2 ^ 64 := (Nat.div_lt_iff_lt_mul (by omega)).2 (Nat.mul_lt_mul'' hx hh)
  unfold usc
  dsimp only
  split
  · exact Nat.or_lt_two_pow (Nat.lt_of_le_of_lt (Nat.div_le_self _ _) ha) (by omega)
  · refine Nat.or_lt_two_pow (Nat.lt_of_le_of_lt (Nat.div_le_self _ _) (Nat.mod_lt _ (by omega))) ?_
    split <;> omega
theorem uscale_any (w : World) (q x hi lo s : Nat) (hx : x < 18446744073709551616) (hh : hi < 18446744073709551616) (hl : lo < 18446744073709551616) (hs : s < 64)
    (c0 : w.cell? ⟨q, 0, none⟩ = some (.int .u64 hi)) (c1 : w.cell? ⟨q, 1, none⟩ = some (.int .u64 lo)) (c2 : w.cell? ⟨q, 2, none⟩ = some (.int .i64 s)) :
    Calls Tryd.prog 62 #[.int .u64 x, .pointer (some ⟨q, 0, none⟩)] w fun e w' => e = .returned (.int .u64 (usc x hi lo s : Nat)) ∧ ∃ n, w' = w.drewN n := by
  have ha : x * hi / 2 ^ 64 < 2 ^ 64 := (Nat.div_lt_iff_lt_mul (by omega)).2 (Nat.mul_lt_mul'' hx hh)
  have ha2 : x * lo / 2 ^ 64 < 2 ^ 64 := (Nat.div_lt_iff_lt_mul (by omega)).2 (Nat.mul_lt_mul'' hx hl)
  by_cases hev : x * hi / 2 ^ 64 % 2 ^ s = 0
  · have h := uscale_even w q x hi lo s hx hh hl hs c0 c1 c2 hev _ _ ((x * hi / 2 ^ 64 + 2 ^ 64 - (if x * hi % 2 ^ 64 < x * lo / 2 ^ 64 then 1 else 0)) % 2 ^ 64) ((x * hi % 2 ^ 64 + 2 ^ 64 - x * lo / 2 ^ 64) % 2 ^ 64) rfl ?_ ?_ rfl
    · refine h.mono ?_
      rintro e w1 ⟨rfl, n, rfl⟩
      refine ⟨ret_i ?_, n, rfl⟩
      have e1 : ∀ (t : Nat), ((t : Int) / 2 ^ s) = ((t / 2 ^ s : Nat) : Int) := fun t => by simp
      rw [e1]
      unfold usc
      dsimp only
      rw [if_neg (show ¬ (x * hi / 2 ^ 64 % 2 ^ s ≠ 0) from fun h => h hev)]
      have hlt : (x * hi / 2 ^ 64 + 2 ^ 64 - (if x * hi % 2 ^ 64 < x * lo / 2 ^ 64 then 1 else 0)) % 2 ^ 64 / 2 ^ s < 18446744073709551616 := Nat.lt_of_le_of_lt (Nat.div_le_self _ _) (Nat.mod_lt _ (by omega))
      generalize (x * hi / 2 ^ 64 + 2 ^ 64 - (if x * hi % 2 ^ 64 < x * lo / 2 ^ 64 then 1 else 0)) % 2 ^ 64 / 2 ^ s = Q at *
      generalize (x * hi % 2 ^ 64 + 2 ^ 64 - x * lo / 2 ^ 64) % 2 ^ 64 = M at *
      by_cases hg : 1 < M
      · have hgi : (1 : Int) < (M : Int) := by omega
        rw [decide_eq_true hgi, if_pos hg, if_pos rfl]
        exact or1_nat _ hlt 1 (by omega)
      · have hgi : ¬ (1 : Int) < (M : Int) := by omega
        rw [decide_eq_false hgi, if_neg hg, if_neg (by decide)]
        exact or1_nat _ hlt 0 (by omega)
    · rw [IntKind.wrap_u64]
      have e2 : x * hi / 18446744073709551616 = x * hi / 2 ^ 64 := rfl
      have e3 : x * hi % 18446744073709551616 = x * hi % 2 ^ 64 := rfl
      have e4 : x * lo / 18446744073709551616 = x * lo / 2 ^ 64 := rfl
      rw [e2, e3, e4]
      generalize x * hi / 2 ^ 64 = a at *
      generalize x * hi % 2 ^ 64 = b at *
      generalize x * lo / 2 ^ 64 = a2 at *
      by_cases hc : b < a2
      · rw [decide_eq_true hc, if_pos hc, if_pos rfl]; omega
      · rw [decide_eq_false hc, if_neg hc, if_neg (by decide)]; omega
    · rw [IntKind.wrap_u64]
      have e3 : x * hi % 18446744073709551616 = x * hi % 2 ^ 64 := rfl
      have e4 : x * lo / 18446744073709551616 = x * lo / 2 ^ 64 := rfl
      rw [e3, e4]
      have hb : x * hi % 2 ^ 64 < 2 ^ 64 := Nat.mod_lt _ (by omega)
      generalize x * hi % 2 ^ 64 = b at *
      generalize x * lo / 2 ^ 64 = a2 at *
      omega
  · refine (uscale_odd w q x hi s hx hh hs c0 c2 hev).mono ?_
    rintro e w1 ⟨rfl, rfl⟩
    refine ⟨ret_i ?_, 0, rfl⟩
    have e1 : (((x * hi / 18446744073709551616 : Nat) : Int) / 2 ^ s) = ((x * hi / 2 ^ 64 / 2 ^ s : Nat) : Int) := by simp
    rw [e1]
    unfold usc
    dsimp only
    rw [if_pos hev]
    exact or1_nat _ (Nat.lt_of_le_of_lt (Nat.div_le_self _ _) ha) 1 (by omega)
end Go.Proofs.YtlhfdklfkfodkabDoor.Ff
