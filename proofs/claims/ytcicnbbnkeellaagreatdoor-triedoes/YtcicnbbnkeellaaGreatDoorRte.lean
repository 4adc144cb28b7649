/- The law's same: whether two lists of numbers are the same. Conditions: those that each row states. -/
import Derived.Test.YtcicnbbnkeellaaGreatDoorRtc
namespace Go.Proofs.YtcicnbbnkeellaaGreatDoor.To
open Go.RowKit Go.Lib
set_option maxRecDepth 10000

set_option maxHeartbeats 2000000 in
theorem same_any (w : World) (va vb : Value) (a b : List Int) (ha : RdV w va (zs a)) (hb : RdV w vb (zs b)) (hl : a.length ≤ 1000) :
    Calls Tryz.prog 14 #[va, vb] w fun e w' => e = .returned (.bool (decide (a = b))) ∧ ∃ d, w' = w.drewN d := by
  obtain ⟨aa, ca, rfl⟩ := ha.len
  obtain ⟨ab, cb, rfl⟩ := hb.len
  rw [zs_len] at ha hb ⊢
  rw [zs_len]
  obtain ⟨n, hn⟩ : ∃ n, a.length = n := ⟨_, rfl⟩
  obtain ⟨m, hm⟩ : ∃ m, b.length = m := ⟨_, rfl⟩
  have HN : Hid (a.length = n) := hn
  have HM : Hid (b.length = m) := hm
  rw [hn] at ha hl ⊢
  rw [hm] at hb ⊢
  have HA : Hid (RdV w (.slice aa n ca) (zs a)) := ha
  have HB : Hid (RdV w (.slice ab m cb) (zs b)) := hb
  have hn63 : (n : Int) ≤ 9223372036854775807 := by omega
  clear ha hb hn hm hl
  by_cases hnm : n = m
  · subst hnm
    obtain ⟨r, hr⟩ : ∃ r, decide (a = b) = r := ⟨_, rfl⟩
    rw [hr]
    have HRR : Hid (decide (a = b) = r) := hr
    clear hr
    go_enter Tryz.func14, Tryz.ntmps14
    go_wp2_with fail
    go_loopg [5, 13] n (fun gg _ s13 wx => ∃ kk dd : Nat, kk ≤ n ∧ n - kk ≤ gg ∧ s13 = .int .i64 kk ∧ wx = w.drewN dd ∧ Hid (∀ j (hj : j < a.length) (hj2 : j < b.length), j < kk → a[j] = b[j]))
    case atStart => exact ⟨0, 0, Nat.zero_le _, by omega, rfl, rfl, fun j _ _ hj => absurd hj (Nat.not_lt_zero _)⟩
    case round =>
      obtain ⟨kk, dd, hkk, hg, rfl, rfl, A⟩ := hrel
      by_cases hlt : kk < n
      · have hltz : (kk : Int) < (n : Int) := by omega
        have hka : kk < a.length := by have := HN.out; omega
        have hkb : kk < b.length := by have := HM.out; omega
        obtain ⟨ga, oa, rfl, da⟩ := RdV.at HA.out (j := kk) (by rw [zs_len]; exact hka)
        obtain ⟨gb, ob, rfl, db⟩ := RdV.at HB.out (j := kk) (by rw [zs_len]; exact hkb)
        obtain ⟨x, hx⟩ : ∃ x, a[kk] = x := ⟨_, rfl⟩
        obtain ⟨y, hy⟩ : ∃ y, b[kk] = y := ⟨_, rfl⟩
        have f1 : ∀ d, (w.drewN d).cell? ⟨ga, oa + kk, none⟩ = some (.int .i64 x) := fun d => by
          show w.cell? _ = _
          rw [da, ← hx]; simp [zs]
        have f2 : ∀ d, (w.drewN d).cell? ⟨gb, ob + kk, none⟩ = some (.int .i64 y) := fun d => by
          show w.cell? _ = _
          rw [db, ← hy]; simp [zs]
        have HX : Hid (a[kk] = x) := hx
        have HY : Hid (b[kk] = y) := hy
        clear hx hy da db
        go_upto_region 6 with fail
        cases hxy : (x == y) with
        | true =>
          have A2 : Hid (∀ j (hj : j < a.length) (hj2 : j < b.length), j < kk + 1 → a[j] = b[j]) := fun j hj hj2 hjk => by
            by_cases e : j = kk
            · subst e
              rw [HX.out, HY.out]; exact beq_iff_eq.1 hxy
            · exact A.out j hj hj2 (by omega)
          clear A
          go_quiet (fail)
          go_wp2
          go_roundg (n - (kk + 1))
          case measure => omega
          case rel => exact ⟨kk + 1, _, by omega, by omega, by go_num, rfl, A2.out⟩
        | false =>
          have hr : Hid (r = false) := by
            show r = false
            rw [← HRR.out, decide_eq_false_iff_not]
            intro e
            subst e
            rw [beq_eq_false_iff_ne] at hxy
            exact hxy (HX.out.symm.trans HY.out)
          clear A
          go_quiet (fail)
          go_wp2
          go_ret
          exact ⟨ret_b hr.out.symm, _, World.drewN_drewN ..⟩
      · have hltz : ¬ (kk : Int) < (n : Int) := by omega
        have hr : Hid (r = true) := by
          show r = true
          rw [← HRR.out, decide_eq_true_eq]
          refine List.ext_getElem (by rw [HN.out, HM.out]) (fun i h1 h2 => A.out i h1 h2 (by have := HN.out; omega))
        clear A
        go_wp2
        go_ret
        exact ⟨ret_b hr.out.symm, _, rfl⟩
  · have hne : ((n : Int) == (m : Int)) = false := by rw [beq_eq_false_iff_ne]; omega
    have hr : decide (a = b) = false := by
      rw [decide_eq_false_iff_not]
      intro e
      exact hnm (by rw [← HN.out, ← HM.out, e])
    rw [hr]
    clear HA HB
    go_enter Tryz.func14, Tryz.ntmps14
    go_wp2
    go_ret
    exact ⟨rfl, 0, rfl⟩
end Go.Proofs.YtcicnbbnkeellaaGreatDoor.To
