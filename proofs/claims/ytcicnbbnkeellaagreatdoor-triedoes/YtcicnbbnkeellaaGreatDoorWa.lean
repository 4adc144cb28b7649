/- Lists of texts in memory; what slices.IndexFunc answers of them with a function that may make memory, and what topic.covers answers. Conditions: those that each row states. -/
import Derived.Test.YtcicnbbnkeellaaGreatDoorNa
import Derived.Deep.LoopGhost
namespace Go.Proofs.YtcicnbbnkeellaaGreatDoor.To
open Go.RowKit Go.Lib

/-- A text as a value. -/
abbrev str (l : List UInt8) : Value := .string ⟨l.toArray⟩
/-- Texts that lie one behind the other. -/
def RdS (w : World) (b off : Nat) (ws : List (List UInt8)) : Prop := b < w.heap.size ∧ ∀ j (h : j < ws.length), w.cell? ⟨b, off + j, none⟩ = some (str ws[j])
theorem RdS.below {w w' : World} {b off : Nat} {ws : List (List UInt8)} (h : RdS w b off ws) {B : Nat} (hb : Below B w w') (hB : b < B) : RdS w' b off ws :=
  ⟨Nat.lt_of_lt_of_le h.1 (Nat.le_trans (Nat.le_refl _) (by have := hb.size; have := h.1; omega)), fun j hj => by rw [hb.cell (p := ⟨b, off + j, none⟩) hB]; exact h.2 j hj⟩

/-- The place of the first word that may not stand everywhere. -/
def oddL : List (List UInt8) → Nat
  | [] => 0
  | w :: ws => if midW w then oddL ws + 1 else 0
def oddZ (ws : List (List UInt8)) : Int := if oddL ws < ws.length then (oddL ws : Int) else -1
theorem oddL_le (ws : List (List UInt8)) : oddL ws ≤ ws.length := by
  induction ws with
  | nil => simp [oddL]
  | cons w ws ih => unfold oddL; split <;> simp; omega
theorem odd_hit (ws : List (List UInt8)) (k : Nat) (h : k < ws.length) (hk : midW ws[k] = false) (hb : ∀ j (hj : j < ws.length), j < k → midW ws[j] = true) : oddL ws = k := by
  induction ws generalizing k with
  | nil => simp at h
  | cons w ws ih =>
    cases k with
    | zero => unfold oddL; rw [if_neg (by simpa using hk)]
    | succ k =>
      have hb0 : midW w = true := hb 0 (by simp) (by omega)
      unfold oddL
      rw [if_pos hb0, ih k (by simpa using h) (by simpa using hk) (fun j hj hjk => hb (j + 1) (Nat.succ_lt_succ hj) (Nat.succ_lt_succ hjk))]
theorem odd_miss (ws : List (List UInt8)) (hb : ∀ j (hj : j < ws.length), midW ws[j] = true) : oddL ws = ws.length := by
  induction ws with
  | nil => rfl
  | cons w ws ih =>
    have hb0 : midW w = true := hb 0 (by simp)
    unfold oddL
    rw [if_pos hb0, ih (fun j hj => hb (j + 1) (Nat.succ_lt_succ hj))]; rfl
theorem okP_odd (ws : List (List UInt8)) (hne : ws ≠ []) : okP ws = (decide (oddZ ws < 0) || (decide (oddZ ws = (ws.length : Int) - 1) && ws.getLast hne == [35])) := by
  induction ws with
  | nil => exact absurd rfl hne
  | cons a ws ih =>
    cases ws with
    | nil =>
      unfold okP
      cases h : midW a with
      | true => simp [oddZ, oddL, h]
      | false => simp [oddZ, oddL, h]
    | cons b bs =>
      have ih := ih (by simp)
      unfold okP
      cases h : midW a with
      | false =>
        have h0 : oddL (a :: b :: bs) = 0 := by unfold oddL; rw [if_neg (by simp [h])]
        have h1 : oddZ (a :: b :: bs) = 0 := by unfold oddZ; rw [h0]; simp
        rw [h1]
        have : ¬ ((0 : Int) = ((a :: b :: bs).length : Int) - 1) := by simp only [List.length_cons]; omega
        simp only [this]
        simp
      | true =>
        have h0 : oddL (a :: b :: bs) = oddL (b :: bs) + 1 := by rw [oddL, if_pos h]
        have hgl : (a :: b :: bs).getLast hne = (b :: bs).getLast (by simp) := List.getLast_cons (by simp)
        rw [Bool.true_and, ih, hgl]
        have hz : oddZ (a :: b :: bs) = if oddZ (b :: bs) < 0 then -1 else oddZ (b :: bs) + 1 := by
          unfold oddZ
          rw [h0]
          have := oddL_le (b :: bs)
          simp only [List.length_cons] at *
          split <;> split <;> (try split) <;> omega
        have hge : -1 ≤ oddZ (b :: bs) := by unfold oddZ; split <;> omega
        rw [hz]
        congr 1
        · exact decide_eq_decide.2 (by split <;> omega)
        · congr 1
          refine decide_eq_decide.2 ?_
          simp only [List.length_cons]
          split <;> omega

set_option maxHeartbeats 1000000 in
theorem indexFunc_any (w : World) (b c : Nat) (ws : List (List UInt8)) (hw : RdS w b 0 ws) (hn : ws.length ≤ 9223372036854775807)
    (hp : ∀ (W : World) (l : List UInt8), Below w.heap.size w W → Calls Tryz.prog 47 #[str l] W fun e w' => e = .returned (.bool (!midW l)) ∧ Below W.heap.size W w') :
    Calls Tryz.prog 46 #[.slice (some ⟨b, 0, none⟩) ws.length c, .func (.func 47) #[] #[]] w fun e w' => e = .returned (.int .i64 (oddZ ws)) ∧ Below w.heap.size w w' := by
  obtain ⟨n, hnn⟩ : ∃ n, ws.length = n := ⟨_, rfl⟩
  rw [hnn] at hn ⊢
  have HW : Hid (∀ j (h : j < ws.length), w.cell? ⟨b, 0 + j, none⟩ = some (str ws[j])) := hw.2
  have hb0 := hw.1
  clear hw
  have HN : Hid (ws.length = n) := hnn
  clear hnn
  go_enter Tryz.func46, Tryz.ntmps46
  go_wp2_with fail
  go_loopg [5, 8] n (fun gg _ s8 wr => ∃ kk : Nat, kk ≤ n ∧ n - kk ≤ gg ∧ s8 = .int .i64 kk ∧ Below w.heap.size w wr ∧ Hid (∀ j (hj : j < ws.length), j < kk → midW ws[j] = true))
  case atStart => exact ⟨0, Nat.zero_le _, by omega, rfl, Below.refl _ _, fun j _ hj => absurd hj (Nat.not_lt_zero _)⟩
  case round =>
    obtain ⟨kk, hkk, hg, rfl, hbw, A⟩ := hrel
    by_cases hlt : kk < n
    · have hltz : (kk : Int) < (n : Int) := by omega
      have hkl : kk < ws.length := by have := HN.out; omega
      have hcell : wr.cell? ⟨b, 0 + kk, none⟩ = some (str ws[kk]) := by rw [hbw.cell (p := ⟨b, 0 + kk, none⟩) hb0]; exact HW.out kk hkl
      obtain ⟨y, hy⟩ : ∃ y, ws[kk] = y := ⟨_, rfl⟩
      rw [hy] at hcell
      have B : Hid (ws[kk] = y) := hy
      clear hy
      rw [Nat.zero_add] at hcell
      have hcall := hp wr y hbw
      cases hq : midW y with
      | false =>
        rw [hq] at hcall
        go_wp2_with (go_at_call 47; refine hcall.mono ?_; rintro e w' ⟨rfl, hbb⟩)
        go_ret
        refine ⟨?_, hbw.trans (hbb.mono hbw.size)⟩
        have h1 := odd_hit ws kk hkl (by rw [B.out]; exact hq) A.out
        have : oddZ ws = (kk : Int) := by unfold oddZ; rw [h1, if_pos hkl]
        rw [this]; rfl
      | true =>
        rw [hq] at hcall
        go_wp2_with (go_at_call 47; refine hcall.mono ?_; rintro e w' ⟨rfl, hbb⟩)
        go_roundg (n - (kk + 1))
        case measure => omega
        case rel =>
          refine ⟨kk + 1, by omega, by omega, by go_num, hbw.trans (hbb.mono hbw.size), (show Hid _ from fun j hj hjk => ?_)⟩
          by_cases e : j = kk
          · subst e
            rw [B.out]; exact hq
          · exact A.out j hj (by omega)
    · have hltz : ¬ (kk : Int) < (n : Int) := by omega
      have : kk = n := by omega
      subst this
      go_wp2
      go_ret
      refine ⟨?_, hbw⟩
      have h1 := odd_miss ws (fun j hj => A.out j hj (by have := HN.out; omega))
      have : oddZ ws = -1 := by unfold oddZ; rw [h1, if_neg (by omega)]
      rw [this]; rfl

theorem str_eq (a : List UInt8) (b : List UInt8) : ((⟨a.toArray⟩ : ByteArray).toList == (⟨b.toArray⟩ : ByteArray).toList) = (a == b) := by
  rw [ByteArray.toList_eq, ByteArray.toList_eq]

theorem cov_drop (p q : List (List UInt8)) (k : Nat) (h : k < p.length) : cov (p.drop k) (q.drop k) = if p[k] = [35] then true else if h2 : k < q.length then (q[k] != [35] && (p[k] == [42] || p[k] == q[k]) && cov (p.drop (k + 1)) (q.drop (k + 1))) else false := by
  rw [List.drop_eq_getElem_cons h]
  by_cases h2 : k < q.length
  · rw [dif_pos h2, List.drop_eq_getElem_cons h2]
    simp only [cov]
  · rw [dif_neg h2, List.drop_eq_nil_of_le (show q.length ≤ k by omega)]
    simp only [cov]
theorem cov_end (p q : List (List UInt8)) (h : p.length ≤ q.length) : cov (p.drop p.length) (q.drop p.length) = decide (p.length = q.length) := by
  rw [List.drop_length]
  show (q.drop p.length).isEmpty = _
  rw [Bool.eq_iff_iff]
  simp [List.isEmpty_iff, List.drop_eq_nil_iff]
  omega

set_option maxHeartbeats 2000000 in
set_option maxRecDepth 10000 in
theorem covers_any (w : World) (b c b2 c2 : Nat) (p q : List (List UInt8)) (hp : RdS w b 0 p) (hq : RdS w b2 0 q) (hn : p.length ≤ 9223372036854775807) :
    Calls Tryz.prog 67 #[.slice (some ⟨b, 0, none⟩) p.length c, .slice (some ⟨b2, 0, none⟩) q.length c2] w fun e w' => e = .returned (.bool (cov p q)) ∧ w' = w := by
  obtain ⟨n, hnn⟩ : ∃ n, p.length = n := ⟨_, rfl⟩
  obtain ⟨m, hmm⟩ : ∃ m, q.length = m := ⟨_, rfl⟩
  rw [hnn] at hn ⊢
  rw [hmm]
  have HP : Hid (∀ j (h : j < p.length), w.cell? ⟨b, 0 + j, none⟩ = some (str p[j])) := hp.2
  have HQ : Hid (∀ j (h : j < q.length), w.cell? ⟨b2, 0 + j, none⟩ = some (str q[j])) := hq.2
  clear hp hq
  have HN : Hid (p.length = n) := hnn
  have HM : Hid (q.length = m) := hmm
  clear hnn hmm
  obtain ⟨r, hr⟩ : ∃ r, cov p q = r := ⟨_, rfl⟩
  rw [hr]
  have H0 : Hid (cov (p.drop 0) (q.drop 0) = r) := hr
  clear hr
  go_enter Tryz.func67, Tryz.ntmps67
  go_wp2_with fail
  go_loopg [5, 6, 9] n (fun gg _ _ s9 wr => ∃ kk : Nat, kk ≤ n ∧ kk ≤ m ∧ n - kk ≤ gg ∧ s9 = .int .i64 kk ∧ wr = w ∧ Hid (cov (p.drop kk) (q.drop kk) = r))
  case atStart => exact ⟨0, Nat.zero_le _, Nat.zero_le _, by omega, rfl, rfl, H0⟩
  case round =>
    obtain ⟨kk, hkk, hkm, hg, rfl, rfl, A⟩ := hrel
    by_cases hlt : kk < n
    · have hltz : (kk : Int) < (n : Int) := by omega
      have hkl : kk < p.length := by have := HN.out; omega
      have hcell := HP.out kk hkl
      have C := cov_drop p q kk hkl
      rw [A.out] at C
      obtain ⟨y, hy⟩ : ∃ y, p[kk] = y := ⟨_, rfl⟩
      rw [hy] at hcell C
      clear hy
      rw [Nat.zero_add] at hcell
      have C : Hid _ := C
      cases e35 : (y == [35]) with
      | true =>
        have hr : r = true := by rw [C.out, if_pos (beq_iff_eq.1 e35)]
        have hr : Hid _ := hr
        clear C A H0 HP HQ HN HM hkm hg hkk hkl
        go_wp2
        go_ret
        exact ⟨ret_b hr.out.symm, rfl⟩
      | false =>
        have hy35 : Hid (¬ y = [35]) := by rw [beq_eq_false_iff_ne] at e35; exact e35
        by_cases hq2 : kk < m
        · have hql : kk < q.length := by have := HM.out; omega
          have C : Hid (r = (q[kk] != [35] && (y == [42] || y == q[kk]) && cov (p.drop (kk + 1)) (q.drop (kk + 1)))) := by have := C.out; rw [if_neg hy35.out, dif_pos hql] at this; exact this
          have hcell2 := HQ.out kk hql
          obtain ⟨z, hz⟩ : ∃ z, q[kk] = z := ⟨_, rfl⟩
          rw [hz] at hcell2
          have C : Hid (r = (z != [35] && (y == [42] || y == z) && cov (p.drop (kk + 1)) (q.drop (kk + 1)))) := by have := C.out; rw [hz] at this; exact this
          clear hz
          rw [Nat.zero_add] at hcell2
          have hne : ((kk : Int) == (m : Int)) = false := by rw [beq_eq_false_iff_ne]; omega
          cases hz35 : (z == [35]) with
          | true =>
            have hr : r = false := by rw [C.out, bne, hz35]; rfl
            have hr : Hid _ := hr
            clear C A H0 HP HQ HN HM hy35 hkm hg hkk
            go_wp2
            go_ret
            exact ⟨ret_b hr.out.symm, rfl⟩
          | false =>
            have C : Hid (r = ((y == [42] || y == z) && cov (p.drop (kk + 1)) (q.drop (kk + 1)))) := by have := C.out; rw [bne, hz35] at this; exact this
            cases hy42 : (y == [42]) with
            | true =>
              have C : Hid (r = (cov (p.drop (kk + 1)) (q.drop (kk + 1)))) := by have := C.out; rw [hy42] at this; exact this
              go_wp2
              go_roundg (n - (kk + 1))
              case measure => omega
              case rel => exact ⟨kk + 1, by omega, by omega, by omega, by go_num, rfl, C.out.symm⟩
            | false =>
              cases hyz : (y == z) with
              | true =>
                have C : Hid (r = (cov (p.drop (kk + 1)) (q.drop (kk + 1)))) := by have := C.out; rw [hy42, hyz] at this; exact this
                go_wp2
                go_roundg (n - (kk + 1))
                case measure => omega
                case rel => exact ⟨kk + 1, by omega, by omega, by omega, by go_num, rfl, C.out.symm⟩
              | false =>
                have hr : r = false := by rw [C.out, hy42, hyz]; rfl
                have hr : Hid _ := hr
                clear C A H0 HP HQ HN HM hy35 hkm hg hkk
                go_wp2
                go_ret
                exact ⟨ret_b hr.out.symm, rfl⟩
        · have hkm2 : kk = m := by omega
          have hr : r = false := by rw [C.out, if_neg hy35.out, dif_neg (by have := HM.out; omega)]
          have hr : Hid _ := hr
          have hkz : ((kk : Int) == (m : Int)) = true := by rw [beq_iff_eq]; omega
          clear C A H0 hq2 HP HQ HN HM hy35 hkm hg hkk hkl hkm2
          go_wp2
          go_ret
          exact ⟨ret_b hr.out.symm, rfl⟩
    · have hltz : ¬ (kk : Int) < (n : Int) := by omega
      have : kk = n := by omega
      subst this
      have C := A.out
      rw [← HN.out, cov_end p q (by have := HN.out; have := HM.out; omega)] at C
      have C2 : r = ((kk : Int) == (m : Int)) := by rw [← C, HN.out, HM.out]; rw [Bool.eq_iff_iff, decide_eq_true_iff, beq_iff_eq]; omega
      have C2 : Hid _ := C2
      clear C
      go_wp2
      go_ret
      exact ⟨rfl, rfl⟩
end Go.Proofs.YtcicnbbnkeellaaGreatDoor.To
