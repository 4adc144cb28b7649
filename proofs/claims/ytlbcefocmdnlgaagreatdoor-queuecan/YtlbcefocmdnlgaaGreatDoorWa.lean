
/- Lists of texts in memory; what slices.IndexFunc answers of them with a function that may make memory, and what topic.covers answers. Conditions: those that each row states. -/
import Derived.Test.YtlbcefocmdnlgaaGreatDoorNa
import Derived.Deep.LoopGhost
namespace Go.Proofs.YtlbcefocmdnlgaaGreatDoor.To
open Go.RowKit Go.Lib

/-- A text as a value. -/
abbrev str (l : List UInt8) : Value := .string ⟨l.toArray⟩
/-- Texts that lie one behind the other. -/
def RdS (w : World) (b off : Nat) (ws : List (List UInt8)) : Prop := b < w.heap.size ∧ ∀ j (h : j < ws.length), w.cell? ⟨b, off + j, none⟩ = some (str ws[j])
theorem RdS.below {w w' : World} {b off : Nat} {ws : List (List UInt8)} (h : RdS w b off ws) {B : Nat} (hb : Below B w w') (hB : b < B) : RdS w' b off ws :=
  ⟨Nat.lt_of_lt_of_le h.1 (Nat.le_trans (Nat.le_refl _) (by have := hb.size; have := h.1; omega)), fun j hj => by rw [hb.cell (p := ⟨b, off + j, none⟩) hB]; exact h.2 j hj⟩

/-- The place of the first word that may not stand everywhere. -/
def oddL : List (List UInt8) → Nat
  | [] => 0
  | w :: ws => if midW w then oddL ws + 1 else 0
def oddZ (ws : List (List UInt8)) : Int := if oddL ws < ws.length then (oddL ws : Int) else -1
theorem oddL_le (ws : List (List UInt8)) : oddL ws ≤ ws.length := by
  induction ws with
  | nil => simp [oddL]
  | cons w ws ih => unfold oddL; split <;> simp; omega
theorem odd_hit (ws : List (List UInt8)) (k : Nat) (h : k < ws.length) (hk : midW ws[k] = false) (hb : ∀ j (hj : j < ws.length), j < k → midW ws[j] = true) : oddL ws = k := by
  induction ws generalizing k with
  | nil => simp at h
  | cons w ws ih =>
    cases k with
    | zero => unfold oddL; rw [if_neg (by simpa using hk)]
    | succ k =>
      have hb0 : midW w = true := hb 0 (by simp) (by omega)
      unfold oddL
      rw [if_pos hb0, ih k (by simpa using h) (by simpa using hk) (fun j hj hjk => hb (j + 1) (Nat.succ_lt_succ hj) (Nat.succ_lt_succ hjk))]
theorem odd_miss (ws : List (List UInt8)) (hb : ∀ j (hj : j < ws.length), midW ws[j] = true) : oddL ws = ws.length := by
  induction ws with
  | nil => rfl
  | cons w ws ih =>
    have hb0 : midW w = true := hb 0 (by simp)
    unfold oddL
    rw [if_pos hb0, ih (fun j hj => hb (j + 1) (Nat.succ_lt_succ hj))]; rfl
theorem okP_odd (ws : List (List UInt8)) (hne : ws ≠ []) : okP ws = (decide (oddZ ws < 0) || (decide (oddZ ws = (ws.length : Int) - 1) && ws.getLast hne == [35])) := by
  induction ws with
  | nil => exact absurd rfl hne
  | cons a ws ih =>
    cases ws with
    | nil =>
      unfold okP
      cases h : midW a with
      | true => simp [oddZ, oddL, h]
      | false => simp [oddZ, oddL, h]
    | cons b bs =>
      have ih := ih (by simp)
      unfold okP
      cases h : midW a with
      | false =>
        have h0 : oddL (a :: b :: bs) = 0 := by unfold oddL; rw [if_neg (by simp [h])]
        have h1 : oddZ (a :: b :: bs) = 0 := by unfold oddZ; rw [h0]; simp
        rw [h1]
        have : ¬ ((0 : Int) = ((a :: b :: bs).length : Int) - 1) := by simp only [List.length_cons]; omega
        simp only [this]
        simp
      | true =>
        have h0 : oddL (a :: b :: bs) = oddL (b :: bs) + 1 := by rw [oddL, if_pos h]
        have hgl : (a :: b :: bs).getLast hne = (b :: bs).getLast (by simp) := List.getLast_cons (by simp)
        rw [Bool.true_and, ih, hgl]
        have hz : oddZ (a :: b :: bs) = if oddZ (b :: bs) < 0 then -1 else oddZ (b :: bs) + 1 := by
          unfold oddZ
          rw [h0]
          have := oddL_le (b :: bs)
          simp only [List.length_cons] at *
          split <;> split <;> (try split) <;> omega
        have hge : -1 ≤ oddZ (b :: bs) := by unfold oddZ; split <;> omega
        rw [hz]
        congr 1
        · exact decide_eq_decide.2 (by split <;> omega)
        · congr 1
          refine decide_eq_decide.2 ?_
          simp only [List.length_cons]
          split <;> omega

set_option maxHeartbeats 1000000 in
theorem indexFunc_any (w : World) (b c : Nat) (ws : List (List UInt8)) (hw : RdS w b 0 ws) (hn : ws.length ≤ 9223372036854775807)
    (hp : ∀ (W : World) (l : List UInt8), Below w.heap.size w W → Calls Tryz.prog 79 #[str l] W fun e w' => e = .returned (.bool (!midW l)) ∧ Below W.heap.size W w') :
    Calls Tryz.prog 78 #[.slice (some ⟨b, 0, none⟩) ws.length c, .func (.func 79) #[] #[]] w fun e w' => e = .returned (.int .i64 (oddZ ws)) ∧ Below w.heap.size w w' := by
  obtain ⟨n, hnn⟩ : ∃ n, ws.length = n := ⟨_, rfl⟩
  rw [hnn] at hn ⊢
  have HW : Hid (∀ j (h : j < ws.length), w.cell? ⟨b, 0 + j, none⟩ = some (str ws[j])) := hw.2
  have hb0 := hw.1
  clear hw
  have HN : Hid (ws.length = n) := hnn
  clear hnn
  go_enter Tryz.func78, Tryz.ntmps78
  go_wp2_with fail
  go_loopg [5, 8] n (fun gg _ s8 wr => ∃ kk : Nat, kk ≤ n ∧ n - kk ≤ gg ∧ s8 = .int .i64 kk ∧ Below w.heap.size w wr ∧ Hid (∀ j (hj : j < ws.length), j < kk → midW ws[j] = true))
  case atStart => exact ⟨0, Nat.zero_le _, by omega, rfl, Below.refl _ _, fun j _ hj => absurd hj (Nat.not_lt_zero _)⟩
  case round =>
    obtain ⟨kk, hkk, hg, rfl, hbw, A⟩ := hrel
    by_cases hlt : kk < n
    · have hltz : (kk : Int) < (n : Int) := by omega
      have hkl : kk < ws.length := by have := HN.out; omega
      have hcell : wr.cell? ⟨b, 0 + kk, none⟩ = some (str ws[kk]) := by rw [hbw.cell (p := ⟨b, 0 + kk, none⟩) hb0]; exact HW.out kk hkl
      obtain ⟨y, hy⟩ : ∃ y, ws[kk] = y := ⟨_, rfl⟩
      rw [hy] at hcell
      have B : Hid (ws[kk] = y) := hy
      clear hy
      rw [Nat.zero_add] at hcell
      have hcall := hp wr y hbw
      cases hq : midW y with
      | false =>
        rw [hq] at hcall
        go_wp2_with (go_at_call 79; refine hcall.mono ?_; rintro e w' ⟨rfl, hbb⟩)
        go_ret
        refine ⟨?_, hbw.trans (hbb.mono hbw.size)⟩
        have h1 := odd_hit ws kk hkl (by rw [B.out]; exact hq) A.out
        have : oddZ ws = (kk : Int) := by unfold oddZ; rw [h1, if_pos hkl]
        rw [this]; rfl
      | true =>
        rw [hq] at hcall
        go_wp2_with (go_at_call 79; refine hcall.mono ?_; rintro e w' ⟨rfl, hbb⟩)
        go_roundg (n - (kk + 1))
        case measure => omega
        case rel =>
          refine ⟨kk + 1, by omega, by omega, by go_num, hbw.trans (hbb.mono hbw.size), (show Hid _ from fun j hj hjk => ?_)⟩
          by_cases e : j = kk
          · subst e
            rw [B.out]; exact hq
          · exact A.out j hj (by omega)
    · have hltz : ¬ (kk : Int) < (n : Int) := by omega
      have : kk = n := by omega
      subst this
      go_wp2
      go_ret
      refine ⟨?_, hbw⟩
      have h1 := odd_miss ws (fun j hj => A.out j hj (by have := HN.out; omega))
      have : oddZ ws = -1 := by unfold oddZ; rw [h1, if_neg (by omega)]
      rw [this]; rfl

theorem str_eq (a : List UInt8) (b : List UInt8) : ((⟨a.toArray⟩ : ByteArray).toList == (⟨b.toArray⟩ : ByteArray).toList) = (a == b) := by
  rw [ByteArray.toList_eq, ByteArray.toList_eq]

theorem cov_drop (p q : List (List UInt8)) (k : Nat) (h : k < p.length) : cov (p.drop k) (q.drop k) = if p[k] = [35] then true else if h2 : k < q.length then (q[k] != [35] && (p[k] == [42] || p[k] == q[k]) && cov (p.drop (k + 1)) (q.drop (k + 1))) else false := by
  rw [List.drop_eq_getElem_cons h]
  by_cases h2 : k < q.length
  · rw [dif_pos h2, List.drop_eq_getElem_cons h2]
    simp only [cov]
  · rw [dif_neg h2, List.drop_eq_nil_of_le (show q.length ≤ k by omega)]
    simp only [cov]
theorem cov_end (p q : List (List UInt8)) (h : p.length ≤ q.length) : cov (p.drop p.length) (q.drop p.length) = decide (p.length = q.length) := by
  rw [List.drop_length]
  show (q.drop p.length).isEmpty = _
  rw [Bool.eq_iff_iff]
  simp [List.isEmpty_iff, List.drop_eq_nil_iff]
  omega

end Go.Proofs.YtlbcefocmdnlgaaGreatDoor.To
