
/- What the document's Name answers of any text. -/
import Derived.Test.YtmaaacaifpgpaaaGreatDoorPra
namespace Go.Proofs.YtmaaacaifpgpaaaGreatDoor
open Go.RowKit Go.Lib Ieee

set_option maxRecDepth 4000 in
set_option maxHeartbeats 1000000 in
theorem rname7 (w : World) (s : ByteArray) (hs63 : s.size ≤ 9223372036854775807) : Calls Tryz.prog 51 #[.string s] w fun e w' => e = .returned (.bool (nameL s.toList)) ∧ w' = w := by
  have hsz := toList_len s
  have H : Hid (∀ (k : Nat) (h : k < s.size), (s.toList.take (k + 1)).all (fun c => inN (c.toNat : Int)) = ((s.toList.take k).all (fun c => inN (c.toNat : Int)) && inN ((s[k]'h).toNat : Int))) := fun k h => by
    rw [all_take k (by omega), toList_at s k h]
  have H2 : Hid (∀ k, s.size ≤ k → (s.toList.take k).all (fun c => inN (c.toNat : Int)) = true → nameL s.toList = (decide ((s.size : Int) ≥ 1) && decide ((s.size : Int) ≤ 16))) := fun k h e => by
    rw [List.take_of_length_le (by omega)] at e
    unfold nameL
    rw [e, Bool.and_true, hsz]
    congr 1 <;> exact decide_eq_decide.2 (by omega)
  have H3 : Hid (∀ k, (s.toList.take k).all (fun c => inN (c.toNat : Int)) = false → nameL s.toList = false) := fun k h => by
    unfold nameL
    rw [← List.take_append_drop k s.toList, List.all_append, h]; simp
  have H0 : (s.toList.take 0).all (fun c => inN (c.toNat : Int)) = true := rfl
  obtain ⟨g, hg⟩ : ∃ g : Nat → Bool, ∀ k, g k = (s.toList.take k).all (fun c => inN (c.toNat : Int)) := ⟨_, fun _ => rfl⟩
  simp only [← hg] at H H2 H3 H0
  clear hg hsz
  generalize nameL s.toList = r at *
  go_enter Tryz.func51, Tryz.ntmps51
  go_wp2_with fail
  go_loopw [3] (fun i wr => ∃ k : Nat, k ≤ s.size ∧ i = .int .i64 k ∧ wr = w ∧ Hid (g k = true)) (fun i _ => s.size - (RowKit.intOf i).toNat)
  case atStart => exact ⟨0, by omega, rfl, rfl, H0⟩
  case round =>
    obtain ⟨k, hk, rfl, rfl, hz⟩ := hrel
    by_cases hlt : k < s.size
    · have h3 := H.out k hlt
      rw [hz.out, Bool.true_and] at h3
      obtain ⟨z, hz9⟩ : ∃ z : Int, ((s[k]'hlt).toNat : Int) = z := ⟨_, rfl⟩
      rw [hz9] at h3
      by_cases h1 : z ≥ 97
      · by_cases h2 : z ≤ 122
        · have e : inN z = true := by simp [inN, *]
          rw [e] at h3
          clear e
          go_wp2
          go_roundw
          case rel => exact ⟨k + 1, by omega, by go_num, trivial, h3⟩
          case measure => simp [RowKit.intOf]; omega
        · have h5 : z ≥ 48 := by omega
          have h6 : ¬ z ≤ 57 := by omega
          have h7 : (z == 45) = false := by simp; omega
          have h8 : (z == 95) = false := by simp; omega
          have e : inN z = false := by simp [inN, *]
          rw [e] at h3
          have h4 := H3.out _ h3
          clear e
          go_wp2
          go_ret
          exact ⟨ret_b (by first | rfl | exact h4.symm), rfl⟩
      · by_cases h2 : z ≥ 48
        · by_cases h5 : z ≤ 57
          · have e : inN z = true := by simp [inN, *]
            rw [e] at h3
            clear e
            go_wp2
            go_roundw
            case rel => exact ⟨k + 1, by omega, by go_num, trivial, h3⟩
            case measure => simp [RowKit.intOf]; omega
          · have h7 : (z == 45) = false := by simp; omega
            cases h8 : (z == 95) with
            | true =>
              have e : inN z = true := by simp [inN, *]
              rw [e] at h3
              clear e
              go_wp2
              go_roundw
              case rel => exact ⟨k + 1, by omega, by go_num, trivial, h3⟩
              case measure => simp [RowKit.intOf]; omega
            | false =>
              have e : inN z = false := by simp [inN, *]
              rw [e] at h3
              have h4 := H3.out _ h3
              clear e
              go_wp2
              go_ret
              exact ⟨ret_b (by first | rfl | exact h4.symm), rfl⟩
        · cases h7 : (z == 45) with
          | true =>
            have e : inN z = true := by simp [inN, *]
            rw [e] at h3
            clear e
            go_wp2
            go_roundw
            case rel => exact ⟨k + 1, by omega, by go_num, trivial, h3⟩
            case measure => simp [RowKit.intOf]; omega
          | false =>
            cases h8 : (z == 95) with
            | true =>
              have e : inN z = true := by simp [inN, *]
              rw [e] at h3
              clear e
              go_wp2
              go_roundw
              case rel => exact ⟨k + 1, by omega, by go_num, trivial, h3⟩
              case measure => simp [RowKit.intOf]; omega
            | false =>
              have e : inN z = false := by simp [inN, *]
              rw [e] at h3
              have h4 := H3.out _ h3
              clear e
              go_wp2
              go_ret
              exact ⟨ret_b (by first | rfl | exact h4.symm), rfl⟩
    · have h4 := H2.out k (by omega) hz.out
      by_cases h1 : (s.size : Int) ≥ 1
      · go_wp2
        go_ret
        exact ⟨ret_b (by first | (rw [h4]; simp_all; done) | (simp_all; done) | (simp; omega)), rfl⟩
      · go_wp2
        go_ret
        exact ⟨ret_b (by first | (rw [h4]; simp_all; done) | (simp_all; done) | (simp; omega)), rfl⟩
end Go.Proofs.YtmaaacaifpgpaaaGreatDoor
