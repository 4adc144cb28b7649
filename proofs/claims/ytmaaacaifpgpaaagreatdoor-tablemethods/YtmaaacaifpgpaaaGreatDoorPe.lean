
/- What prop.inName, prop.Name answer of any byte, any text. -/
import Derived.Test.YtmaaacaifpgpaaaGreatDoorPd
namespace Go.Proofs.YtmaaacaifpgpaaaGreatDoor
open Go.RowKit Go.Lib Ieee

def inN (c : Int) : Bool := decide (97 ≤ c) && decide (c ≤ 122) || decide (48 ≤ c) && decide (c ≤ 57) || c == 45 || c == 95

theorem inname7 (w : World) (c : Int) : Calls Tryz.prog 75 #[.int .u8 c] w fun e w' => e = .returned (.bool (inN c)) ∧ w' = w := by
  by_cases h1 : 97 ≤ c
  · by_cases h2 : c ≤ 122
    · have e : inN c = true := by simp [inN, h1, h2]
      rw [e]
      go_enter Tryz.func75, Tryz.ntmps75
      go_wp2
      go_ret
      exact ⟨rfl, rfl⟩
    · have h3 : 48 ≤ c := by omega
      have h4 : ¬ c ≤ 57 := by omega
      have h5 : (c == 45) = false := by simp; omega
      have h6 : (c == 95) = false := by simp; omega
      have e : inN c = false := by simp [inN, h2, h4, h5, h6]
      rw [e]
      go_enter Tryz.func75, Tryz.ntmps75
      go_wp2
      go_ret
      exact ⟨rfl, rfl⟩
  · by_cases h2 : 48 ≤ c
    · by_cases h3 : c ≤ 57
      · have e : inN c = true := by simp [inN, h2, h3]
        rw [e]
        go_enter Tryz.func75, Tryz.ntmps75
        go_wp2
        go_ret
        exact ⟨rfl, rfl⟩
      · have h5 : (c == 45) = false := by simp; omega
        have e : inN c = (c == 95) := by simp [inN, h1, h3, h5]
        rw [e]
        go_enter Tryz.func75, Tryz.ntmps75
        go_wp2
        go_ret
        exact ⟨rfl, rfl⟩
    · cases h5 : (c == 45) with
      | true =>
        have e : inN c = true := by simp [inN, h5]
        rw [e]
        go_enter Tryz.func75, Tryz.ntmps75
        go_wp2
        go_ret
        exact ⟨rfl, rfl⟩
      | false =>
        have e : inN c = (c == 95) := by simp [inN, h1, h2, h5]
        rw [e]
        go_enter Tryz.func75, Tryz.ntmps75
        go_wp2
        go_ret
        exact ⟨rfl, rfl⟩

/-- Whether bytes are a name. -/
def nameL (s : List UInt8) : Bool := decide (1 ≤ s.length) && decide (s.length ≤ 16) && s.all fun c => inN (c.toNat : Int)

theorem all_take {p : UInt8 → Bool} {s : List UInt8} (k : Nat) (h : k < s.length) : (s.take (k + 1)).all p = ((s.take k).all p && p s[k]) := by
  rw [List.take_succ_eq_append_getElem h, List.all_append]
  simp

theorem toList_len (s : ByteArray) : s.toList.length = s.size := by rw [ByteArray.toList_eq]; rfl
theorem toList_at (s : ByteArray) (k : Nat) (h : k < s.size) (h' : k < s.toList.length) : s.toList[k] = s[k] := by
  simp only [ByteArray.toList_eq]
  rfl

set_option maxRecDepth 4000 in
theorem name7 (w : World) (s : ByteArray) : Calls Tryz.prog 64 #[.string s] w fun e w' => e = .returned (.bool (nameL s.toList)) ∧ w' = w := by
  have hsz := toList_len s
  by_cases h1 : (s.size : Int) < 1
  · have e : nameL s.toList = false := by simp [nameL]; omega
    rw [e]
    go_enter Tryz.func64, Tryz.ntmps64
    go_wp2
    go_ret
    exact ⟨rfl, rfl⟩
  by_cases h2 : (s.size : Int) > 16
  · have e : nameL s.toList = false := by simp [nameL]; omega
    rw [e]
    go_enter Tryz.func64, Tryz.ntmps64
    go_wp2
    go_ret
    exact ⟨rfl, rfl⟩
  have e : nameL s.toList = s.toList.all fun c => inN (c.toNat : Int) := by
    unfold nameL
    rw [decide_eq_true (by omega), decide_eq_true (by omega)]
    rfl
  rw [e]
  clear e
  have H : Hid (∀ (k : Nat) (h : k < s.size), (s.toList.take (k + 1)).all (fun c => inN (c.toNat : Int)) = ((s.toList.take k).all (fun c => inN (c.toNat : Int)) && inN ((s[k]'h).toNat : Int))) := fun k h => by
    rw [all_take k (by omega), toList_at s k h]
  have H2 : Hid (∀ k, s.size ≤ k → (s.toList.take k).all (fun c => inN (c.toNat : Int)) = s.toList.all fun c => inN (c.toNat : Int)) := fun k h => by
    rw [List.take_of_length_le (by omega)]
  have H3 : Hid (∀ k, (s.toList.take k).all (fun c => inN (c.toNat : Int)) = false → (s.toList.all fun c => inN (c.toNat : Int)) = false) := fun k h => by
    rw [← List.take_append_drop k s.toList, List.all_append, h]; rfl
  have H0 : (s.toList.take 0).all (fun c => inN (c.toNat : Int)) = true := rfl
  obtain ⟨g, hg⟩ : ∃ g : Nat → Bool, ∀ k, g k = (s.toList.take k).all (fun c => inN (c.toNat : Int)) := ⟨_, fun _ => rfl⟩
  simp only [← hg] at H H2 H3 H0
  have HI := fun (W : World) (c : Int) => inname7 W c
  clear hg hsz
  generalize (s.toList.all fun c => inN (c.toNat : Int)) = r at *
  go_enter Tryz.func64, Tryz.ntmps64
  go_wp2_with fail
  go_loopw [14] (fun i wr => ∃ k : Nat, k ≤ s.size ∧ i = .int .i64 k ∧ wr = w ∧ Hid (g k = true)) (fun i _ => s.size - (RowKit.intOf i).toNat)
  case atStart => exact ⟨0, by omega, rfl, rfl, H0⟩
  case round =>
    obtain ⟨k, hk, rfl, rfl, hz⟩ := hrel
    by_cases hlt : k < s.size
    · have h3 := H.out k hlt
      rw [hz.out, Bool.true_and] at h3
      cases e : inN ((s[k]'hlt).toNat : Int) with
      | true =>
        have hI := HI wr ((s[k]'hlt).toNat : Int)
        rw [e] at hI h3
        go_wp2_with fail
        refine hI.mono ?_
        rintro e w2 ⟨rfl, rfl⟩
        go_wp2
        go_roundw
        case rel => exact ⟨k + 1, by omega, by go_num, trivial, h3⟩
        case measure => simp [RowKit.intOf]; omega
      | false =>
        have hI := HI wr ((s[k]'hlt).toNat : Int)
        rw [e] at hI h3
        have h4 := H3.out _ h3
        go_wp2_with fail
        refine hI.mono ?_
        rintro e w2 ⟨rfl, rfl⟩
        go_wp2
        go_ret
        exact ⟨ret_b h4.symm, rfl⟩
    · have h4 := H2.out k (by omega)
      rw [hz.out] at h4
      go_wp2
      go_ret
      exact ⟨ret_b h4, rfl⟩
end Go.Proofs.YtmaaacaifpgpaaaGreatDoor
