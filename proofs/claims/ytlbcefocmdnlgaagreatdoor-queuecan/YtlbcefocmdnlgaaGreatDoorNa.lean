
/- What prop.inName, prop.Name, the document's Name and topic.inWord answer of any byte, any text, any letter. No condition but those that each row states. -/
import Derived.Test.YtlbcefocmdnlgaaGreatDoorMb
import Derived.Test.YtlbcefocmdnlgaaGreatDoorProg
import Derived.WalkKit
import Derived.WalkLawsBesides
import Derived.Below
namespace Go.Proofs.YtlbcefocmdnlgaaGreatDoor.To
open Go.RowKit Go.Lib

theorem ret_b {a b : Bool} (h : a = b) : Ending.returned (.bool a) = .returned (.bool b) := by rw [h]

def inN (c : Int) : Bool := decide (97 ≤ c) && decide (c ≤ 122) || decide (48 ≤ c) && decide (c ≤ 57) || c == 45 || c == 95

/-- Whether bytes are a name. -/
def nameL (s : List UInt8) : Bool := decide (1 ≤ s.length) && decide (s.length ≤ 16) && s.all fun c => inN (c.toNat : Int)

theorem all_take {p : UInt8 → Bool} {s : List UInt8} (k : Nat) (h : k < s.length) : (s.take (k + 1)).all p = ((s.take k).all p && p s[k]) := by
  rw [List.take_succ_eq_append_getElem h, List.all_append]
  simp

theorem toList_len (s : ByteArray) : s.toList.length = s.size := by rw [ByteArray.toList_eq]; rfl
theorem toList_at (s : ByteArray) (k : Nat) (h : k < s.size) (h' : k < s.toList.length) : s.toList[k] = s[k] := by
  simp only [ByteArray.toList_eq]
  rfl

set_option maxRecDepth 4000 in
set_option maxHeartbeats 1000000 in
theorem rname7 (w : World) (s : ByteArray) (hs63 : s.size ≤ 9223372036854775807) : Calls Tryz.prog 31 #[.string s] w fun e w' => e = .returned (.bool (nameL s.toList)) ∧ w' = w := by
  have hsz := toList_len s
  have H : Hid (∀ (k : Nat) (h : k < s.size), (s.toList.take (k + 1)).all (fun c => inN (c.toNat : Int)) = ((s.toList.take k).all (fun c => inN (c.toNat : Int)) && inN ((s[k]'h).toNat : Int))) := fun k h => by
    rw [all_take k (by omega), toList_at s k h]
  have H2 : Hid (∀ k, s.size ≤ k → (s.toList.take k).all (fun c => inN (c.toNat : Int)) = true → nameL s.toList = (decide ((s.size : Int) ≥ 1) && decide ((s.size : Int) ≤ 16))) := fun k h e => by
    rw [List.take_of_length_le (by omega)] at e
    unfold nameL
    rw [e, Bool.and_true, hsz]
    congr 1 <;> exact decide_eq_decide.2 (by omega)
  have H3 : Hid (∀ k, (s.toList.take k).all (fun c => inN (c.toNat : Int)) = false → nameL s.toList = false) := fun k h => by
    unfold nameL
    rw [← List.take_append_drop k s.toList, List.all_append, h]; simp
  have H0 : (s.toList.take 0).all (fun c => inN (c.toNat : Int)) = true := rfl
  obtain ⟨g, hg⟩ : ∃ g : Nat → Bool, ∀ k, g k = (s.toList.take k).all (fun c => inN (c.toNat : Int)) := ⟨_, fun _ => rfl⟩
  simp only [← hg] at H H2 H3 H0
  clear hg hsz
  generalize nameL s.toList = r at *
  go_enter Tryz.func31, Tryz.ntmps31
  go_wp2_with fail
  go_loopw [3] (fun i wr => ∃ k : Nat, k ≤ s.size ∧ i = .int .i64 k ∧ wr = w ∧ Hid (g k = true)) (fun i _ => s.size - (RowKit.intOf i).toNat)
  case atStart => exact ⟨0, by omega, rfl, rfl, H0⟩
  case round =>
    obtain ⟨k, hk, rfl, rfl, hz⟩ := hrel
    by_cases hlt : k < s.size
    · have h3 := H.out k hlt
      rw [hz.out, Bool.true_and] at h3
      obtain ⟨z, hz9⟩ : ∃ z : Int, ((s[k]'hlt).toNat : Int) = z := ⟨_, rfl⟩
      rw [hz9] at h3
      by_cases h1 : z ≥ 97
      · by_cases h2 : z ≤ 122
        · have e : inN z = true := by simp [inN, *]
          rw [e] at h3
          clear e
          go_wp2
          go_roundw
          case rel => exact ⟨k + 1, by omega, by go_num, trivial, h3⟩
          case measure => simp [RowKit.intOf]; omega
        · have h5 : z ≥ 48 := by omega
          have h6 : ¬ z ≤ 57 := by omega
          have h7 : (z == 45) = false := by simp; omega
          have h8 : (z == 95) = false := by simp; omega
          have e : inN z = false := by simp [inN, *]
          rw [e] at h3
          have h4 := H3.out _ h3
          clear e
          go_wp2
          go_ret
          exact ⟨ret_b (by first | rfl | exact h4.symm), rfl⟩
      · by_cases h2 : z ≥ 48
        · by_cases h5 : z ≤ 57
          · have e : inN z = true := by simp [inN, *]
            rw [e] at h3
            clear e
            go_wp2
            go_roundw
            case rel => exact ⟨k + 1, by omega, by go_num, trivial, h3⟩
            case measure => simp [RowKit.intOf]; omega
          · have h7 : (z == 45) = false := by simp; omega
            cases h8 : (z == 95) with
            | true =>
              have e : inN z = true := by simp [inN, *]
              rw [e] at h3
              clear e
              go_wp2
              go_roundw
              case rel => exact ⟨k + 1, by omega, by go_num, trivial, h3⟩
              case measure => simp [RowKit.intOf]; omega
            | false =>
              have e : inN z = false := by simp [inN, *]
              rw [e] at h3
              have h4 := H3.out _ h3
              clear e
              go_wp2
              go_ret
              exact ⟨ret_b (by first | rfl | exact h4.symm), rfl⟩
        · cases h7 : (z == 45) with
          | true =>
            have e : inN z = true := by simp [inN, *]
            rw [e] at h3
            clear e
            go_wp2
            go_roundw
            case rel => exact ⟨k + 1, by omega, by go_num, trivial, h3⟩
            case measure => simp [RowKit.intOf]; omega
          | false =>
            cases h8 : (z == 95) with
            | true =>
              have e : inN z = true := by simp [inN, *]
              rw [e] at h3
              clear e
              go_wp2
              go_roundw
              case rel => exact ⟨k + 1, by omega, by go_num, trivial, h3⟩
              case measure => simp [RowKit.intOf]; omega
            | false =>
              have e : inN z = false := by simp [inN, *]
              rw [e] at h3
              have h4 := H3.out _ h3
              clear e
              go_wp2
              go_ret
              exact ⟨ret_b (by first | rfl | exact h4.symm), rfl⟩
    · have h4 := H2.out k (by omega) hz.out
      by_cases h1 : (s.size : Int) ≥ 1
      · go_wp2
        go_ret
        exact ⟨ret_b (by first | (rw [h4]; simp_all; done) | (simp_all; done) | (simp; omega)), rfl⟩
      · go_wp2
        go_ret
        exact ⟨ret_b (by first | (rw [h4]; simp_all; done) | (simp_all; done) | (simp; omega)), rfl⟩

theorem inN_inW (c : UInt8) : inN (c.toNat : Int) = inW c := by
  unfold inN inW
  have h1 : ∀ k : Nat, decide ((k : Int) ≤ (c.toNat : Int)) = decide (k ≤ c.toNat) := fun k => decide_eq_decide.2 Int.ofNat_le
  have h2 : ∀ k : Nat, decide ((c.toNat : Int) ≤ (k : Int)) = decide (c.toNat ≤ k) := fun k => decide_eq_decide.2 Int.ofNat_le
  have h3 : ((c.toNat : Int) == 45) = (c == 45) := by
    rw [Bool.eq_iff_iff, beq_iff_eq, beq_iff_eq]
    constructor
    · intro h; exact UInt8.toNat_inj.1 (by show c.toNat = 45; omega)
    · rintro rfl; rfl
  have h4 : ((c.toNat : Int) == 95) = (c == 95) := by
    rw [Bool.eq_iff_iff, beq_iff_eq, beq_iff_eq]
    constructor
    · intro h; exact UInt8.toNat_inj.1 (by show c.toNat = 95; omega)
    · rintro rfl; rfl
  rw [h3, h4]
  have a : decide ((97 : Int) ≤ (c.toNat : Int)) = decide (97 ≤ c.toNat) := h1 97
  have b : decide ((c.toNat : Int) ≤ 122) = decide (c.toNat ≤ 122) := h2 122
  have d : decide ((48 : Int) ≤ (c.toNat : Int)) = decide (48 ≤ c.toNat) := h1 48
  have e : decide ((c.toNat : Int) ≤ 57) = decide (c.toNat ≤ 57) := h2 57
  rw [a, b, d, e]
theorem nameL_isW (l : List UInt8) : nameL l = isW l := by
  unfold nameL isW
  have : decide (1 ≤ l.length) = !l.isEmpty := by cases l <;> simp
  rw [this]
  congr 1
  refine List.all_congr rfl (fun c => inN_inW c)
/-- A text's bytes. -/
abbrev bl (s : ByteArray) : List UInt8 := s.data.toList
theorem bl_toList (s : ByteArray) : s.toList = bl s := ByteArray.toList_eq s
theorem bl_len (s : ByteArray) : (bl s).length = s.size := by rw [← bl_toList]; exact toList_len s
theorem rname_any (w : World) (s : ByteArray) (hs : s.size ≤ 9223372036854775807) : Calls Tryz.prog 31 #[.string s] w fun e w' => e = .returned (.bool (isW (bl s))) ∧ w' = w := by
  have := rname7 w s hs
  rw [nameL_isW, bl_toList] at this
  exact this
theorem inword_any (w : World) (c : Int) : Calls Tryz.prog 93 #[.int .i32 c] w fun e w' => e = .returned (.bool (inN c)) ∧ w' = w := by
  by_cases h1 : 97 ≤ c
  · by_cases h2 : c ≤ 122
    · have e : inN c = true := by simp [inN, h1, h2]
      rw [e]
      go_enter Tryz.func93, Tryz.ntmps93
      go_wp2
      go_ret
      exact ⟨rfl, rfl⟩
    · have h3 : 48 ≤ c := by omega
      have h4 : ¬ c ≤ 57 := by omega
      have h5 : (c == 45) = false := by simp; omega
      have h6 : (c == 95) = false := by simp; omega
      have e : inN c = false := by simp [inN, h2, h4, h5, h6]
      rw [e]
      go_enter Tryz.func93, Tryz.ntmps93
      go_wp2
      go_ret
      exact ⟨rfl, rfl⟩
  · by_cases h2 : 48 ≤ c
    · by_cases h3 : c ≤ 57
      · have e : inN c = true := by simp [inN, h2, h3]
        rw [e]
        go_enter Tryz.func93, Tryz.ntmps93
        go_wp2
        go_ret
        exact ⟨rfl, rfl⟩
      · have h5 : (c == 45) = false := by simp; omega
        have e : inN c = (c == 95) := by simp [inN, h1, h3, h5]
        rw [e]
        go_enter Tryz.func93, Tryz.ntmps93
        go_wp2
        go_ret
        exact ⟨rfl, rfl⟩
    · cases h5 : (c == 45) with
      | true =>
        have e : inN c = true := by simp [inN, h5]
        rw [e]
        go_enter Tryz.func93, Tryz.ntmps93
        go_wp2
        go_ret
        exact ⟨rfl, rfl⟩
      | false =>
        have e : inN c = (c == 95) := by simp [inN, h1, h2, h5]
        rw [e]
        go_enter Tryz.func93, Tryz.ntmps93
        go_wp2
        go_ret
        exact ⟨rfl, rfl⟩

theorem notword_any (w : World) (c : Int) : Calls Tryz.prog 92 #[.int .i32 c] w fun e w' => e = .returned (.bool (!inN c)) ∧ w' = w := by
  go_enter Tryz.func92, Tryz.ntmps92
  go_wp2_with (go_at_call 93; refine (inword_any _ _).mono ?_; rintro e w' ⟨rfl, rfl⟩)
  go_ret
  exact ⟨rfl, rfl⟩
end Go.Proofs.YtlbcefocmdnlgaaGreatDoor.To
