
/- What prop.inName, prop.Name, the document's Name and topic.inWord answer of any byte, any text, any letter. No condition but those that each row states. -/
import Derived.Test.YtlbcefocmdnlgabDoorMb
import Derived.Test.YtlbcefocmdnlgabDoorProg
import Derived.WalkKit
import Derived.WalkLawsBesides
import Derived.Below
namespace Go.Proofs.YtlbcefocmdnlgabDoor.To
open Go.RowKit Go.Lib

theorem ret_b {a b : Bool} (h : a = b) : Ending.returned (.bool a) = .returned (.bool b) := by rw [h]

def inN (c : Int) : Bool := decide (97 ≤ c) && decide (c ≤ 122) || decide (48 ≤ c) && decide (c ≤ 57) || c == 45 || c == 95

/-- Whether bytes are a name. -/
def nameL (s : List UInt8) : Bool := decide (1 ≤ s.length) && decide (s.length ≤ 16) && s.all fun c => inN (c.toNat : Int)

theorem all_take {p : UInt8 → Bool} {s : List UInt8} (k : Nat) (h : k < s.length) : (s.take (k + 1)).all p = ((s.take k).all p && p s[k]) := by
  rw [List.take_succ_eq_append_getElem h, List.all_append]
  simp

theorem toList_len (s : ByteArray) : s.toList.length = s.size := by rw [ByteArray.toList_eq]; rfl
theorem toList_at (s : ByteArray) (k : Nat) (h : k < s.size) (h' : k < s.toList.length) : s.toList[k] = s[k] := by
  simp only [ByteArray.toList_eq]
  rfl

theorem inN_inW (c : UInt8) : inN (c.toNat : Int) = inW c := by
  unfold inN inW
  have h1 : ∀ k : Nat, decide ((k : Int) ≤ (c.toNat : Int)) = decide (k ≤ c.toNat) := fun k => decide_eq_decide.2 Int.ofNat_le
  have h2 : ∀ k : Nat, decide ((c.toNat : Int) ≤ (k : Int)) = decide (c.toNat ≤ k) := fun k => decide_eq_decide.2 Int.ofNat_le
  have h3 : ((c.toNat : Int) == 45) = (c == 45) := by
    rw [Bool.eq_iff_iff, beq_iff_eq, beq_iff_eq]
    constructor
    · intro h; exact UInt8.toNat_inj.1 (by show c.toNat = 45; omega)
    · rintro rfl; rfl
  have h4 : ((c.toNat : Int) == 95) = (c == 95) := by
    rw [Bool.eq_iff_iff, beq_iff_eq, beq_iff_eq]
    constructor
    · intro h; exact UInt8.toNat_inj.1 (by show c.toNat = 95; omega)
    · rintro rfl; rfl
  rw [h3, h4]
  have a : decide ((97 : Int) ≤ (c.toNat : Int)) = decide (97 ≤ c.toNat) := h1 97
  have b : decide ((c.toNat : Int) ≤ 122) = decide (c.toNat ≤ 122) := h2 122
  have d : decide ((48 : Int) ≤ (c.toNat : Int)) = decide (48 ≤ c.toNat) := h1 48
  have e : decide ((c.toNat : Int) ≤ 57) = decide (c.toNat ≤ 57) := h2 57
  rw [a, b, d, e]
theorem nameL_isW (l : List UInt8) : nameL l = isW l := by
  unfold nameL isW
  have : decide (1 ≤ l.length) = !l.isEmpty := by cases l <;> simp
  rw [this]
  congr 1
  refine List.all_congr rfl (fun c => inN_inW c)
/-- A text's bytes. -/
abbrev bl (s : ByteArray) : List UInt8 := s.data.toList
theorem bl_toList (s : ByteArray) : s.toList = bl s := ByteArray.toList_eq s
theorem bl_len (s : ByteArray) : (bl s).length = s.size := by rw [← bl_toList]; exact toList_len s
theorem inword_any (w : World) (c : Int) : Calls Tryd.prog 66 #[.int .i32 c] w fun e w' => e = .returned (.bool (inN c)) ∧ w' = w := by
  by_cases h1 : 97 ≤ c
  · by_cases h2 : c ≤ 122
    · have e : inN c = true := by simp [inN, h1, h2]
      rw [e]
      go_enter Tryd.func66, Tryd.ntmps66
      go_wp2
      go_ret
      exact ⟨rfl, rfl⟩
    · have h3 : 48 ≤ c := by omega
      have h4 : ¬ c ≤ 57 := by omega
      have h5 : (c == 45) = false := by simp; omega
      have h6 : (c == 95) = false := by simp; omega
      have e : inN c = false := by simp [inN, h2, h4, h5, h6]
      rw [e]
      go_enter Tryd.func66, Tryd.ntmps66
      go_wp2
      go_ret
      exact ⟨rfl, rfl⟩
  · by_cases h2 : 48 ≤ c
    · by_cases h3 : c ≤ 57
      · have e : inN c = true := by simp [inN, h2, h3]
        rw [e]
        go_enter Tryd.func66, Tryd.ntmps66
        go_wp2
        go_ret
        exact ⟨rfl, rfl⟩
      · have h5 : (c == 45) = false := by simp; omega
        have e : inN c = (c == 95) := by simp [inN, h1, h3, h5]
        rw [e]
        go_enter Tryd.func66, Tryd.ntmps66
        go_wp2
        go_ret
        exact ⟨rfl, rfl⟩
    · cases h5 : (c == 45) with
      | true =>
        have e : inN c = true := by simp [inN, h5]
        rw [e]
        go_enter Tryd.func66, Tryd.ntmps66
        go_wp2
        go_ret
        exact ⟨rfl, rfl⟩
      | false =>
        have e : inN c = (c == 95) := by simp [inN, h1, h2, h5]
        rw [e]
        go_enter Tryd.func66, Tryd.ntmps66
        go_wp2
        go_ret
        exact ⟨rfl, rfl⟩

theorem notword_any (w : World) (c : Int) : Calls Tryd.prog 65 #[.int .i32 c] w fun e w' => e = .returned (.bool (!inN c)) ∧ w' = w := by
  go_enter Tryd.func65, Tryd.ntmps65
  go_wp2_with (go_at_call 66; refine (inword_any _ _).mono ?_; rintro e w' ⟨rfl, rfl⟩)
  go_ret
  exact ⟨rfl, rfl⟩
end Go.Proofs.YtlbcefocmdnlgabDoor.To
