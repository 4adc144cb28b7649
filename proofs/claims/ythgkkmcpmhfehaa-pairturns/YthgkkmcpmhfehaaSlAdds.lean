/- What seal.Add, seal.Of and the document's own answer of any number, seed and bytes that can be read: the sum of addN. -/
import Derived.Test.YthgkkmcpmhfehaaSlNums
namespace Go.Proofs.Ythgkkmcpmhfehaa.Sl
open Go.RowKit

/-- A slice of bytes that can be read: nil, or so many cells. -/
def RdB (w : World) (v : Value) (l : List UInt8) : Prop :=
  (v = .slice none 0 0 ∧ l = []) ∨ ∃ (b o c : Nat), v = .slice (some ⟨b, o, none⟩) l.length c ∧ l.length ≤ c ∧ ∀ i, i < l.length → w.cell? ⟨b, o + i, none⟩ = some (.int .u8 ((l.getD i 0).toNat : Int))
/-- The same, or a slice of no bytes wherever it points to: what may come in. -/
def RdA (w : World) (v : Value) (l : List UInt8) : Prop := RdB w v l ∨ ((∃ a c, v = .slice (some a) 0 c) ∧ l = [])
theorem RdA.len {w : World} {v : Value} {l : List UInt8} (h : RdA w v l) : ∃ a c, v = .slice a l.length c := by
  rcases h with (⟨rfl, rfl⟩ | ⟨b, o, c, rfl, _⟩) | ⟨⟨a, c, rfl⟩, rfl⟩
  · exact ⟨_, _, rfl⟩
  · exact ⟨_, _, rfl⟩
  · exact ⟨_, _, rfl⟩
theorem RdA.at {w : World} {a : Option Addr} {n c : Nat} {l : List UInt8} (h : RdA w (.slice a n c) l) {k : Nat} (hk : k < l.length) : ∃ b o, a = some ⟨b, o, none⟩ ∧ w.cell? ⟨b, o + k, none⟩ = some (.int .u8 ((l.getD k 0).toNat : Int)) := by
  rcases h with (⟨_, rfl⟩ | ⟨b, o, c, e, _, hc⟩) | ⟨_, rfl⟩
  · simp at hk
  · cases e
    exact ⟨b, o, rfl, hc k hk⟩
  · simp at hk
theorem take_snoc (l : List UInt8) (k : Nat) (h : k < l.length) : l.take (k + 1) = l.take k ++ [l.getD k 0] := by
  rw [List.take_succ_eq_append_getElem h]; simp [List.getElem?_eq_getElem h]
theorem goL_snoc (x : Nat) (l : List UInt8) (k : Nat) (h : k < l.length) : goL x (l.take (k + 1)) = stL (goL x (l.take k)) (l.getD k 0) := by
  rw [take_snoc l k h, goL_append]; rfl
theorem goR_snoc (x : Nat) (l : List UInt8) (k : Nat) (h : k < l.length) : goR x (l.take (k + 1)) = stR (goR x (l.take k)) (l.getD k 0) := by
  rw [take_snoc l k h, goR_append]; rfl
theorem int_eq {k : IntKind} {a b : Int} (h : a = b) : Value.int k a = .int k b := by rw [h]
theorem stL_val (x : Nat) (c : UInt8) : ((stL x c : Nat) : Int) = ((x : Int) * 257 + ((c.toNat : Int) + 1)) % 2147483647 := by unfold stL; omega
theorem stR_val (x : Nat) (c : UInt8) : ((stR x c : Nat) : Int) = ((x : Int) * 65599 + ((c.toNat : Int) + 1)) % 2147483647 := by unfold stR; omega

set_option maxHeartbeats 1000000 in
theorem add_any (w : World) (n : Nat) (v : Value) (l : List UInt8) (hn : n < 18446744073709551616) (h : RdA w v l) (hl : l.length ≤ 140737488355328) :
    Calls Try.prog 92 #[.int .u64 n, v] w fun e w' => e = .returned (.int .u64 (addN n l : Nat)) ∧ w' = w := by
  obtain ⟨a, c, rfl⟩ := h.len
  have HB : Hid (RdA w (.slice a l.length c) l) := h
  clear h
  go_enter Try.func92, Try.ntmps92
  go_wp2_with (go_at_call 96; refine (halves_any _ _ hn).mono ?_; rintro e w' ⟨rfl, rfl⟩)
  go_loop [5, 6, 17] (fun x y i => ∃ k : Nat, k ≤ l.length ∧ i = .int .i64 k ∧ x = .int .u64 (goL (haL n) (l.take k) : Nat) ∧ y = .int .u64 (goR (haR n) (l.take k) : Nat)) (fun _ _ i => l.length - (RowKit.intOf i).toNat)
  case atStart => exact ⟨0, Nat.zero_le _, rfl, rfl, rfl⟩
  case round =>
    obtain ⟨k, hk, rfl, rfl, rfl⟩ := hrel
    have hX := goL_lt (l.take k) _ (haL_lt n)
    have hY := goR_lt (l.take k) _ (haR_lt n)
    by_cases hlt : k < l.length
    · obtain ⟨b, o, rfl, hc⟩ := HB.out.at hlt
      have HL : Hid (_ = _) := goL_snoc (haL n) l k hlt
      have HR : Hid (_ = _) := goR_snoc (haR n) l k hlt
      have hcc := (l.getD k 0).toNat_lt
      generalize goL (haL n) (l.take k) = X at *
      generalize goR (haR n) (l.take k) = Y at *
      generalize l.getD k 0 = z at *
      go_wp2
      go_round
      case rel => exact ⟨k + 1, by omega, by go_num, int_eq (by rw [HL.out, stL_val]), int_eq (by rw [HR.out, stR_val])⟩
      case measure => simp [RowKit.intOf]; omega
    · have ek : l.take k = l := List.take_of_length_le (by omega)
      rw [ek] at hX hY
      rw [ek]
      clear ek
      have HV : Hid (addN n l = joinN (goL (haL n) l) (goR (haR n) l)) := rfl
      go_wp2_with (go_at_call 97; refine (join_any _ _ _ hX hY).mono ?_; rintro e w' ⟨rfl, rfl⟩)
      go_ret
      exact ⟨rfl, rfl⟩
theorem stL_ref (x : Nat) (c : UInt8) : ((stL x c : Nat) : Int) = (257 * (x : Int) + (c.toNat : Int) + 1) % 2147483647 := by unfold stL; omega
theorem stR_ref (x : Nat) (c : UInt8) : ((stR x c : Nat) : Int) = (65599 * (x : Int) + (c.toNat : Int) + 1) % 2147483647 := by unfold stR; omega
theorem haL_ref (n : Nat) : (n : Int) / 2147483648 % 2147483648 % 2147483647 = ((haL n : Nat) : Int) := by unfold haL; omega
theorem haR_ref (n : Nat) : (n : Int) % 2147483648 % 2147483647 = ((haR n : Nat) : Int) := by unfold haR; omega

set_option maxHeartbeats 1000000 in
theorem refadd_any (w : World) (n : Nat) (v : Value) (l : List UInt8) (hn : n < 18446744073709551616) (h : RdA w v l) (hl : l.length ≤ 140737488355328) :
    Calls Try.prog 80 #[.int .u64 n, v] w fun e w' => e = .returned (.int .u64 (addN n l : Nat)) ∧ w' = w := by
  obtain ⟨a, c, rfl⟩ := h.len
  have HB : Hid (RdA w (.slice a l.length c) l) := h
  clear h
  have e1 := haL_ref n
  have e2 := haR_ref n
  go_enter Try.func80, Try.ntmps80
  go_wp2
  clear e1 e2
  go_loop [5, 6, 7] (fun x y i => ∃ k : Nat, k ≤ l.length ∧ i = .int .i64 k ∧ x = .int .u64 (goL (haL n) (l.take k) : Nat) ∧ y = .int .u64 (goR (haR n) (l.take k) : Nat)) (fun _ _ i => l.length - (RowKit.intOf i).toNat)
  case atStart => exact ⟨0, Nat.zero_le _, rfl, rfl, rfl⟩
  case round =>
    obtain ⟨k, hk, rfl, rfl, rfl⟩ := hrel
    have hX := goL_lt (l.take k) _ (haL_lt n)
    have hY := goR_lt (l.take k) _ (haR_lt n)
    by_cases hlt : k < l.length
    · obtain ⟨b, o, rfl, hc⟩ := HB.out.at hlt
      have HL : Hid (_ = _) := goL_snoc (haL n) l k hlt
      have HR : Hid (_ = _) := goR_snoc (haR n) l k hlt
      have hcc := (l.getD k 0).toNat_lt
      generalize goL (haL n) (l.take k) = X at *
      generalize goR (haR n) (l.take k) = Y at *
      generalize l.getD k 0 = z at *
      go_wp2
      go_round
      case rel => exact ⟨k + 1, by omega, by go_num, int_eq (by rw [HL.out, stL_ref]), int_eq (by rw [HR.out, stR_ref])⟩
      case measure => simp [RowKit.intOf]; omega
    · have ek : l.take k = l := List.take_of_length_le (by omega)
      rw [ek] at hX hY
      rw [ek]
      clear ek
      have HV : Hid (addN n l = joinN (goL (haL n) l) (goR (haR n) l)) := rfl
      generalize goL (haL n) l = X at *
      generalize goR (haR n) l = Y at *
      go_wp2
      go_ret
      exact ⟨ret_int (by rw [HV.out]; unfold joinN; omega), rfl⟩

set_option maxHeartbeats 400000 in
theorem of_any (w : World) (s : Int) (v : Value) (l : List UInt8) (h : RdA w v l) (hl : l.length ≤ 140737488355328) :
    Calls Try.prog 83 #[.int .i64 s, v] w fun e w' => e = .returned (.int .u64 (addN (startN s) l : Nat)) ∧ w' = w := by
  have hs := startN_lt s
  go_enter Try.func83, Try.ntmps83
  go_wp2_with (first | (go_at_call 93; refine (start_any _ _).mono ?_; rintro e w' ⟨rfl, rfl⟩) | (go_at_call 92; refine (add_any _ _ _ l (by omega) h hl).mono ?_; rintro e w' ⟨rfl, rfl⟩))
  go_ret
  exact ⟨rfl, rfl⟩
set_option maxHeartbeats 400000 in
theorem refof_any (w : World) (s : Int) (v : Value) (l : List UInt8) (h : RdA w v l) (hl : l.length ≤ 140737488355328) :
    Calls Try.prog 57 #[.int .i64 s, v] w fun e w' => e = .returned (.int .u64 (addN (startN s) l : Nat)) ∧ w' = w := by
  have hs := startN_lt s
  go_enter Try.func57, Try.ntmps57
  go_wp2_with (first | (go_at_call 81; refine (refstart_any _ _).mono ?_; rintro e w' ⟨rfl, rfl⟩) | (go_at_call 80; refine (refadd_any _ _ _ l (by omega) h hl).mono ?_; rintro e w' ⟨rfl, rfl⟩))
  go_ret
  exact ⟨rfl, rfl⟩
end Go.Proofs.Ythgkkmcpmhfehaa.Sl
