/- What seal.Take and the document's own answer of any bytes that can be read. -/
import Derived.Test.YthgkkmcpmhfehaaSlPuts
namespace Go.Proofs.Ythgkkmcpmhfehaa.Sl
open Go.RowKit Go.Lib
set_option maxRecDepth 100000

/-- The number that bytes are. -/
def de (l : List UInt8) : Nat := l.foldl (fun a c => a * 256 + c.toNat) 0
theorem de_snoc (l : List UInt8) (c : UInt8) : de (l ++ [c]) = de l * 256 + c.toNat := by simp [de, List.foldl_append]
theorem de_lt (l : List UInt8) : de l < 256 ^ l.length := by
  suffices h : ∀ (l : List UInt8) (a : Nat), l.foldl (fun a c => a * 256 + c.toNat) a < (a + 1) * 256 ^ l.length by unfold de; simpa using h l 0
  intro l
  induction l with
  | nil => intro a; simp
  | cons c l ih =>
    intro a
    have h1 := ih (a * 256 + c.toNat)
    have hc := c.toNat_lt
    simp only [List.foldl_cons, List.length_cons]
    have h2 : (a * 256 + c.toNat + 1) * 256 ^ l.length ≤ ((a + 1) * 256) * 256 ^ l.length := Nat.mul_le_mul_right _ (by omega)
    rw [Nat.pow_succ, Nat.mul_comm (256 ^ l.length) 256, ← Nat.mul_assoc]
    omega
theorem de_be8 (n : Nat) (hn : n < 18446744073709551616) : de (be8 n) = n := by
  simp only [de, be8, List.foldl_cons, List.foldl_nil, UInt8.toNat_ofNat']
  omega
theorem de_take (l : List UInt8) (k : Nat) (h : k < l.length) : de (l.take (k + 1)) = de (l.take k) * 256 + (l.getD k 0).toNat := by
  rw [take_snoc l k h, de_snoc]
theorem de_take_lt (l : List UInt8) (k : Nat) (hk : k < 8) : de (l.take k) < 72057594037927936 := by
  have h := de_lt (l.take k)
  have h2 : (256 : Nat) ^ (l.take k).length ≤ 256 ^ 7 := Nat.pow_le_pow_right (by omega) (by rw [List.length_take]; omega)
  have h3 : (256 : Nat) ^ 7 = 72057594037927936 := by decide
  omega
theorem or8 (x : Nat) (c : UInt8) (hx : x < 72057594037927936) : bits .or .u64 ((x : Int) * 256) (c.toNat : Int) = ((x * 256 + c.toNat : Nat) : Int) := by
  have hc := c.toNat_lt
  have e : ((x : Int) * 256) = ((x * 256 : Nat) : Int) := by omega
  rw [e, bits_or_u64_nat _ _ (by omega) (by omega)]
  have h := Nat.shiftLeft_add_eq_or_of_lt (i := 8) (b := c.toNat) (by omega) x
  rw [Nat.shiftLeft_eq, show (2 : Nat) ^ 8 = 256 from by decide] at h
  rw [← h]

theorem getD_left (l t : List UInt8) (i : Nat) (h : i < l.length) : (l ++ t).getD i 0 = l.getD i 0 := by
  simp [List.getElem?_append_left h]
theorem getD_right (l t : List UInt8) (k : Nat) : (l ++ t).getD (l.length + k) 0 = t.getD k 0 := by
  simp [List.getElem?_append_right]
set_option maxHeartbeats 1000000 in
theorem take_few (w : World) (v : Value) (l : List UInt8) (h : RdA w v l) (hl : l.length < 8) :
    Calls Try.prog 64 #[v] w fun e w' => e = .returned (.tuple #[.slice none 0 0, .int .u64 0, .bool false]) ∧ w' = w := by
  obtain ⟨a, c, rfl⟩ := h.len
  clear h
  go_enter Try.func64, Try.ntmps64
  go_wp2
  go_ret3
  exact ⟨rfl, rfl⟩
set_option maxHeartbeats 1000000 in
theorem take_many (w : World) (v : Value) (l t : List UInt8) (h : RdA w v (l ++ t)) (ht : t.length = 8) (hl : l.length + 100 ≤ 140737488355328) :
    Calls Try.prog 64 #[v] w fun e w' => ∃ v', e = .returned (.tuple #[v', .int .u64 (de t : Nat), .bool true]) ∧ Own w' w.heap.size v' l ∧ Below w.heap.size w w' := by
  obtain ⟨b, o, c, rfl, hlc, hc⟩ : ∃ b o c : Nat, v = .slice (some ⟨b, o, none⟩) (l.length + 8) c ∧ l.length + 8 ≤ c ∧ ∀ i, i < l.length + 8 → w.cell? ⟨b, o + i, none⟩ = some (.int .u8 (((l ++ t).getD i 0).toNat : Int)) := by
    have e : (l ++ t).length = l.length + 8 := by simp [ht]
    rcases h with (⟨_, e'⟩ | ⟨b, o, c, rfl, h1, h2⟩) | ⟨_, e'⟩
    · rw [e'] at e; simp at e
    · exact ⟨b, o, c, by rw [e], by omega, by rw [← e]; exact h2⟩
    · rw [e'] at e; simp at e
  have HC : Hid _ := hc
  clear h hc
  go_enter Try.func64, Try.ntmps64
  go_wp2_with fail
  go_loop [6, 18] (fun x i => ∃ k : Nat, k ≤ 8 ∧ i = .int .i64 k ∧ x = .int .u64 (de (t.take k) : Nat)) (fun _ i => 8 - (RowKit.intOf i).toNat)
  case atStart => exact ⟨0, by omega, rfl, rfl⟩
  case round =>
    obtain ⟨k, hk, rfl, rfl⟩ := hrel
    by_cases hlt : k < 8
    · have hcx : w.cell? ⟨b, o + l.length + k, none⟩ = some (.int .u8 ((t.getD k 0).toNat : Int)) := by
        have := HC.out (l.length + k) (by omega)
        rw [getD_right, ← Nat.add_assoc] at this
        exact this
      have HD : Hid (de (t.take (k + 1)) = de (t.take k) * 256 + (t.getD k 0).toNat) := de_take t k (by omega)
      have hx := de_take_lt t k hlt
      have HO : Hid _ := or8 (de (t.take k)) (t.getD k 0) hx
      have hcc := (t.getD k 0).toNat_lt
      generalize de (t.take k) = X at *
      generalize t.getD k 0 = z at *
      go_wp2
      go_round
      case rel => exact ⟨k + 1, by omega, by go_num, int_eq (by rw [HD.out, HO.out])⟩
      case measure => simp [RowKit.intOf]; omega
    · have ek : t.take k = t := List.take_of_length_le (by omega)
      rw [ek]
      clear ek
      have hr : RdA w (.slice (some ⟨b, o, none⟩) l.length c) l := .inl (.inr ⟨b, o, c, rfl, by omega, fun i hi => by
        rw [HC.out i (by omega), getD_left _ _ _ hi]⟩)
      go_wp2_with (go_at_call 82; refine (clone_any w _ l hr (by omega)).mono ?_; rintro e w' ⟨v', rfl, ho, hb⟩)
      go_ret3
      exact ⟨v', rfl, ho, hb⟩
end Go.Proofs.Ythgkkmcpmhfehaa.Sl
