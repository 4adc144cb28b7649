
/- The document's Reader as a function of what is left: Take, Number, Long, Short, signed. Conditions: those that each row states. -/
import Derived.Test.YtmaaacaifpgpaaaGreatDoorTe
import Derived.Test.YtmaaacaifpgpaaaGreatDoorRn
namespace Go.Proofs.YtmaaacaifpgpaaaGreatDoor
open Go.RowKit Go.Lib
set_option maxRecDepth 100000
set_option linter.unusedSimpArgs false

/-- What a Reader holds: what is left, and whether something wasn't there. -/
abbrev Rs := List UInt8 × Bool
def takeR (st : Rs) (n : Nat) : List UInt8 × Rs := if st.2 = true ∨ st.1.length < n then ([], (st.1, true)) else (st.1.take n, (st.1.drop n, false))
def numR (st : Rs) (k : Nat) : Nat × Rs := (numL (takeR st k).1, (takeR st k).2)
def longR (st : Rs) : List UInt8 × Rs := takeR (numR st 4).2 (numR st 4).1
def shortR (st : Rs) : List UInt8 × Rs := takeR (numR st 1).2 (numR st 1).1
theorem takeR_len (st : Rs) (n : Nat) : (takeR st n).1.length ≤ n := by
  unfold takeR
  split
  · simp
  · simp only [List.length_take]; omega
theorem takeR_left (st : Rs) (n : Nat) : (takeR st n).2.1.length ≤ st.1.length := by
  unfold takeR
  split
  · simp
  · simp
abbrev RdS (w : World) (b : Nat) (st : Rs) : Prop := Rd w b st.1 st.2

theorem take_any (w : World) (b n : Nat) (st : Rs) (hr : RdS w b st) :
    Calls Tryz.prog 41 #[.pointer (some ⟨b, 0, none⟩), .int .i64 n] w fun e w' => e = .returned (str (takeR st n).1) ∧ RdS w' b (takeR st n).2 ∧ But w w' b := by
  obtain ⟨s, bad⟩ := st
  by_cases h : bad = true ∨ s.length < n
  · have e : takeR (s, bad) n = ([], (s, true)) := by unfold takeR; rw [if_pos h]
    rw [e]
    exact take_bad w b n s bad hr h
  · have e : takeR (s, bad) n = (s.take n, (s.drop n, false)) := by unfold takeR; rw [if_neg h]
    rw [e]
    have hb : bad = false := by cases bad <;> simp_all
    subst hb
    exact take_ok w b n s hr (by simp at h; exact h)
theorem rnum_any (w : World) (b k : Nat) (st : Rs) (hk : k ≤ 8) (hr : RdS w b st) :
    Calls Tryz.prog 24 #[.pointer (some ⟨b, 0, none⟩), .int .i64 k] w fun e w' => e = .returned (.int .u64 (numR st k).1) ∧ RdS w' b (numR st k).2 ∧ But w w' b :=
  number_any w b k _ (fun w' => RdS w' b (takeR st k).2 ∧ But w w' b) hk (takeR_len st k) (take_any w b k st hr)
theorem numR_lt (st : Rs) (k : Nat) : (numR st k).1 < 256 ^ k := by
  have h1 := numL_lt (takeR st k).1
  have h2 : 256 ^ (takeR st k).1.length ≤ 256 ^ k := Nat.pow_le_pow_right (by omega) (takeR_len st k)
  exact Nat.lt_of_lt_of_le h1 h2

set_option maxHeartbeats 400000 in
theorem longR_any (w : World) (b : Nat) (st : Rs) (hr : RdS w b st) :
    Calls Tryz.prog 27 #[.pointer (some ⟨b, 0, none⟩)] w fun e w' => e = .returned (str (longR st).1) ∧ RdS w' b (longR st).2 ∧ But w w' b := by
  have N := rnum_any w b 4 st (by omega) hr
  have hn := numR_lt st 4
  have HL : Hid (∀ w, RdS w b (numR st 4).2 → Calls Tryz.prog 41 #[.pointer (some ⟨b, 0, none⟩), .int .i64 (numR st 4).1] w fun e w' => e = .returned (str (longR st).1) ∧ RdS w' b (longR st).2 ∧ But w w' b) := fun w h => take_any w b _ _ h
  generalize numR st 4 = ns at *
  generalize longR st = ls at *
  obtain ⟨n, st1⟩ := ns
  obtain ⟨t, st2⟩ := ls
  have hn : n < 2 ^ 63 := Nat.lt_of_lt_of_le hn (by decide)
  have u1 : IntKind.i64.wrap (n : Int) = (n : Int) := by rw [IntKind.wrap_i64]; omega
  clear hr
  go_enter Tryz.func27, Tryz.ntmps27
  go_wp2_with fail
  refine N.mono ?_
  rintro e w1 ⟨rfl, h1, b1⟩
  have L := HL.out w1 h1
  clear N HL h1
  go_wp2_with fail
  refine L.mono ?_
  rintro e w2 ⟨rfl, h2, b2⟩
  go_wp2
  go_ret
  exact ⟨rfl, h2, b1.trans b2⟩

set_option maxHeartbeats 400000 in
theorem shortR_any (w : World) (b : Nat) (st : Rs) (hr : RdS w b st) :
    Calls Tryz.prog 26 #[.pointer (some ⟨b, 0, none⟩)] w fun e w' => e = .returned (str (shortR st).1) ∧ RdS w' b (shortR st).2 ∧ But w w' b := by
  have N := rnum_any w b 1 st (by omega) hr
  have hn := numR_lt st 1
  have HL : Hid (∀ w, RdS w b (numR st 1).2 → Calls Tryz.prog 41 #[.pointer (some ⟨b, 0, none⟩), .int .i64 (numR st 1).1] w fun e w' => e = .returned (str (shortR st).1) ∧ RdS w' b (shortR st).2 ∧ But w w' b) := fun w h => take_any w b _ _ h
  generalize numR st 1 = ns at *
  generalize shortR st = ls at *
  obtain ⟨n, st1⟩ := ns
  obtain ⟨t, st2⟩ := ls
  have hn : n < 2 ^ 63 := Nat.lt_of_lt_of_le hn (by decide)
  have u1 : IntKind.i64.wrap (n : Int) = (n : Int) := by rw [IntKind.wrap_i64]; omega
  clear hr
  go_enter Tryz.func26, Tryz.ntmps26
  go_wp2_with fail
  refine N.mono ?_
  rintro e w1 ⟨rfl, h1, b1⟩
  have L := HL.out w1 h1
  clear N HL h1
  go_wp2_with fail
  refine L.mono ?_
  rintro e w2 ⟨rfl, h2, b2⟩
  go_wp2
  go_ret
  exact ⟨rfl, h2, b1.trans b2⟩

/-- A number of so many bits with its sign. -/
def sgnZ (n bits : Nat) : Int := if bits < 64 ∧ 2 ^ (bits - 1) ≤ n then (n : Int) - 2 ^ bits else IntKind.i64.wrap (n : Int)
set_option maxHeartbeats 400000 in
theorem signed8_up (w : World) (x : Int) (y z : Int) (hx : decide ((128 : Int) ≤ x) = true) (hy : IntKind.i64.wrap x = y) (hz : IntKind.i64.wrap (y - 256) = z) :
    Calls Tryz.prog 59 #[.int .u64 x, .int .u64 8] w fun e w' => e = .returned (.int .i64 z) ∧ w' = w := by
  go_enter Tryz.func59, Tryz.ntmps59
  go_wp2
  go_ret
  exact ⟨rfl, rfl⟩
set_option maxHeartbeats 400000 in
theorem signed8_low (w : World) (x : Int) (y : Int) (hx : decide ((128 : Int) ≤ x) = false) (hy : IntKind.i64.wrap x = y) :
    Calls Tryz.prog 59 #[.int .u64 x, .int .u64 8] w fun e w' => e = .returned (.int .i64 y) ∧ w' = w := by
  go_enter Tryz.func59, Tryz.ntmps59
  go_wp2
  go_ret
  exact ⟨rfl, rfl⟩
set_option maxHeartbeats 400000 in
theorem signed16_up (w : World) (x : Int) (y z : Int) (hx : decide ((32768 : Int) ≤ x) = true) (hy : IntKind.i64.wrap x = y) (hz : IntKind.i64.wrap (y - 65536) = z) :
    Calls Tryz.prog 59 #[.int .u64 x, .int .u64 16] w fun e w' => e = .returned (.int .i64 z) ∧ w' = w := by
  go_enter Tryz.func59, Tryz.ntmps59
  go_wp2
  go_ret
  exact ⟨rfl, rfl⟩
set_option maxHeartbeats 400000 in
theorem signed16_low (w : World) (x : Int) (y : Int) (hx : decide ((32768 : Int) ≤ x) = false) (hy : IntKind.i64.wrap x = y) :
    Calls Tryz.prog 59 #[.int .u64 x, .int .u64 16] w fun e w' => e = .returned (.int .i64 y) ∧ w' = w := by
  go_enter Tryz.func59, Tryz.ntmps59
  go_wp2
  go_ret
  exact ⟨rfl, rfl⟩
set_option maxHeartbeats 400000 in
theorem signed32_up (w : World) (x : Int) (y z : Int) (hx : decide ((2147483648 : Int) ≤ x) = true) (hy : IntKind.i64.wrap x = y) (hz : IntKind.i64.wrap (y - 4294967296) = z) :
    Calls Tryz.prog 59 #[.int .u64 x, .int .u64 32] w fun e w' => e = .returned (.int .i64 z) ∧ w' = w := by
  go_enter Tryz.func59, Tryz.ntmps59
  go_wp2
  go_ret
  exact ⟨rfl, rfl⟩
set_option maxHeartbeats 400000 in
theorem signed32_low (w : World) (x : Int) (y : Int) (hx : decide ((2147483648 : Int) ≤ x) = false) (hy : IntKind.i64.wrap x = y) :
    Calls Tryz.prog 59 #[.int .u64 x, .int .u64 32] w fun e w' => e = .returned (.int .i64 y) ∧ w' = w := by
  go_enter Tryz.func59, Tryz.ntmps59
  go_wp2
  go_ret
  exact ⟨rfl, rfl⟩
set_option maxHeartbeats 400000 in
theorem signed64_any (w : World) (x : Int) (y : Int) (hy : IntKind.i64.wrap x = y) :
    Calls Tryz.prog 59 #[.int .u64 x, .int .u64 64] w fun e w' => e = .returned (.int .i64 y) ∧ w' = w := by
  go_enter Tryz.func59, Tryz.ntmps59
  go_wp2
  go_ret
  exact ⟨rfl, rfl⟩
theorem signed8_any (w : World) (n : Nat) (hn : n < 256) :
    Calls Tryz.prog 59 #[.int .u64 n, .int .u64 8] w fun e w' => e = .returned (.int .i64 (sgnZ n 8)) ∧ w' = w := by
  by_cases h : 128 ≤ n
  · have e : sgnZ n 8 = (n : Int) - 256 := by unfold sgnZ; rw [if_pos ⟨by decide, h⟩]; rfl
    rw [e]
    exact signed8_up w n n _ (by simp; omega) (by rw [IntKind.wrap_i64]; omega) (by rw [IntKind.wrap_i64]; omega)
  · have e : sgnZ n 8 = (n : Int) := by unfold sgnZ; rw [if_neg (fun hh => h hh.2), IntKind.wrap_i64]; omega
    rw [e]
    exact signed8_low w n n (by simp; omega) (by rw [IntKind.wrap_i64]; omega)
theorem signed16_any (w : World) (n : Nat) (hn : n < 65536) :
    Calls Tryz.prog 59 #[.int .u64 n, .int .u64 16] w fun e w' => e = .returned (.int .i64 (sgnZ n 16)) ∧ w' = w := by
  by_cases h : 32768 ≤ n
  · have e : sgnZ n 16 = (n : Int) - 65536 := by unfold sgnZ; rw [if_pos ⟨by decide, h⟩]; rfl
    rw [e]
    exact signed16_up w n n _ (by simp; omega) (by rw [IntKind.wrap_i64]; omega) (by rw [IntKind.wrap_i64]; omega)
  · have e : sgnZ n 16 = (n : Int) := by unfold sgnZ; rw [if_neg (fun hh => h hh.2), IntKind.wrap_i64]; omega
    rw [e]
    exact signed16_low w n n (by simp; omega) (by rw [IntKind.wrap_i64]; omega)
theorem signed32_any (w : World) (n : Nat) (hn : n < 4294967296) :
    Calls Tryz.prog 59 #[.int .u64 n, .int .u64 32] w fun e w' => e = .returned (.int .i64 (sgnZ n 32)) ∧ w' = w := by
  by_cases h : 2147483648 ≤ n
  · have e : sgnZ n 32 = (n : Int) - 4294967296 := by unfold sgnZ; rw [if_pos ⟨by decide, h⟩]; rfl
    rw [e]
    exact signed32_up w n n _ (by simp; omega) (by rw [IntKind.wrap_i64]; omega) (by rw [IntKind.wrap_i64]; omega)
  · have e : sgnZ n 32 = (n : Int) := by unfold sgnZ; rw [if_neg (fun hh => h hh.2), IntKind.wrap_i64]; omega
    rw [e]
    exact signed32_low w n n (by simp; omega) (by rw [IntKind.wrap_i64]; omega)
theorem signed64 (w : World) (n : Nat) : Calls Tryz.prog 59 #[.int .u64 n, .int .u64 64] w fun e w' => e = .returned (.int .i64 (sgnZ n 64)) ∧ w' = w :=
  signed64_any w n _ (by unfold sgnZ; rw [if_neg (fun hh => absurd hh.1 (by decide))])
end Go.Proofs.YtmaaacaifpgpaaaGreatDoor
