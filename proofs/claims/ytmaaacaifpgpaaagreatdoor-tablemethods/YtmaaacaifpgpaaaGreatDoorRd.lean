
/- The document's own reader of bytes: what its Take and its Number answer, and how much it leaves. Conditions: those that each row states. -/
import Derived.Test.YtmaaacaifpgpaaaGreatDoorNe
namespace Go.Proofs.YtmaaacaifpgpaaaGreatDoor
open Go.RowKit Go.Lib
set_option maxRecDepth 100000

/-- A reader lies at block b. -/
structure Rd (w : World) (b : Nat) (s : List UInt8) (bad : Bool) : Prop where
  c0 : w.cell? ⟨b, 0, none⟩ = some (str s)
  c1 : w.cell? ⟨b, 1, none⟩ = some (.bool bad)
  f0 : w.frozen? ⟨b, 0, none⟩ = false
  f1 : w.frozen? ⟨b, 1, none⟩ = false
/-- Nothing but block b has changed. -/
structure But (w w' : World) (b : Nat) : Prop where
  os : w'.os = w.os
  tape : w'.tape = w.tape
  output : w'.output = w.output
  size : w'.heap.size = w.heap.size
  block : ∀ k, k ≠ b → w'.heap[k]? = w.heap[k]?
theorem But.refl (w : World) (b : Nat) : But w w b := ⟨rfl, rfl, rfl, rfl, fun _ _ => rfl⟩
theorem But.trans {w w1 w2 : World} {b : Nat} (h1 : But w w1 b) (h2 : But w1 w2 b) : But w w2 b :=
  ⟨h2.os.trans h1.os, h2.tape.trans h1.tape, h2.output.trans h1.output, h2.size.trans h1.size, fun k hk => (h2.block k hk).trans (h1.block k hk)⟩
theorem But.set (w : World) (b o : Nat) (v : Value) : But w (w.setCell ⟨b, o, none⟩ v) b := by
  refine ⟨rfl, rfl, rfl, by simp, fun k hk => ?_⟩
  simp only [World.setCell]
  rw [Array.getElem?_modify, if_neg (Ne.symm hk)]
theorem But.below {w w' : World} {b B : Nat} (h : But w w' b) (hB : B ≤ b) : Below B w w' := ⟨h.os, h.tape, h.output, Nat.le_of_eq h.size.symm, fun k hk => h.block k (by omega)⟩
theorem But.cell {w w' : World} {b : Nat} (h : But w w' b) (k o : Nat) (hk : k ≠ b) : w'.cell? ⟨k, o, none⟩ = w.cell? ⟨k, o, none⟩ := by unfold World.cell?; simp only [h.block k hk]
theorem But.frozen {w w' : World} {b : Nat} (h : But w w' b) (k o : Nat) (hk : k ≠ b) : w'.frozen? ⟨k, o, none⟩ = w.frozen? ⟨k, o, none⟩ := by unfold World.frozen?; simp only [h.block k hk]

set_option maxHeartbeats 400000 in
theorem take_bad (w : World) (b n : Nat) (s : List UInt8) (bad : Bool) (hr : Rd w b s bad) (h : bad = true ∨ s.length < n) :
    Calls Tryz.prog 41 #[.pointer (some ⟨b, 0, none⟩), .int .i64 n] w fun e w' => e = .returned (str []) ∧ Rd w' b s true ∧ But w w' b := by
  obtain ⟨c0, c1, f0, f1⟩ := hr
  have fin : ∀ w', w' = w.setCell ⟨b, 1, none⟩ (.bool true) → Rd w' b s true ∧ But w w' b := by
    rintro w' rfl
    exact ⟨⟨by rw [World.cell?_setCell_other (h := by simp)]; exact c0, World.cell?_setCell_same (h := c1) .., by rw [World.frozen?_setCell]; exact f0, by rw [World.frozen?_setCell]; exact f1⟩, But.set w b 1 _⟩
  rcases h with rfl | h
  · clear f0
    go_enter Tryz.func41, Tryz.ntmps41
    go_wp2
    go_ret
    exact ⟨rfl, fin _ rfl⟩
  · have hz : (s.length : Int) < (n : Int) := by omega
    cases bad with
    | true =>
      go_enter Tryz.func41, Tryz.ntmps41
      go_wp2
      go_ret
      exact ⟨rfl, fin _ rfl⟩
    | false =>
      go_enter Tryz.func41, Tryz.ntmps41
      go_wp2
      go_ret
      exact ⟨rfl, fin _ rfl⟩

set_option maxHeartbeats 400000 in
theorem take_ok (w : World) (b n : Nat) (s : List UInt8) (hr : Rd w b s false) (h : n ≤ s.length) :
    Calls Tryz.prog 41 #[.pointer (some ⟨b, 0, none⟩), .int .i64 n] w fun e w' => e = .returned (str (s.take n)) ∧ Rd w' b (s.drop n) false ∧ But w w' b := by
  obtain ⟨c0, c1, f0, f1⟩ := hr
  have fin : ∀ w', w' = w.setCell ⟨b, 0, none⟩ (str (s.drop n)) → Rd w' b (s.drop n) false ∧ But w w' b := by
    rintro w' rfl
    exact ⟨⟨World.cell?_setCell_same (h := c0) .., by rw [World.cell?_setCell_other (h := by simp)]; exact c1, by rw [World.frozen?_setCell]; exact f0, by rw [World.frozen?_setCell]; exact f1⟩, But.set w b 0 _⟩
  have hz : (n : Int) ≤ (s.length : Int) := by omega
  go_enter Tryz.func41, Tryz.ntmps41
  go_wp2
  go_ret
  have e1 : (⟨s.toArray⟩ : ByteArray).extract 0 n = ⟨(s.take n).toArray⟩ := by
    apply ByteArray.ext
    simp [ByteArray.data_extract, List.extract_eq_take_drop]
  have e2 : (⟨s.toArray⟩ : ByteArray).extract n s.length = ⟨(s.drop n).toArray⟩ := by
    apply ByteArray.ext
    simp [ByteArray.data_extract, List.extract_eq_take_drop]
    rw [List.take_of_length_le (by simp)]
  refine ⟨?_, fin _ (by rw [e2])⟩
  show Ending.returned (.string _) = _
  rw [e1]

set_option maxHeartbeats 400000 in
theorem number_any (w : World) (b k : Nat) (out : List UInt8) (R : World → Prop) (hk : k ≤ 8) (hol : out.length ≤ k)
    (ht : Calls Tryz.prog 41 #[.pointer (some ⟨b, 0, none⟩), .int .i64 k] w fun e w' => e = .returned (str out) ∧ R w') :
    Calls Tryz.prog 24 #[.pointer (some ⟨b, 0, none⟩), .int .i64 k] w fun e w' => e = .returned (.int .u64 (numL out)) ∧ R w' := by
  go_enter Tryz.func24, Tryz.ntmps24
  go_wp2_with (go_at_call 41; refine ht.mono ?_; rintro e w1 ⟨rfl, hR⟩)
  go_loop [6, 7] (fun n i => ∃ j : Nat, j ≤ out.length ∧ i = .int .i64 j ∧ n = .int .u64 (numL (out.take j))) (fun _ i => out.length - (RowKit.intOf i).toNat)
  case atStart => exact ⟨0, Nat.zero_le _, rfl, rfl⟩
  case round =>
    obtain ⟨j, hj, rfl, rfl⟩ := hrel
    by_cases hlt : j < out.length
    · have h8 : numL (out.take j) < 256 ^ j := by
        have := numL_lt (out.take j)
        rwa [List.length_take, Nat.min_eq_left hj] at this
      have h56 : numL (out.take j) < 72057594037927936 := Nat.lt_of_lt_of_le h8 (by have : 256 ^ j ≤ 256 ^ 7 := Nat.pow_le_pow_right (by decide) (by omega); simpa using this)
      have HS : Hid (numL (out.take (j + 1)) = numL (out.take j) * 256 + (out.getD j 0).toNat) := by
        show _ = _
        rw [List.take_succ_eq_append_getElem hlt, numL_snoc, List.getD_eq_getElem?_getD, List.getElem?_eq_getElem hlt, Option.getD_some]
      have gj := get_str out j
      clear h8
      generalize numL (out.take j) = n at *
      generalize out.getD j 0 = c at *
      have hby : (c.toNat : Int) < 256 := by have := c.toNat_lt; omega
      obtain ⟨x, hx⟩ : ∃ x, c.toNat = x := ⟨_, rfl⟩
      rw [hx] at hby
      have hjz : (j : Int) < (out.length : Int) := by omega
      have hn0 : (0 : Int) ≤ (n : Int) := by omega
      go_wp2
      all_goals
        go_round
        case rel => exact ⟨j + 1, by omega, by go_num, by rw [HS.out, hx]; first | rfl | (congr 1; rw [IntKind.wrap_u64, IntKind.wrap_u64]; omega) | (congr 1; rw [IntKind.wrap_u64]; omega)⟩
        case measure => simp [RowKit.intOf]; omega
    · have hjk : j = out.length := by omega
      subst hjk
      go_wp2
      go_ret
      refine ⟨?_, hR⟩
      show Ending.returned (.int .u64 _) = _
      first | rfl | rw [List.take_length]
end Go.Proofs.YtmaaacaifpgpaaaGreatDoor
