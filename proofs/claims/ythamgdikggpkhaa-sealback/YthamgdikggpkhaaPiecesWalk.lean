/- The statement SealPieces, walked: it answers true, and of what was there nothing has turned, for any number, bytes that can be read and two cuts. -/
import Derived.Test.YthamgdikggpkhaaAddsWalk
import Derived.Deep.QuietTactic
import Derived.BigQuiet
namespace Go.Proofs.Ythamgdikggpkhaa
open Go.RowKit Go.Lib

theorem below_drawn (w : World) (n : Nat) : Below w.heap.size w (w.drewN n) := ⟨rfl, rfl, rfl, Nat.le_refl _, fun _ _ => rfl⟩
theorem below_drawn' {B : Nat} (w : World) (n : Nat) : Below B w (w.drewN n) := ⟨rfl, rfl, rfl, Nat.le_refl _, fun _ _ => rfl⟩
/-- A part of bytes that can be read. -/
theorem rd_part {w : World} {b o n c : Nat} {l : List UInt8} (h : RdA w (.slice (some ⟨b, o, none⟩) n c) l) (p q c' : Nat) (hn : n = l.length) (hpq : p ≤ q) (hq : q ≤ n) (hc : q - p ≤ c') :
    RdA w (.slice (some ⟨b, o + p, none⟩) (q - p) c') ((l.take q).drop p) := by
  subst hn
  have hlen : ((l.take q).drop p).length = q - p := by simp; omega
  refine .inl (.inr ⟨b, o + p, c', by rw [hlen], by omega, fun i hi => ?_⟩)
  rw [hlen] at hi
  obtain ⟨b', o', e, hcell⟩ := h.at (k := p + i) (by omega)
  cases e
  rw [Nat.add_assoc, hcell]
  simp [List.getElem?_take_of_lt (show p + i < q by omega)]
theorem three_parts (n : Nat) (l : List UInt8) (p q : Nat) (hpq : p ≤ q) : addN (addN (addN n (l.take p)) ((l.take q).drop p)) (l.drop q) = addN n l := by
  rw [← addN_append, ← addN_append]
  congr 1
  have e : l.take p = (l.take q).take p := by rw [List.take_take]; congr 1; omega
  rw [e, ← List.append_assoc, List.take_append_drop, List.take_append_drop]

/-- The call of Add in every world that only draws lead to. -/
abbrev Adding (W : World) (n : Nat) (v : Value) (m : Nat) : Prop := ∀ k, Calls Try.prog 12 #[.int .u64 n, v] (W.drewN k) fun e w' => e = .returned (.int .u64 m) ∧ w' = W.drewN k
theorem adding {W : World} {n : Nat} {v : Value} {l : List UInt8} (hn : n < 18446744073709551616) (h : RdA W v l) (hl : l.length ≤ 140737488355328) : Adding W n v (addN n l) :=
  fun k => add_any _ _ _ l hn (h.on (below_drawn W k)) hl
theorem addN_lt' (n : Nat) (l : List UInt8) : addN n l < 18446744073709551616 := by have := addN_lt n l; omega

set_option maxHeartbeats 1000000 in
theorem pieces_early (w : World) (n : Nat) (i k : Int) (v : Value) (l : List UInt8) (h : RdA w v l) (hl : l.length ≤ 140737488355328) (hbad : 16384 < l.length ∨ i < 0 ∨ k < 0 ∨ (l.length : Int) < i ∨ (l.length : Int) < k) :
    Calls Try.prog 4 #[.int .u64 n, v, .agg #[.int .i64 i, .int .i64 k]] w fun e w' => e = .returned (.bool true) ∧ Below w.heap.size w w' := by
  obtain ⟨a, c, rfl⟩ := h.len
  clear h
  go_enter Try.func4, Try.ntmps4
  go_wp2_with (go_at_call 9; refine (wakes_any _).mono ?_; rintro e w1 ⟨rfl, b1⟩)
  have hb := b1.size
  have c0 : w1.cell? ⟨w.heap.size, 0, none⟩ = some (.int .i64 i) := by
    rw [b1.cell (p := ⟨w.heap.size, 0, none⟩) (by simp)]; simp [World.cell?_alloc_new]
  have c1 : w1.cell? ⟨w.heap.size, 1, none⟩ = some (.int .i64 k) := by
    rw [b1.cell (p := ⟨w.heap.size, 1, none⟩) (by simp)]; simp [World.cell?_alloc_new]
  have B1 : Below w.heap.size w w1 := below_alloc b1
  clear b1 hb
  have hB : ∀ nq, Hid (Below w.heap.size w (w1.drewN nq)) := fun nq => B1.trans (below_drawn' w1 nq)
  have HB : Hid (16384 < l.length ∨ i < 0 ∨ k < 0 ∨ (l.length : Int) < i ∨ (l.length : Int) < k) := hbad
  clear hbad B1
  by_cases hik : i < k
  · go_quiet (fail)
    by_cases h1 : 16384 < l.length
    · go_wp2
      go_ret
      exact ⟨rfl, (hB _).out⟩
    · by_cases h2 : i < 0
      · go_wp2
        go_ret
        exact ⟨rfl, (hB _).out⟩
      · have h3 : (l.length : Int) < k := by have := HB.out; omega
        go_wp2
        go_ret
        exact ⟨rfl, (hB _).out⟩
  · by_cases hki : k < i
    · go_quiet (fail)
      by_cases h1 : 16384 < l.length
      · go_wp2
        go_ret
        exact ⟨rfl, (hB _).out⟩
      · by_cases h2 : k < 0
        · go_wp2
          go_ret
          exact ⟨rfl, (hB _).out⟩
        · have h3 : (l.length : Int) < i := by have := HB.out; omega
          go_wp2
          go_ret
          exact ⟨rfl, (hB _).out⟩
    · obtain rfl : i = k := by omega
      go_quiet (fail)
      by_cases h1 : 16384 < l.length
      · go_wp2
        go_ret
        exact ⟨rfl, (hB _).out⟩
      · by_cases h2 : i < 0
        · go_wp2
          go_ret
          exact ⟨rfl, (hB _).out⟩
        · have h3 : (l.length : Int) < i := by have := HB.out; omega
          go_wp2
          go_ret
          exact ⟨rfl, (hB _).out⟩
set_option maxHeartbeats 2000000 in
theorem pieces_up (w : World) (n p q : Nat) (a : Option Addr) (c : Nat) (l : List UInt8) (hn : n < 18446744073709551616) (h : RdA w (.slice a l.length c) l) (hl : l.length ≤ 16384) (hq : q ≤ l.length) (hpq : p < q) :
    Calls Try.prog 4 #[.int .u64 n, .slice a l.length c, .agg #[.int .i64 (p : Int), .int .i64 (q : Int)]] w fun e w' => e = .returned (.bool true) ∧ Below w.heap.size w w' := by
  have HB : Hid (RdA w (.slice a l.length c) l) := h
  clear h
  go_enter Try.func4, Try.ntmps4
  go_wp2_with (go_at_call 9; refine (wakes_any _).mono ?_; rintro e w1 ⟨rfl, b1⟩)
  have hb := b1.size
  have c0 : w1.cell? ⟨w.heap.size, 0, none⟩ = some (.int .i64 (p : Int)) := by
    rw [b1.cell (p := ⟨w.heap.size, 0, none⟩) (by simp)]; simp [World.cell?_alloc_new]
  have c1 : w1.cell? ⟨w.heap.size, 1, none⟩ = some (.int .i64 (q : Int)) := by
    rw [b1.cell (p := ⟨w.heap.size, 1, none⟩) (by simp)]; simp [World.cell?_alloc_new]
  have B1 : Hid (Below w.heap.size w w1) := below_alloc b1
  clear b1 hb
  go_quiet (fail)
  go_wp2_with fail
  have B2 : Hid (Below w.heap.size w (w1.drewN nq)) := B1.out.trans (below_drawn' w1 nq)
  clear c0 c1 B1
  generalize w1.drewN nq = W at *
  have BW : Hid (∀ k, Below w.heap.size w (W.drewN k)) := fun k => B2.out.trans (below_drawn' W k)
  have HW : Hid (RdA W (.slice a l.length c) l) := HB.out.on B2.out
  clear HB B2
  have A4 : Hid (Adding W n (.slice a l.length c) (addN n l)) := adding hn HW.out (by omega)
  have h0 : ¬ l.length = 0 := by omega
  obtain ⟨b, o, rfl, _⟩ := HW.out.at (k := 0) (by omega)
  have hlc : l.length ≤ c := by
    rcases HW.out with (⟨e, _⟩ | ⟨_, _, _, e, h1, _⟩) | ⟨_, e⟩
    · cases e
    · cases e; exact h1
    · rw [e] at h0; exact absurd rfl h0
  have P1 := rd_part HW.out 0 p c rfl (by omega) (by omega) (by omega)
  have A1 : Hid (Adding W n (.slice (some ⟨b, o, none⟩) p c) (addN n (l.take p))) := adding hn (by simpa using P1) (by simp; omega)
  clear P1
  have E := three_parts n l p q (by omega)
  by_cases hqc : q < c
  · have A2 : Hid (Adding W (addN n (l.take p)) (.slice (some ⟨b, o + p, none⟩) (q - p) (c - p)) (addN (addN n (l.take p)) ((l.take q).drop p))) := adding (addN_lt' _ _) (rd_part HW.out p q (c - p) rfl (by omega) (by omega) (by omega)) (by simp; omega)
    have A3 : Hid (Adding W (addN (addN n (l.take p)) ((l.take q).drop p)) (.slice (some ⟨b, o + q, none⟩) (l.length - q) (c - q)) (addN n l)) := by
      have P3 := rd_part HW.out q l.length (c - q) rfl (by omega) (by omega) (by omega)
      rw [List.take_length] at P3
      have := adding (n := addN (addN n (l.take p)) ((l.take q).drop p)) (addN_lt' _ _) P3 (by simp; omega)
      rw [E] at this
      exact this
    clear E HW
    generalize addN (addN n (l.take p)) ((l.take q).drop p) = X2 at *
    generalize addN n (l.take p) = X1 at *
    generalize addN n l = X4 at *
    have k1 : ¬ c = 0 := by omega
    have k2 : ¬ c = p := by omega
    have k3 : ¬ c = q := by omega
    have k4 : (p : Int) ≤ (c : Int) := by omega
    have k5 : (q : Int) ≤ (c : Int) := by omega
    have k6 : (p : Int) ≤ (q : Int) := by omega
    have k7 : (q : Int) ≤ (l.length : Int) := by omega
    go_quiet (first | (go_at_call 12; with_reducible exact Calls.quiet_of_same (A1.out _)) | (go_at_call 12; with_reducible exact Calls.quiet_of_same (A2.out _)) | (go_at_call 12; with_reducible exact Calls.quiet_of_same (A3.out _)) | (go_at_call 12; with_reducible exact Calls.quiet_of_same (A4.out _)))
    go_wp2
    go_ret
    exact ⟨rfl, BW.out _⟩
  · obtain rfl : c = q := by omega
    have A2 : Hid (Adding W (addN n (l.take p)) (.slice (some ⟨b, o + p, none⟩) (c - p) (c - p)) (addN (addN n (l.take p)) ((l.take c).drop p))) := adding (addN_lt' _ _) (rd_part HW.out p c (c - p) rfl (by omega) (by omega) (by omega)) (by simp; omega)
    have A3 : Hid (Adding W (addN (addN n (l.take p)) ((l.take c).drop p)) (.slice (some ⟨b, o, none⟩) 0 0) (addN n l)) := by
      have P3 : RdA W (.slice (some ⟨b, o, none⟩) 0 0) (l.drop c) := .inr ⟨⟨_, _, rfl⟩, List.drop_eq_nil_of_le (by omega)⟩
      have := adding (n := addN (addN n (l.take p)) ((l.take c).drop p)) (addN_lt' _ _) P3 (by simp; omega)
      rw [E] at this
      exact this
    clear E HW
    generalize addN (addN n (l.take p)) ((l.take c).drop p) = X2 at *
    generalize addN n (l.take p) = X1 at *
    generalize addN n l = X4 at *
    have k1 : ¬ c = 0 := by omega
    have k2 : ¬ c = p := by omega
    have k4 : (p : Int) ≤ (c : Int) := by omega
    have k6 : (p : Int) ≤ (c : Int) := by omega
    have k7 : (c : Int) ≤ (l.length : Int) := by omega
    go_quiet (first | (go_at_call 12; with_reducible exact Calls.quiet_of_same (A1.out _)) | (go_at_call 12; with_reducible exact Calls.quiet_of_same (A2.out _)) | (go_at_call 12; with_reducible exact Calls.quiet_of_same (A3.out _)) | (go_at_call 12; with_reducible exact Calls.quiet_of_same (A4.out _)))
    go_wp2
    go_ret
    exact ⟨rfl, BW.out _⟩
set_option maxHeartbeats 2000000 in
theorem pieces_down (w : World) (n p q : Nat) (a : Option Addr) (c : Nat) (l : List UInt8) (hn : n < 18446744073709551616) (h : RdA w (.slice a l.length c) l) (hl : l.length ≤ 16384) (hq : q ≤ l.length) (hpq : p < q) :
    Calls Try.prog 4 #[.int .u64 n, .slice a l.length c, .agg #[.int .i64 (q : Int), .int .i64 (p : Int)]] w fun e w' => e = .returned (.bool true) ∧ Below w.heap.size w w' := by
  have HB : Hid (RdA w (.slice a l.length c) l) := h
  clear h
  go_enter Try.func4, Try.ntmps4
  go_wp2_with (go_at_call 9; refine (wakes_any _).mono ?_; rintro e w1 ⟨rfl, b1⟩)
  have hb := b1.size
  have c0 : w1.cell? ⟨w.heap.size, 0, none⟩ = some (.int .i64 (q : Int)) := by
    rw [b1.cell (p := ⟨w.heap.size, 0, none⟩) (by simp)]; simp [World.cell?_alloc_new]
  have c1 : w1.cell? ⟨w.heap.size, 1, none⟩ = some (.int .i64 (p : Int)) := by
    rw [b1.cell (p := ⟨w.heap.size, 1, none⟩) (by simp)]; simp [World.cell?_alloc_new]
  have B1 : Hid (Below w.heap.size w w1) := below_alloc b1
  clear b1 hb
  go_quiet (fail)
  go_wp2_with fail
  have B2 : Hid (Below w.heap.size w (w1.drewN nq)) := B1.out.trans (below_drawn' w1 nq)
  clear c0 c1 B1
  generalize w1.drewN nq = W at *
  have BW : Hid (∀ k, Below w.heap.size w (W.drewN k)) := fun k => B2.out.trans (below_drawn' W k)
  have HW : Hid (RdA W (.slice a l.length c) l) := HB.out.on B2.out
  clear HB B2
  have A4 : Hid (Adding W n (.slice a l.length c) (addN n l)) := adding hn HW.out (by omega)
  have h0 : ¬ l.length = 0 := by omega
  obtain ⟨b, o, rfl, _⟩ := HW.out.at (k := 0) (by omega)
  have hlc : l.length ≤ c := by
    rcases HW.out with (⟨e, _⟩ | ⟨_, _, _, e, h1, _⟩) | ⟨_, e⟩
    · cases e
    · cases e; exact h1
    · rw [e] at h0; exact absurd rfl h0
  have P1 := rd_part HW.out 0 p c rfl (by omega) (by omega) (by omega)
  have A1 : Hid (Adding W n (.slice (some ⟨b, o, none⟩) p c) (addN n (l.take p))) := adding hn (by simpa using P1) (by simp; omega)
  clear P1
  have E := three_parts n l p q (by omega)
  by_cases hqc : q < c
  · have A2 : Hid (Adding W (addN n (l.take p)) (.slice (some ⟨b, o + p, none⟩) (q - p) (c - p)) (addN (addN n (l.take p)) ((l.take q).drop p))) := adding (addN_lt' _ _) (rd_part HW.out p q (c - p) rfl (by omega) (by omega) (by omega)) (by simp; omega)
    have A3 : Hid (Adding W (addN (addN n (l.take p)) ((l.take q).drop p)) (.slice (some ⟨b, o + q, none⟩) (l.length - q) (c - q)) (addN n l)) := by
      have P3 := rd_part HW.out q l.length (c - q) rfl (by omega) (by omega) (by omega)
      rw [List.take_length] at P3
      have := adding (n := addN (addN n (l.take p)) ((l.take q).drop p)) (addN_lt' _ _) P3 (by simp; omega)
      rw [E] at this
      exact this
    clear E HW
    generalize addN (addN n (l.take p)) ((l.take q).drop p) = X2 at *
    generalize addN n (l.take p) = X1 at *
    generalize addN n l = X4 at *
    have k1 : ¬ c = 0 := by omega
    have k2 : ¬ c = p := by omega
    have k3 : ¬ c = q := by omega
    have k4 : (p : Int) ≤ (c : Int) := by omega
    have k5 : (q : Int) ≤ (c : Int) := by omega
    have k6 : (p : Int) ≤ (q : Int) := by omega
    have k7 : (q : Int) ≤ (l.length : Int) := by omega
    go_quiet (first | (go_at_call 12; with_reducible exact Calls.quiet_of_same (A1.out _)) | (go_at_call 12; with_reducible exact Calls.quiet_of_same (A2.out _)) | (go_at_call 12; with_reducible exact Calls.quiet_of_same (A3.out _)) | (go_at_call 12; with_reducible exact Calls.quiet_of_same (A4.out _)))
    go_wp2
    go_ret
    exact ⟨rfl, BW.out _⟩
  · obtain rfl : c = q := by omega
    have A2 : Hid (Adding W (addN n (l.take p)) (.slice (some ⟨b, o + p, none⟩) (c - p) (c - p)) (addN (addN n (l.take p)) ((l.take c).drop p))) := adding (addN_lt' _ _) (rd_part HW.out p c (c - p) rfl (by omega) (by omega) (by omega)) (by simp; omega)
    have A3 : Hid (Adding W (addN (addN n (l.take p)) ((l.take c).drop p)) (.slice (some ⟨b, o, none⟩) 0 0) (addN n l)) := by
      have P3 : RdA W (.slice (some ⟨b, o, none⟩) 0 0) (l.drop c) := .inr ⟨⟨_, _, rfl⟩, List.drop_eq_nil_of_le (by omega)⟩
      have := adding (n := addN (addN n (l.take p)) ((l.take c).drop p)) (addN_lt' _ _) P3 (by simp; omega)
      rw [E] at this
      exact this
    clear E HW
    generalize addN (addN n (l.take p)) ((l.take c).drop p) = X2 at *
    generalize addN n (l.take p) = X1 at *
    generalize addN n l = X4 at *
    have k1 : ¬ c = 0 := by omega
    have k2 : ¬ c = p := by omega
    have k4 : (p : Int) ≤ (c : Int) := by omega
    have k6 : (p : Int) ≤ (c : Int) := by omega
    have k7 : (c : Int) ≤ (l.length : Int) := by omega
    go_quiet (first | (go_at_call 12; with_reducible exact Calls.quiet_of_same (A1.out _)) | (go_at_call 12; with_reducible exact Calls.quiet_of_same (A2.out _)) | (go_at_call 12; with_reducible exact Calls.quiet_of_same (A3.out _)) | (go_at_call 12; with_reducible exact Calls.quiet_of_same (A4.out _)))
    go_wp2
    go_ret
    exact ⟨rfl, BW.out _⟩
theorem rd_none (W : World) (a : Addr) (c : Nat) (l : List UInt8) (q : Nat) : RdA W (.slice (some a) 0 c) ((l.take q).drop q) := .inr ⟨⟨_, _, rfl⟩, List.drop_eq_nil_of_le (by simp; omega)⟩
set_option maxHeartbeats 1000000 in
theorem add_zero (w : World) (n : Nat) (a : Option Addr) (c : Nat) (hn : n < 18446744073709551616) :
    Calls Try.prog 12 #[.int .u64 n, .slice a 0 c] w fun e w' => e = .returned (.int .u64 (addN n [] : Nat)) ∧ w' = w := by
  go_enter Try.func12, Try.ntmps12
  go_wp2_with (go_at_call 21; refine (halves_any _ _ hn).mono ?_; rintro e w' ⟨rfl, rfl⟩)
  go_loop [5, 6, 17] (fun x y i => i = .int .i64 0 ∧ x = .int .u64 (haL n : Nat) ∧ y = .int .u64 (haR n : Nat)) (fun _ _ _ => 0)
  case atStart => exact ⟨rfl, rfl, rfl⟩
  case round =>
    obtain ⟨rfl, rfl, rfl⟩ := hrel
    go_wp2_with (go_at_call 20; refine (join_any _ _ _ (haL_lt n) (haR_lt n)).mono ?_; rintro e w' ⟨rfl, rfl⟩)
    go_ret
    exact ⟨rfl, rfl⟩
theorem add_none_twice (n : Nat) : addN (addN n []) [] = addN n [] := (addN_append n [] []).symm
set_option maxHeartbeats 2000000 in
theorem pieces_same (w : World) (n q : Nat) (a : Option Addr) (c : Nat) (l : List UInt8) (hn : n < 18446744073709551616) (h : RdA w (.slice a l.length c) l) (hl : l.length ≤ 16384) (hq : q ≤ l.length) :
    Calls Try.prog 4 #[.int .u64 n, .slice a l.length c, .agg #[.int .i64 (q : Int), .int .i64 (q : Int)]] w fun e w' => e = .returned (.bool true) ∧ Below w.heap.size w w' := by
  have HB : Hid (RdA w (.slice a l.length c) l) := h
  clear h
  go_enter Try.func4, Try.ntmps4
  go_wp2_with (go_at_call 9; refine (wakes_any _).mono ?_; rintro e w1 ⟨rfl, b1⟩)
  have hb := b1.size
  have c0 : w1.cell? ⟨w.heap.size, 0, none⟩ = some (.int .i64 (q : Int)) := by
    rw [b1.cell (p := ⟨w.heap.size, 0, none⟩) (by simp)]; simp [World.cell?_alloc_new]
  have c1 : w1.cell? ⟨w.heap.size, 1, none⟩ = some (.int .i64 (q : Int)) := by
    rw [b1.cell (p := ⟨w.heap.size, 1, none⟩) (by simp)]; simp [World.cell?_alloc_new]
  have B1 : Hid (Below w.heap.size w w1) := below_alloc b1
  clear b1 hb
  go_quiet (fail)
  go_wp2_with fail
  have B2 : Hid (Below w.heap.size w (w1.drewN nq)) := B1.out.trans (below_drawn' w1 nq)
  clear c0 c1 B1
  generalize w1.drewN nq = W at *
  have BW : Hid (∀ k, Below w.heap.size w (W.drewN k)) := fun k => B2.out.trans (below_drawn' W k)
  have HW : Hid (RdA W (.slice a l.length c) l) := HB.out.on B2.out
  clear HB B2
  have A4 : Hid (Adding W n (.slice a l.length c) (addN n l)) := adding hn HW.out (by omega)
  by_cases h0 : l.length = 0
  · obtain rfl : l = [] := List.length_eq_zero_iff.1 h0
    obtain rfl : q = 0 := by simpa using hq
    have Z1 : Hid (∀ a c k, Calls Try.prog 12 #[.int .u64 n, .slice a 0 c] (W.drewN k) fun e w' => e = .returned (.int .u64 (addN n [] : Nat)) ∧ w' = W.drewN k) := fun a c k => add_zero _ n a c hn
    have Z2 : Hid (∀ a c k, Calls Try.prog 12 #[.int .u64 (addN n [] : Nat), .slice a 0 c] (W.drewN k) fun e w' => e = .returned (.int .u64 (addN n [] : Nat)) ∧ w' = W.drewN k) := fun a c k => by
      have := add_zero (W.drewN k) (addN n []) a c (addN_lt' _ _)
      rwa [add_none_twice] at this
    clear A4 HW
    generalize addN n [] = X at *
    cases a with
    | none =>
      by_cases k1 : c = 0
      · subst k1
        go_quiet (first | (go_at_call 12; with_reducible exact Calls.quiet_of_same (Z1.out _ _ _)) | (go_at_call 12; with_reducible exact Calls.quiet_of_same (Z2.out _ _ _)))
        go_wp2
        go_ret
        exact ⟨rfl, BW.out _⟩
      · go_quiet (first | (go_at_call 12; with_reducible exact Calls.quiet_of_same (Z1.out _ _ _)) | (go_at_call 12; with_reducible exact Calls.quiet_of_same (Z2.out _ _ _)))
        go_wp2
        go_ret
        exact ⟨rfl, BW.out _⟩
    | some ad =>
      by_cases k1 : c = 0
      · subst k1
        go_quiet (first | (go_at_call 12; with_reducible exact Calls.quiet_of_same (Z1.out _ _ _)) | (go_at_call 12; with_reducible exact Calls.quiet_of_same (Z2.out _ _ _)))
        go_wp2
        go_ret
        exact ⟨rfl, BW.out _⟩
      · go_quiet (first | (go_at_call 12; with_reducible exact Calls.quiet_of_same (Z1.out _ _ _)) | (go_at_call 12; with_reducible exact Calls.quiet_of_same (Z2.out _ _ _)))
        go_wp2
        go_ret
        exact ⟨rfl, BW.out _⟩
  · obtain ⟨b, o, rfl, _⟩ := HW.out.at (k := 0) (by omega)
    have hlc : l.length ≤ c := by
      rcases HW.out with (⟨e, _⟩ | ⟨_, _, _, e, h1, _⟩) | ⟨_, e⟩
      · cases e
      · cases e; exact h1
      · rw [e] at h0; exact absurd rfl h0
    have P1 := rd_part HW.out 0 q c rfl (by omega) (by omega) (by omega)
    have A1 : Hid (Adding W n (.slice (some ⟨b, o, none⟩) q c) (addN n (l.take q))) := adding hn (by simpa using P1) (by simp; omega)
    clear P1
    have E := three_parts n l q q (by omega)
    by_cases hqc : q < c
    · have A2 : Hid (Adding W (addN n (l.take q)) (.slice (some ⟨b, o + q, none⟩) 0 (c - q)) (addN (addN n (l.take q)) ((l.take q).drop q))) := adding (addN_lt' _ _) (rd_none W ⟨b, o + q, none⟩ (c - q) l q) (by simp)
      have A3 : Hid (Adding W (addN (addN n (l.take q)) ((l.take q).drop q)) (.slice (some ⟨b, o + q, none⟩) (l.length - q) (c - q)) (addN n l)) := by
        have P3 := rd_part HW.out q l.length (c - q) rfl (by omega) (by omega) (by omega)
        rw [List.take_length] at P3
        have := adding (n := addN (addN n (l.take q)) ((l.take q).drop q)) (addN_lt' _ _) P3 (by simp; omega)
        rw [E] at this
        exact this
      clear E HW
      generalize addN (addN n (l.take q)) ((l.take q).drop q) = X2 at *
      generalize addN n (l.take q) = X1 at *
      generalize addN n l = X4 at *
      have k1 : ¬ c = 0 := by omega
      have k3 : ¬ c = q := by omega
      have k4 : (q : Int) ≤ (c : Int) := by omega
      have k5 : (q : Int) ≤ (c : Int) := by omega
      have k7 : (q : Int) ≤ (l.length : Int) := by omega
      go_quiet (first | (go_at_call 12; with_reducible exact Calls.quiet_of_same (A1.out _)) | (go_at_call 12; with_reducible exact Calls.quiet_of_same (A2.out _)) | (go_at_call 12; with_reducible exact Calls.quiet_of_same (A3.out _)) | (go_at_call 12; with_reducible exact Calls.quiet_of_same (A4.out _)))
      go_wp2
      go_ret
      exact ⟨rfl, BW.out _⟩
    · obtain rfl : c = q := by omega
      have A2 : Hid (Adding W (addN n (l.take c)) (.slice (some ⟨b, o, none⟩) 0 0) (addN (addN n (l.take c)) ((l.take c).drop c))) := adding (addN_lt' _ _) (rd_none W ⟨b, o, none⟩ 0 l c) (by simp)
      have A3 : Hid (Adding W (addN (addN n (l.take c)) ((l.take c).drop c)) (.slice (some ⟨b, o, none⟩) 0 0) (addN n l)) := by
        have P3 : RdA W (.slice (some ⟨b, o, none⟩) 0 0) (l.drop c) := .inr ⟨⟨_, _, rfl⟩, List.drop_eq_nil_of_le (by omega)⟩
        have := adding (n := addN (addN n (l.take c)) ((l.take c).drop c)) (addN_lt' _ _) P3 (by simp; omega)
        rw [E] at this
        exact this
      clear E HW
      generalize addN (addN n (l.take c)) ((l.take c).drop c) = X2 at *
      generalize addN n (l.take c) = X1 at *
      generalize addN n l = X4 at *
      have k1 : ¬ c = 0 := by omega
      have k4 : (c : Int) ≤ (c : Int) := by omega
      have k7 : (c : Int) ≤ (l.length : Int) := by omega
      go_quiet (first | (go_at_call 12; with_reducible exact Calls.quiet_of_same (A1.out _)) | (go_at_call 12; with_reducible exact Calls.quiet_of_same (A2.out _)) | (go_at_call 12; with_reducible exact Calls.quiet_of_same (A3.out _)) | (go_at_call 12; with_reducible exact Calls.quiet_of_same (A4.out _)))
      go_wp2
      go_ret
      exact ⟨rfl, BW.out _⟩

theorem pieces_walk (w : World) (n : Nat) (i k : Int) (v : Value) (l : List UInt8) (hn : n < 18446744073709551616) (h : RdA w v l) (hl : l.length ≤ 140737488355328) :
    Calls Try.prog 4 #[.int .u64 n, v, .agg #[.int .i64 i, .int .i64 k]] w fun e w' => e = .returned (.bool true) ∧ Below w.heap.size w w' := by
  by_cases hbad : 16384 < l.length ∨ i < 0 ∨ k < 0 ∨ (l.length : Int) < i ∨ (l.length : Int) < k
  · exact pieces_early w n i k v l h hl hbad
  · obtain ⟨p, rfl⟩ : ∃ p : Nat, i = p := ⟨i.toNat, by omega⟩
    obtain ⟨q, rfl⟩ : ∃ q : Nat, k = q := ⟨k.toNat, by omega⟩
    obtain ⟨a, c, rfl⟩ := h.len
    by_cases h1 : p < q
    · exact pieces_up w n p q a c l hn h (by omega) (by omega) h1
    · by_cases h2 : q < p
      · exact pieces_down w n q p a c l hn h (by omega) (by omega) h2
      · obtain rfl : p = q := by omega
        exact pieces_same w n p a c l hn h (by omega) (by omega)
end Go.Proofs.Ythamgdikggpkhaa
