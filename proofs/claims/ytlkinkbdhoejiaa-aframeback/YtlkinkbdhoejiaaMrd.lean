/- The document's own reader of bytes: what its Take and its Number answer, and how much it leaves. Conditions: those that each row states. What the document's own Next reads of any bytes. Conditions: those that each row states. The document's Reader as a function of what is left: Take, Number, Long, Short, signed. Conditions: those that each row states. Blocks that hold one struct: reading, writing (carried over from stage 11's seat). Conditions: those that each row states. -/
import Derived.Test.YtlkinkbdhoejiaaNe
import Derived.Test.YtlkinkbdhoejiaaTf
namespace Go.Proofs.Ytlkinkbdhoejiaa
open Go.RowKit Go.Lib
set_option maxRecDepth 100000

/-- A reader lies at block b. -/
structure Rd (w : World) (b : Nat) (s : List UInt8) (bad : Bool) : Prop where
  c0 : w.cell? ⟨b, 0, none⟩ = some (str s)
  c1 : w.cell? ⟨b, 1, none⟩ = some (.bool bad)
  f0 : w.frozen? ⟨b, 0, none⟩ = false
  f1 : w.frozen? ⟨b, 1, none⟩ = false
/-- Nothing but block b has changed. -/
structure But (w w' : World) (b : Nat) : Prop where
  os : w'.os = w.os
  tape : w'.tape = w.tape
  output : w'.output = w.output
  size : w'.heap.size = w.heap.size
  block : ∀ k, k ≠ b → w'.heap[k]? = w.heap[k]?
theorem But.refl (w : World) (b : Nat) : But w w b := ⟨rfl, rfl, rfl, rfl, fun _ _ => rfl⟩
theorem But.trans {w w1 w2 : World} {b : Nat} (h1 : But w w1 b) (h2 : But w1 w2 b) : But w w2 b :=
  ⟨h2.os.trans h1.os, h2.tape.trans h1.tape, h2.output.trans h1.output, h2.size.trans h1.size, fun k hk => (h2.block k hk).trans (h1.block k hk)⟩
theorem But.set (w : World) (b o : Nat) (v : Value) : But w (w.setCell ⟨b, o, none⟩ v) b := by
  refine ⟨rfl, rfl, rfl, by simp, fun k hk => ?_⟩
  simp only [World.setCell]
  rw [Array.getElem?_modify, if_neg (Ne.symm hk)]
theorem But.below {w w' : World} {b B : Nat} (h : But w w' b) (hB : B ≤ b) : Below B w w' := ⟨h.os, h.tape, h.output, Nat.le_of_eq h.size.symm, fun k hk => h.block k (by omega)⟩
theorem But.cell {w w' : World} {b : Nat} (h : But w w' b) (k o : Nat) (hk : k ≠ b) : w'.cell? ⟨k, o, none⟩ = w.cell? ⟨k, o, none⟩ := by unfold World.cell?; simp only [h.block k hk]
theorem But.frozen {w w' : World} {b : Nat} (h : But w w' b) (k o : Nat) (hk : k ≠ b) : w'.frozen? ⟨k, o, none⟩ = w.frozen? ⟨k, o, none⟩ := by unfold World.frozen?; simp only [h.block k hk]

set_option maxHeartbeats 400000 in
theorem take_bad (w : World) (b n : Nat) (s : List UInt8) (bad : Bool) (hr : Rd w b s bad) (h : bad = true ∨ s.length < n) :
    Calls Try.prog 26 #[.pointer (some ⟨b, 0, none⟩), .int .i64 n] w fun e w' => e = .returned (str []) ∧ Rd w' b s true ∧ But w w' b := by
  obtain ⟨c0, c1, f0, f1⟩ := hr
  have fin : ∀ w', w' = w.setCell ⟨b, 1, none⟩ (.bool true) → Rd w' b s true ∧ But w w' b := by
    rintro w' rfl
    exact ⟨⟨by rw [World.cell?_setCell_other (h := by simp)]; exact c0, World.cell?_setCell_same (h := c1) .., by rw [World.frozen?_setCell]; exact f0, by rw [World.frozen?_setCell]; exact f1⟩, But.set w b 1 _⟩
  rcases h with rfl | h
  · clear f0
    go_enter Try.func26, Try.ntmps26
    go_wp2
    go_ret
    exact ⟨rfl, fin _ rfl⟩
  · have hz : (s.length : Int) < (n : Int) := by omega
    cases bad with
    | true =>
      go_enter Try.func26, Try.ntmps26
      go_wp2
      go_ret
      exact ⟨rfl, fin _ rfl⟩
    | false =>
      go_enter Try.func26, Try.ntmps26
      go_wp2
      go_ret
      exact ⟨rfl, fin _ rfl⟩

set_option maxHeartbeats 400000 in
theorem take_ok (w : World) (b n : Nat) (s : List UInt8) (hr : Rd w b s false) (h : n ≤ s.length) :
    Calls Try.prog 26 #[.pointer (some ⟨b, 0, none⟩), .int .i64 n] w fun e w' => e = .returned (str (s.take n)) ∧ Rd w' b (s.drop n) false ∧ But w w' b := by
  obtain ⟨c0, c1, f0, f1⟩ := hr
  have fin : ∀ w', w' = w.setCell ⟨b, 0, none⟩ (str (s.drop n)) → Rd w' b (s.drop n) false ∧ But w w' b := by
    rintro w' rfl
    exact ⟨⟨World.cell?_setCell_same (h := c0) .., by rw [World.cell?_setCell_other (h := by simp)]; exact c1, by rw [World.frozen?_setCell]; exact f0, by rw [World.frozen?_setCell]; exact f1⟩, But.set w b 0 _⟩
  have hz : (n : Int) ≤ (s.length : Int) := by omega
  go_enter Try.func26, Try.ntmps26
  go_wp2
  go_ret
  have e1 : (⟨s.toArray⟩ : ByteArray).extract 0 n = ⟨(s.take n).toArray⟩ := by
    apply ByteArray.ext
    simp [ByteArray.data_extract, List.extract_eq_take_drop]
  have e2 : (⟨s.toArray⟩ : ByteArray).extract n s.length = ⟨(s.drop n).toArray⟩ := by
    apply ByteArray.ext
    simp [ByteArray.data_extract, List.extract_eq_take_drop]
    rw [List.take_of_length_le (by simp)]
  refine ⟨?_, fin _ (by rw [e2])⟩
  show Ending.returned (.string _) = _
  rw [e1]

set_option maxHeartbeats 400000 in
theorem number_any (w : World) (b k : Nat) (out : List UInt8) (R : World → Prop) (hk : k ≤ 8) (hol : out.length ≤ k)
    (ht : Calls Try.prog 26 #[.pointer (some ⟨b, 0, none⟩), .int .i64 k] w fun e w' => e = .returned (str out) ∧ R w') :
    Calls Try.prog 25 #[.pointer (some ⟨b, 0, none⟩), .int .i64 k] w fun e w' => e = .returned (.int .u64 (numL out)) ∧ R w' := by
  go_enter Try.func25, Try.ntmps25
  go_wp2_with (go_at_call 26; refine ht.mono ?_; rintro e w1 ⟨rfl, hR⟩)
  go_loop [6, 7] (fun n i => ∃ j : Nat, j ≤ out.length ∧ i = .int .i64 j ∧ n = .int .u64 (numL (out.take j))) (fun _ i => out.length - (RowKit.intOf i).toNat)
  case atStart => exact ⟨0, Nat.zero_le _, rfl, rfl⟩
  case round =>
    obtain ⟨j, hj, rfl, rfl⟩ := hrel
    by_cases hlt : j < out.length
    · have h8 : numL (out.take j) < 256 ^ j := by
        have := numL_lt (out.take j)
        rwa [List.length_take, Nat.min_eq_left hj] at this
      have h56 : numL (out.take j) < 72057594037927936 := Nat.lt_of_lt_of_le h8 (by have : 256 ^ j ≤ 256 ^ 7 := Nat.pow_le_pow_right (by decide) (by omega); simpa using this)
      have HS : Hid (numL (out.take (j + 1)) = numL (out.take j) * 256 + (out.getD j 0).toNat) := by
        show _ = _
        rw [List.take_succ_eq_append_getElem hlt, numL_snoc, List.getD_eq_getElem?_getD, List.getElem?_eq_getElem hlt, Option.getD_some]
      have gj := get_str out j
      clear h8
      generalize numL (out.take j) = n at *
      generalize out.getD j 0 = c at *
      have hby : (c.toNat : Int) < 256 := by have := c.toNat_lt; omega
      obtain ⟨x, hx⟩ : ∃ x, c.toNat = x := ⟨_, rfl⟩
      rw [hx] at hby
      have hjz : (j : Int) < (out.length : Int) := by omega
      have hn0 : (0 : Int) ≤ (n : Int) := by omega
      go_wp2
      all_goals
        go_round
        case rel => exact ⟨j + 1, by omega, by go_num, by rw [HS.out, hx]; first | rfl | (congr 1; rw [IntKind.wrap_u64, IntKind.wrap_u64]; omega) | (congr 1; rw [IntKind.wrap_u64]; omega)⟩
        case measure => simp [RowKit.intOf]; omega
    · have hjk : j = out.length := by omega
      subst hjk
      go_wp2
      go_ret
      refine ⟨?_, hR⟩
      show Ending.returned (.int .u64 _) = _
      first | rfl | rw [List.take_length]
end Go.Proofs.Ytlkinkbdhoejiaa

namespace Go.Proofs.Ytlkinkbdhoejiaa
open Go.RowKit Go.Lib
set_option maxRecDepth 100000

/-- Three cells at block b, which may be written. -/
structure F3 (w : World) (b : Nat) (u0 u1 u2 : Value) : Prop where
  c0 : w.cell? ⟨b, 0, none⟩ = some u0
  c1 : w.cell? ⟨b, 1, none⟩ = some u1
  c2 : w.cell? ⟨b, 2, none⟩ = some u2
  f0 : w.frozen? ⟨b, 0, none⟩ = false
  f1 : w.frozen? ⟨b, 1, none⟩ = false
  f2 : w.frozen? ⟨b, 2, none⟩ = false
theorem F3.but {w w' : World} {b k : Nat} {u0 u1 u2 : Value} (h : F3 w b u0 u1 u2) (hb : But w w' k) (hk : b ≠ k) : F3 w' b u0 u1 u2 :=
  ⟨by rw [hb.cell b 0 hk]; exact h.c0, by rw [hb.cell b 1 hk]; exact h.c1, by rw [hb.cell b 2 hk]; exact h.c2, by rw [hb.frozen b 0 hk]; exact h.f0, by rw [hb.frozen b 1 hk]; exact h.f1, by rw [hb.frozen b 2 hk]; exact h.f2⟩
theorem F3.below {w w' : World} {b B : Nat} {u0 u1 u2 : Value} (h : F3 w b u0 u1 u2) (hb : Below B w w') (hk : b < B) : F3 w' b u0 u1 u2 :=
  ⟨by rw [hb.cell (p := ⟨b, 0, none⟩) hk]; exact h.c0, by rw [hb.cell (p := ⟨b, 1, none⟩) hk]; exact h.c1, by rw [hb.cell (p := ⟨b, 2, none⟩) hk]; exact h.c2, by rw [hb.frozen (p := ⟨b, 0, none⟩) hk]; exact h.f0, by rw [hb.frozen (p := ⟨b, 1, none⟩) hk]; exact h.f1, by rw [hb.frozen (p := ⟨b, 2, none⟩) hk]; exact h.f2⟩
theorem F3.new (w : World) (u0 u1 u2 : Value) (t : TypeId) : F3 (w.alloc (.cells #[u0, u1, u2] t)) w.heap.size u0 u1 u2 :=
  ⟨by simp [World.cell?_alloc_new], by simp [World.cell?_alloc_new], by simp [World.cell?_alloc_new], by simp, by simp, by simp⟩
theorem F3.set1 {w : World} {b : Nat} {u0 u1 u2 : Value} (h : F3 w b u0 u1 u2) (v : Value) : F3 (w.setCell ⟨b, 1, none⟩ v) b u0 v u2 :=
  ⟨by rw [World.cell?_setCell_other (h := by simp)]; exact h.c0, World.cell?_setCell_same (h := h.c1) .., by rw [World.cell?_setCell_other (h := by simp)]; exact h.c2, by rw [World.frozen?_setCell]; exact h.f0, by rw [World.frozen?_setCell]; exact h.f1, by rw [World.frozen?_setCell]; exact h.f2⟩
theorem F3.set2 {w : World} {b : Nat} {u0 u1 u2 : Value} (h : F3 w b u0 u1 u2) (v : Value) : F3 (w.setCell ⟨b, 2, none⟩ v) b u0 u1 v :=
  ⟨by rw [World.cell?_setCell_other (h := by simp)]; exact h.c0, by rw [World.cell?_setCell_other (h := by simp)]; exact h.c1, World.cell?_setCell_same (h := h.c2) .., by rw [World.frozen?_setCell]; exact h.f0, by rw [World.frozen?_setCell]; exact h.f1, by rw [World.frozen?_setCell]; exact h.f2⟩
theorem Rd.but {w w' : World} {b k : Nat} {s : List UInt8} {bad : Bool} (h : Rd w b s bad) (hb : But w w' k) (hk : b ≠ k) : Rd w' b s bad :=
  ⟨by rw [hb.cell b 0 hk]; exact h.c0, by rw [hb.cell b 1 hk]; exact h.c1, by rw [hb.frozen b 0 hk]; exact h.f0, by rw [hb.frozen b 1 hk]; exact h.f1⟩
theorem Rd.below {w w' : World} {b B : Nat} {s : List UInt8} {bad : Bool} (h : Rd w b s bad) (hb : Below B w w') (hk : b < B) : Rd w' b s bad :=
  ⟨by rw [hb.cell (p := ⟨b, 0, none⟩) hk]; exact h.c0, by rw [hb.cell (p := ⟨b, 1, none⟩) hk]; exact h.c1, by rw [hb.frozen (p := ⟨b, 0, none⟩) hk]; exact h.f0, by rw [hb.frozen (p := ⟨b, 1, none⟩) hk]; exact h.f1⟩
theorem Rd.new (w : World) (s : List UInt8) (bad : Bool) (t : TypeId) : Rd (w.alloc (.cells #[str s, .bool bad] t)) w.heap.size s bad :=
  ⟨by simp [World.cell?_alloc_new], by simp [World.cell?_alloc_new], by simp, by simp⟩
theorem num1 (l : List UInt8) (h : 0 < l.length) : numL (l.take 1) = (l.getD 0 0).toNat := by
  cases l with
  | nil => simp at h
  | cons c r => simp [numL]

set_option maxHeartbeats 400000 in
theorem rnext_nil (w : World) : Calls Try.prog 12 #[str []] w fun e w' => e = .returned (nrV ⟨0, 0, [], 0, 41⟩) ∧ Below w.heap.size w w' := by
  go_enter Try.func12, Try.ntmps12
  go_wp2_with fail
  exact bodyPost_ret (v := nrV ⟨0, 0, [], 0, 41⟩) (by simp [results, Try.results12, go_sem, nrV]) rfl ⟨rfl, below_new w _⟩

set_option maxHeartbeats 400000 in
theorem rnext_odd (w : World) (l : List UInt8) (h0 : 0 < l.length) (hty : tyZ ((l.getD 0 0).toNat : Int) = false) :
    Calls Try.prog 12 #[str l] w fun e w' => e = .returned (nrV ⟨0, 0, [], 0, 40⟩) ∧ Below w.heap.size w w' := by
  have g0 := get_str l 0
  generalize l.getD 0 0 = c at *
  have hc : (c.toNat : Int) < 256 := by have := c.toNat_lt; omega
  obtain ⟨x, hx⟩ : ∃ x, c.toNat = x := ⟨_, rfl⟩
  rw [hx] at hty hc
  have hne : l.isEmpty = false := by cases l <;> simp at *
  go_enter Try.func12, Try.ntmps12
  go_wp2_with (first | (go_at_call 21; refine (kind_any _ _).mono ?_; rintro e w' ⟨rfl, rfl⟩))
  exact bodyPost_ret (v := nrV ⟨0, 0, [], 0, 40⟩) (by simp [results, Try.results12, go_sem, nrV]) rfl ⟨rfl, below_new w _⟩

set_option maxHeartbeats 400000 in
theorem rnext_short (w : World) (l : List UInt8) (h0 : 0 < l.length) (h7 : l.length < 7) (hty : tyZ ((l.getD 0 0).toNat : Int) = true) :
    Calls Try.prog 12 #[str l] w fun e w' => e = .returned (nrV ⟨0, 0, [], 0, 41⟩) ∧ Below w.heap.size w w' := by
  have g0 := get_str l 0
  generalize l.getD 0 0 = c at *
  have hc : (c.toNat : Int) < 256 := by have := c.toNat_lt; omega
  obtain ⟨x, hx⟩ : ∃ x, c.toNat = x := ⟨_, rfl⟩
  rw [hx] at hty hc
  have hne : l.isEmpty = false := by cases l <;> simp at *
  go_enter Try.func12, Try.ntmps12
  go_wp2_with (first | (go_at_call 21; refine (kind_any _ _).mono ?_; rintro e w' ⟨rfl, rfl⟩))
  exact bodyPost_ret (v := nrV ⟨0, 0, [], 0, 41⟩) (by simp [results, Try.results12, go_sem, nrV]) rfl ⟨rfl, below_new w _⟩

set_option maxHeartbeats 400000 in
theorem rnext_long (w : World) (l : List UInt8) (hl : l.length ≤ 140000000000000) (h7 : 7 ≤ l.length) (hty : tyZ ((l.getD 0 0).toNat : Int) = true) :
    Calls Try.prog 12 #[str l] w fun e w' => e = .returned (nrV (nextL l)) ∧ Below w.heap.size w w' := by
  have hne : l.isEmpty = false := by cases l <;> simp at *
  obtain ⟨a, ha⟩ : ∃ a, w.heap.size = a := ⟨_, rfl⟩
  have N1 : ∀ w, Rd w (a + 1) l false → Calls Try.prog 25 #[.pointer (some ⟨a + 1, 0, none⟩), .int .i64 1] w fun e w' => e = .returned (.int .u64 (numL (l.take 1))) ∧ Rd w' (a + 1) (l.drop 1) false ∧ But w w' (a + 1) := fun w h => number_any w (a + 1) 1 _ _ (by omega) (by rw [List.length_take]; exact Nat.min_le_left ..) (take_ok w (a + 1) 1 l h (by omega))
  have N2 : ∀ w, Rd w (a + 1) (l.drop 1) false → Calls Try.prog 25 #[.pointer (some ⟨a + 1, 0, none⟩), .int .i64 2] w fun e w' => e = .returned (.int .u64 (numL ((l.drop 1).take 2))) ∧ Rd w' (a + 1) (l.drop 3) false ∧ But w w' (a + 1) := fun w h => by
    have := number_any w (a + 1) 2 _ _ (by omega) (by rw [List.length_take]; exact Nat.min_le_left ..) (take_ok w (a + 1) 2 (l.drop 1) h (by rw [List.length_drop]; omega))
    rw [List.drop_drop] at this
    exact this
  have N4 : ∀ w, Rd w (a + 1) (l.drop 3) false → Calls Try.prog 25 #[.pointer (some ⟨a + 1, 0, none⟩), .int .i64 4] w fun e w' => e = .returned (.int .u64 (numL ((l.drop 3).take 4))) ∧ Rd w' (a + 1) (l.drop 7) false ∧ But w w' (a + 1) := fun w h => by
    have := number_any w (a + 1) 4 _ _ (by omega) (by rw [List.length_take]; exact Nat.min_le_left ..) (take_ok w (a + 1) 4 (l.drop 3) h (by rw [List.length_drop]; omega))
    rw [List.drop_drop] at this
    exact this
  have hl7 : (l.drop 7).length = l.length - 7 := List.length_drop
  have hnl := numL_lt ((l.drop 3).take 4)
  have hn4 : numL ((l.drop 3).take 4) ≤ 4294967295 := by
    have := Nat.lt_of_lt_of_le hnl (Nat.le_trans (Nat.pow_le_pow_right (by decide) (by rw [List.length_take]; exact Nat.min_le_left 4 _)) (by decide : 256 ^ 4 ≤ 4294967296))
    omega
  have hnl2 := numL_lt ((l.drop 1).take 2)
  have hn2 : numL ((l.drop 1).take 2) ≤ 65535 := by
    have := Nat.lt_of_lt_of_le hnl2 (Nat.le_trans (Nat.pow_le_pow_right (by decide) (by rw [List.length_take]; exact Nat.min_le_left 2 _)) (by decide : 256 ^ 2 ≤ 65536))
    omega
  have hNx : Hid (nextL l = if 16384 < numL ((l.drop 3).take 4) then ⟨0, 0, [], 0, 40⟩ else if l.length ≤ 7 + numL ((l.drop 3).take 4) then ⟨0, 0, [], 0, 41⟩ else if l.getD (7 + numL ((l.drop 3).take 4)) 0 ≠ 206 then ⟨0, 0, [], 0, 40⟩ else ⟨(l.getD 0 0).toNat, numL ((l.drop 1).take 2), (l.drop 7).take (numL ((l.drop 3).take 4)), numL ((l.drop 3).take 4) + 8, 0⟩) := by
    show _ = _
    unfold nextL
    rw [if_neg (by rw [hty]; simp), if_neg (by omega)]
  rw [num1 l (by omega)] at N1
  clear hnl hnl2
  have hLd : Hid (∀ n, 7 + n < l.length → l.getD (7 + n) 0 = (l.drop 7).getD n 0) := fun n _ => by simp [List.getD_eq_getElem?_getD]
  generalize nextL l = res at *
  generalize numL ((l.drop 3).take 4) = n at *
  generalize numL ((l.drop 1).take 2) = ch at *
  have g0 := get_str l 0
  generalize l.getD 0 0 = c at *
  have hc : (c.toNat : Int) < 256 := by have := c.toNat_lt; omega
  obtain ⟨x, hx⟩ : ∃ x, c.toNat = x := ⟨_, rfl⟩
  rw [hx] at hty hc N1 hNx
  have h7z : (7 : Int) ≤ (l.length : Int) := by omega
  go_enter Try.func12, Try.ntmps12
  go_wp2_with (first | (go_at_call 21; refine (kind_any _ _).mono ?_; rintro e w' ⟨rfl, rfl⟩))
  have hA : F3 ((w.alloc (.cells #[.int .i64 0, .int .i64 0, .string { data := #[] }] 23)).alloc (.cells #[str l, .bool false] 53)) a (.int .i64 0) (.int .i64 0) (.string { data := #[] }) := by
    have := F3.new w (.int .i64 0) (.int .i64 0) (.string { data := #[] }) 23
    rw [ha] at this
    exact this.below (below_new _ _) (by simp; omega)
  have hR : Rd ((w.alloc (.cells #[.int .i64 0, .int .i64 0, .string { data := #[] }] 23)).alloc (.cells #[str l, .bool false] 53)) (a + 1) l false := by
    have := Rd.new (w.alloc (.cells #[.int .i64 0, .int .i64 0, .string { data := #[] }] 23)) l false 53
    rw [World.size_alloc, ha] at this
    exact this
  have hB : Below a w ((w.alloc (.cells #[.int .i64 0, .int .i64 0, .string { data := #[] }] 23)).alloc (.cells #[str l, .bool false] 53)) := by
    have := (below_new w (.cells #[.int .i64 0, .int .i64 0, .string { data := #[] }] 23)).trans ((below_new _ (.cells #[str l, .bool false] 53)).mono (by simp))
    rwa [ha] at this
  have hS : ((w.alloc (.cells #[.int .i64 0, .int .i64 0, .string { data := #[] }] 23)).alloc (.cells #[str l, .bool false] 53)).heap.size = a + 2 := by simp; omega
  generalize (w.alloc (.cells #[.int .i64 0, .int .i64 0, .string { data := #[] }] 23)).alloc (.cells #[str l, .bool false] 53) = W0 at *
  refine (N1 W0 hR).mono ?_
  rintro e w1 ⟨rfl, hR1, hb1⟩
  have hA1 := hA.but hb1 (by omega)
  have hB1 := hB.trans (hb1.below (by omega))
  have hS1 : w1.heap.size = a + 2 := by rw [hb1.size, hS]
  have ha' : Hid (w.heap.size = a) := ha
  clear N1 hR hA hB hS hb1 ha
  go_wp2_with fail
  have hC0 : F3 (w1.alloc (.cells #[.int .i64 (x : Int), .int .i64 0, .string { data := #[] }] 23)) (a + 2) (.int .i64 (x : Int)) (.int .i64 0) (.string { data := #[] }) := by
    have := F3.new w1 (.int .i64 (x : Int)) (.int .i64 0) (.string { data := #[] }) 23
    rwa [hS1] at this
  have hbn := below_new w1 (.cells #[.int .i64 (x : Int), .int .i64 0, .string { data := #[] }] 23)
  have hA1' := hA1.below hbn (by omega)
  have hR1' := hR1.below hbn (by omega)
  have hB1' := hB1.trans (hbn.mono (by omega))
  have hS1' : (w1.alloc (.cells #[.int .i64 (x : Int), .int .i64 0, .string { data := #[] }] 23)).heap.size = a + 3 := by simp; omega
  clear hA1 hR1 hB1 hS1 hbn
  generalize w1.alloc (.cells #[.int .i64 (x : Int), .int .i64 0, .string { data := #[] }] 23) = W1 at *
  refine (N2 W1 hR1').mono ?_
  rintro e w2 ⟨rfl, hR2, hb2⟩
  have hA2 := hA1'.but hb2 (by omega)
  have hC2 := hC0.but hb2 (by omega)
  have hB2 := hB1'.trans (hb2.below (by omega))
  have hS2 : w2.heap.size = a + 3 := by rw [hb2.size, hS1']
  clear N2 hR1' hA1' hC0 hB1' hS1' hb2
  have d1 := hC2.c1
  have d2 := hC2.f1
  go_wp2_with fail
  have hbs := But.set w2 (a + 2) 1 (.int .i64 (ch : Int))
  have hC2' := hC2.set1 (.int .i64 (ch : Int))
  have hA2' := hA2.but hbs (by omega)
  have hR2' := hR2.but hbs (by omega)
  have hB2' := hB2.trans (hbs.below (by omega))
  have hS2' : (w2.setCell ⟨a + 2, 1, none⟩ (.int .i64 (ch : Int))).heap.size = a + 3 := by rw [hbs.size, hS2]
  clear hbs hC2 hA2 hR2 hB2 hS2 d1 d2
  generalize w2.setCell ⟨a + 2, 1, none⟩ (.int .i64 (ch : Int)) = W2 at *
  refine (N4 W2 hR2').mono ?_
  rintro e w3 ⟨rfl, hR3, hb3⟩
  have hA3 := hA2'.but hb3 (by omega)
  have hC3 := hC2'.but hb3 (by omega)
  have hB3 := hB2'.trans (hb3.below (by omega))
  have hS3 : w3.heap.size = a + 3 := by rw [hb3.size, hS2']
  clear N4 hR2' hA2' hC2' hB2' hS2' hb3
  have fin : ∀ (W : World) (v : Value), Below a w W → Below w.heap.size w (((W.setCell ⟨a, 0, none⟩ (.int .i64 0)).setCell ⟨a, 1, none⟩ (.int .i64 0)).setCell ⟨a, 2, none⟩ v) := fun W v h => by
    rw [ha'.out]
    exact ((h.setCell (Nat.le_refl _) _).setCell (Nat.le_refl _) _).setCell (Nat.le_refl _) _
  by_cases hn : 16384 < n
  · have hnz : (16384 : Int) < (n : Int) := by omega
    have e1 := hNx.out
    rw [if_pos hn] at e1
    have E1 : Hid (res = ⟨0, 0, [], 0, 40⟩) := e1
    obtain ⟨q0, q1, q2, p0, p1, p2⟩ := hA3
    clear hNx e1 hn
    go_wp2_with fail
    exact bodyPost_ret (v := nrV ⟨0, 0, [], 0, 40⟩) (by simp [results, Try.results12, go_sem, nrV, q0, q1, q2]) rfl ⟨by rw [E1.out], fin _ _ hB3⟩
  · have hnz : (n : Int) ≤ 16384 := by omega
    have T1 : ∃ (pay rest : List UInt8) (bad : Bool), ((l.length < 7 + n ∧ bad = true) ∨ (7 + n ≤ l.length ∧ bad = false ∧ pay = (l.drop 7).take n ∧ rest = l.drop (7 + n))) ∧ ∀ w, Rd w (a + 1) (l.drop 7) false → Calls Try.prog 26 #[.pointer (some ⟨a + 1, 0, none⟩), .int .i64 n] w fun e w' => e = .returned (str pay) ∧ Rd w' (a + 1) rest bad ∧ But w w' (a + 1) := by
      by_cases hs : l.length < 7 + n
      · exact ⟨[], l.drop 7, true, .inl ⟨hs, rfl⟩, fun w h => take_bad w (a + 1) n _ false h (.inr (by omega))⟩
      · exact ⟨(l.drop 7).take n, l.drop (7 + n), false, .inr ⟨by omega, rfl, rfl, rfl⟩, fun w h => by
          have := take_ok w (a + 1) n (l.drop 7) h (by omega)
          rwa [List.drop_drop] at this⟩
    obtain ⟨pay, rest, bad, hcase, T1⟩ := T1
    have T2 : ∃ (last rest2 : List UInt8) (bad2 : Bool), ((l.length ≤ 7 + n ∧ bad2 = true) ∨ (7 + n < l.length ∧ bad2 = false ∧ pay = (l.drop 7).take n ∧ last = [l.getD (7 + n) 0])) ∧ ∀ w, Rd w (a + 1) rest bad → Calls Try.prog 26 #[.pointer (some ⟨a + 1, 0, none⟩), .int .i64 1] w fun e w' => e = .returned (str last) ∧ Rd w' (a + 1) rest2 bad2 ∧ But w w' (a + 1) := by
      rcases hcase with ⟨h1, rfl⟩ | ⟨h1, rfl, rfl, rfl⟩
      · exact ⟨[], rest, true, .inl ⟨by omega, rfl⟩, fun w h => take_bad w (a + 1) 1 _ true h (.inl rfl)⟩
      · by_cases hs : 7 + n < l.length
        · refine ⟨(l.drop (7 + n)).take 1, (l.drop (7 + n)).drop 1, false, .inr ⟨hs, rfl, rfl, ?_⟩, fun w h => take_ok w (a + 1) 1 _ h (by rw [List.length_drop]; omega)⟩
          rw [List.drop_eq_getElem_cons hs]
          simp only [List.take_succ_cons, List.take_zero, List.getD_eq_getElem?_getD, List.getElem?_eq_getElem hs, Option.getD_some]
        · exact ⟨[], l.drop (7 + n), true, .inl ⟨by omega, rfl⟩, fun w h => take_bad w (a + 1) 1 _ false h (.inr (by rw [List.length_drop]; omega))⟩
    obtain ⟨last, rest2, bad2, hcase2, T2⟩ := T2
    clear hcase
    have hNy := hNx.out
    rw [if_neg hn] at hNy
    have HN : Hid (res = if l.length ≤ 7 + n then (⟨0, 0, [], 0, 41⟩ : Nr) else if l.getD (7 + n) 0 ≠ 206 then ⟨0, 0, [], 0, 40⟩ else ⟨x, ch, (l.drop 7).take n, n + 8, 0⟩) := hNy
    have HC : Hid ((l.length ≤ 7 + n ∧ bad2 = true) ∨ (7 + n < l.length ∧ bad2 = false ∧ pay = (l.drop 7).take n ∧ last = [l.getD (7 + n) 0])) := hcase2
    clear hNx hNy hcase2 hn
    have d1 := hC3.c2
    have d2 := hC3.f2
    go_wp2_with fail
    refine (T1 w3 hR3).mono ?_
    rintro e w4 ⟨rfl, hR4, hb4⟩
    have hA4 := hA3.but hb4 (by omega)
    have hC4 := hC3.but hb4 (by omega)
    have hB4 := hB3.trans (hb4.below (by omega))
    have hS4 : w4.heap.size = a + 3 := by rw [hb4.size, hS3]
    clear T1 hR3 hA3 hC3 hB3 hS3 hb4 d1 d2
    have d1 := hC4.c2
    have d2 := hC4.f2
    go_wp2_with fail
    have hbs := But.set w4 (a + 2) 2 (str pay)
    have hC4' := hC4.set2 (str pay)
    have hA4' := hA4.but hbs (by omega)
    have hR4' := hR4.but hbs (by omega)
    have hB4' := hB4.trans (hbs.below (by omega))
    clear hbs hC4 hA4 hR4 hB4 hS4 d1 d2
    generalize w4.setCell ⟨a + 2, 2, none⟩ (str pay) = W4 at *
    refine (T2 W4 hR4').mono ?_
    rintro e w5 ⟨rfl, hR5, hb5⟩
    have hA5 := hA4'.but hb5 (by omega)
    have hC5 := hC4'.but hb5 (by omega)
    have hB5 := hB4'.trans (hb5.below (by omega))
    clear T2 hR4' hA4' hC4' hB4' hb5
    have r1 := hR5.c1
    rcases HC.out with ⟨hle, rfl⟩ | ⟨hgt, rfl, hpay, hlast⟩
    · have e1 := HN.out
      rw [if_pos hle] at e1
      have E1 : Hid (res = ⟨0, 0, [], 0, 41⟩) := e1
      obtain ⟨q0, q1, q2, p0, p1, p2⟩ := hA5
      clear HN HC e1 hle
      go_wp2_with fail
      exact bodyPost_ret (v := nrV ⟨0, 0, [], 0, 41⟩) (by simp [results, Try.results12, go_sem, nrV, q0, q1, q2]) rfl ⟨by rw [E1.out], fin _ _ hB5⟩
    · have e1 := HN.out
      rw [if_neg (by omega)] at e1
      rw [← hpay] at e1
      generalize l.getD (7 + n) 0 = d at *
      subst hlast
      by_cases hd : d = 206
      · subst hd
        rw [if_neg (by simp)] at e1
        have E1 : Hid (res = ⟨x, ch, pay, n + 8, 0⟩) := e1
        obtain ⟨q0, q1, q2, p0, p1, p2⟩ := hA5
        obtain ⟨k0, k1, k2, _, _, _⟩ := hC5
        clear HN HC e1 hpay
        go_wp2_with fail
        refine bodyPost_ret (v := .tuple #[frV x ch pay, .int .i64 ((n : Int) + 8), .int .i64 0]) (by simp [results, Try.results12, go_sem, q0, q1, q2]) rfl ⟨by rw [E1.out]; rfl, ?_⟩
        rw [ha'.out]
        exact ((hB5.setCell (Nat.le_refl _) _).setCell (Nat.le_refl _) _).setCell (Nat.le_refl _) _
      · rw [if_pos hd] at e1
        have E1 : Hid (res = ⟨0, 0, [], 0, 40⟩) := e1
        have hdb : (d == 206) = false := by simpa using hd
        clear hd
        obtain ⟨q0, q1, q2, p0, p1, p2⟩ := hA5
        clear HN HC e1 hpay
        go_wp2_with fail
        exact bodyPost_ret (v := nrV ⟨0, 0, [], 0, 40⟩) (by simp [results, Try.results12, go_sem, nrV, q0, q1, q2]) rfl ⟨by rw [E1.out], fin _ _ hB5⟩
end Go.Proofs.Ytlkinkbdhoejiaa

namespace Go.Proofs.Ytlkinkbdhoejiaa
open Go.RowKit Go.Lib
set_option maxRecDepth 100000
set_option linter.unusedSimpArgs false

/-- What a Reader holds: what is left, and whether something wasn't there. -/
abbrev Rs := List UInt8 × Bool
def takeR (st : Rs) (n : Nat) : List UInt8 × Rs := if st.2 = true ∨ st.1.length < n then ([], (st.1, true)) else (st.1.take n, (st.1.drop n, false))
def numR (st : Rs) (k : Nat) : Nat × Rs := (numL (takeR st k).1, (takeR st k).2)
def longR (st : Rs) : List UInt8 × Rs := takeR (numR st 4).2 (numR st 4).1
def shortR (st : Rs) : List UInt8 × Rs := takeR (numR st 1).2 (numR st 1).1
theorem takeR_len (st : Rs) (n : Nat) : (takeR st n).1.length ≤ n := by
  unfold takeR
  split
  · simp
  · simp only [List.length_take]; omega
theorem takeR_left (st : Rs) (n : Nat) : (takeR st n).2.1.length ≤ st.1.length := by
  unfold takeR
  split
  · simp
  · simp
abbrev RdS (w : World) (b : Nat) (st : Rs) : Prop := Rd w b st.1 st.2

theorem take_any (w : World) (b n : Nat) (st : Rs) (hr : RdS w b st) :
    Calls Try.prog 26 #[.pointer (some ⟨b, 0, none⟩), .int .i64 n] w fun e w' => e = .returned (str (takeR st n).1) ∧ RdS w' b (takeR st n).2 ∧ But w w' b := by
  obtain ⟨s, bad⟩ := st
  by_cases h : bad = true ∨ s.length < n
  · have e : takeR (s, bad) n = ([], (s, true)) := by unfold takeR; rw [if_pos h]
    rw [e]
    exact take_bad w b n s bad hr h
  · have e : takeR (s, bad) n = (s.take n, (s.drop n, false)) := by unfold takeR; rw [if_neg h]
    rw [e]
    have hb : bad = false := by cases bad <;> simp_all
    subst hb
    exact take_ok w b n s hr (by simp at h; exact h)
theorem rnum_any (w : World) (b k : Nat) (st : Rs) (hk : k ≤ 8) (hr : RdS w b st) :
    Calls Try.prog 25 #[.pointer (some ⟨b, 0, none⟩), .int .i64 k] w fun e w' => e = .returned (.int .u64 (numR st k).1) ∧ RdS w' b (numR st k).2 ∧ But w w' b :=
  number_any w b k _ (fun w' => RdS w' b (takeR st k).2 ∧ But w w' b) hk (takeR_len st k) (take_any w b k st hr)
theorem numR_lt (st : Rs) (k : Nat) : (numR st k).1 < 256 ^ k := by
  have h1 := numL_lt (takeR st k).1
  have h2 : 256 ^ (takeR st k).1.length ≤ 256 ^ k := Nat.pow_le_pow_right (by omega) (takeR_len st k)
  exact Nat.lt_of_lt_of_le h1 h2

set_option maxHeartbeats 400000 in
theorem longR_any (w : World) (b : Nat) (st : Rs) (hr : RdS w b st) :
    Calls Try.prog 44 #[.pointer (some ⟨b, 0, none⟩)] w fun e w' => e = .returned (str (longR st).1) ∧ RdS w' b (longR st).2 ∧ But w w' b := by
  have N := rnum_any w b 4 st (by omega) hr
  have hn := numR_lt st 4
  have HL : Hid (∀ w, RdS w b (numR st 4).2 → Calls Try.prog 26 #[.pointer (some ⟨b, 0, none⟩), .int .i64 (numR st 4).1] w fun e w' => e = .returned (str (longR st).1) ∧ RdS w' b (longR st).2 ∧ But w w' b) := fun w h => take_any w b _ _ h
  generalize numR st 4 = ns at *
  generalize longR st = ls at *
  obtain ⟨n, st1⟩ := ns
  obtain ⟨t, st2⟩ := ls
  have hn : n < 2 ^ 63 := Nat.lt_of_lt_of_le hn (by decide)
  have u1 : IntKind.i64.wrap (n : Int) = (n : Int) := by rw [IntKind.wrap_i64]; omega
  clear hr
  go_enter Try.func44, Try.ntmps44
  go_wp2_with fail
  refine N.mono ?_
  rintro e w1 ⟨rfl, h1, b1⟩
  have L := HL.out w1 h1
  clear N HL h1
  go_wp2_with fail
  refine L.mono ?_
  rintro e w2 ⟨rfl, h2, b2⟩
  go_wp2
  go_ret
  exact ⟨rfl, h2, b1.trans b2⟩

set_option maxHeartbeats 400000 in
theorem shortR_any (w : World) (b : Nat) (st : Rs) (hr : RdS w b st) :
    Calls Try.prog 45 #[.pointer (some ⟨b, 0, none⟩)] w fun e w' => e = .returned (str (shortR st).1) ∧ RdS w' b (shortR st).2 ∧ But w w' b := by
  have N := rnum_any w b 1 st (by omega) hr
  have hn := numR_lt st 1
  have HL : Hid (∀ w, RdS w b (numR st 1).2 → Calls Try.prog 26 #[.pointer (some ⟨b, 0, none⟩), .int .i64 (numR st 1).1] w fun e w' => e = .returned (str (shortR st).1) ∧ RdS w' b (shortR st).2 ∧ But w w' b) := fun w h => take_any w b _ _ h
  generalize numR st 1 = ns at *
  generalize shortR st = ls at *
  obtain ⟨n, st1⟩ := ns
  obtain ⟨t, st2⟩ := ls
  have hn : n < 2 ^ 63 := Nat.lt_of_lt_of_le hn (by decide)
  have u1 : IntKind.i64.wrap (n : Int) = (n : Int) := by rw [IntKind.wrap_i64]; omega
  clear hr
  go_enter Try.func45, Try.ntmps45
  go_wp2_with fail
  refine N.mono ?_
  rintro e w1 ⟨rfl, h1, b1⟩
  have L := HL.out w1 h1
  clear N HL h1
  go_wp2_with fail
  refine L.mono ?_
  rintro e w2 ⟨rfl, h2, b2⟩
  go_wp2
  go_ret
  exact ⟨rfl, h2, b1.trans b2⟩

/-- A number of so many bits with its sign. -/
def sgnZ (n bits : Nat) : Int := if bits < 64 ∧ 2 ^ (bits - 1) ≤ n then (n : Int) - 2 ^ bits else IntKind.i64.wrap (n : Int)
set_option maxHeartbeats 400000 in
theorem signed8_up (w : World) (x : Int) (y z : Int) (hx : decide ((128 : Int) ≤ x) = true) (hy : IntKind.i64.wrap x = y) (hz : IntKind.i64.wrap (y - 256) = z) :
    Calls Try.prog 58 #[.int .u64 x, .int .u64 8] w fun e w' => e = .returned (.int .i64 z) ∧ w' = w := by
  go_enter Try.func58, Try.ntmps58
  go_wp2
  go_ret
  exact ⟨rfl, rfl⟩
set_option maxHeartbeats 400000 in
theorem signed8_low (w : World) (x : Int) (y : Int) (hx : decide ((128 : Int) ≤ x) = false) (hy : IntKind.i64.wrap x = y) :
    Calls Try.prog 58 #[.int .u64 x, .int .u64 8] w fun e w' => e = .returned (.int .i64 y) ∧ w' = w := by
  go_enter Try.func58, Try.ntmps58
  go_wp2
  go_ret
  exact ⟨rfl, rfl⟩
set_option maxHeartbeats 400000 in
theorem signed16_up (w : World) (x : Int) (y z : Int) (hx : decide ((32768 : Int) ≤ x) = true) (hy : IntKind.i64.wrap x = y) (hz : IntKind.i64.wrap (y - 65536) = z) :
    Calls Try.prog 58 #[.int .u64 x, .int .u64 16] w fun e w' => e = .returned (.int .i64 z) ∧ w' = w := by
  go_enter Try.func58, Try.ntmps58
  go_wp2
  go_ret
  exact ⟨rfl, rfl⟩
set_option maxHeartbeats 400000 in
theorem signed16_low (w : World) (x : Int) (y : Int) (hx : decide ((32768 : Int) ≤ x) = false) (hy : IntKind.i64.wrap x = y) :
    Calls Try.prog 58 #[.int .u64 x, .int .u64 16] w fun e w' => e = .returned (.int .i64 y) ∧ w' = w := by
  go_enter Try.func58, Try.ntmps58
  go_wp2
  go_ret
  exact ⟨rfl, rfl⟩
set_option maxHeartbeats 400000 in
theorem signed32_up (w : World) (x : Int) (y z : Int) (hx : decide ((2147483648 : Int) ≤ x) = true) (hy : IntKind.i64.wrap x = y) (hz : IntKind.i64.wrap (y - 4294967296) = z) :
    Calls Try.prog 58 #[.int .u64 x, .int .u64 32] w fun e w' => e = .returned (.int .i64 z) ∧ w' = w := by
  go_enter Try.func58, Try.ntmps58
  go_wp2
  go_ret
  exact ⟨rfl, rfl⟩
set_option maxHeartbeats 400000 in
theorem signed32_low (w : World) (x : Int) (y : Int) (hx : decide ((2147483648 : Int) ≤ x) = false) (hy : IntKind.i64.wrap x = y) :
    Calls Try.prog 58 #[.int .u64 x, .int .u64 32] w fun e w' => e = .returned (.int .i64 y) ∧ w' = w := by
  go_enter Try.func58, Try.ntmps58
  go_wp2
  go_ret
  exact ⟨rfl, rfl⟩
set_option maxHeartbeats 400000 in
theorem signed64_any (w : World) (x : Int) (y : Int) (hy : IntKind.i64.wrap x = y) :
    Calls Try.prog 58 #[.int .u64 x, .int .u64 64] w fun e w' => e = .returned (.int .i64 y) ∧ w' = w := by
  go_enter Try.func58, Try.ntmps58
  go_wp2
  go_ret
  exact ⟨rfl, rfl⟩
theorem signed8_any (w : World) (n : Nat) (hn : n < 256) :
    Calls Try.prog 58 #[.int .u64 n, .int .u64 8] w fun e w' => e = .returned (.int .i64 (sgnZ n 8)) ∧ w' = w := by
  by_cases h : 128 ≤ n
  · have e : sgnZ n 8 = (n : Int) - 256 := by unfold sgnZ; rw [if_pos ⟨by decide, h⟩]; rfl
    rw [e]
    exact signed8_up w n n _ (by simp; omega) (by rw [IntKind.wrap_i64]; omega) (by rw [IntKind.wrap_i64]; omega)
  · have e : sgnZ n 8 = (n : Int) := by unfold sgnZ; rw [if_neg (fun hh => h hh.2), IntKind.wrap_i64]; omega
    rw [e]
    exact signed8_low w n n (by simp; omega) (by rw [IntKind.wrap_i64]; omega)
theorem signed16_any (w : World) (n : Nat) (hn : n < 65536) :
    Calls Try.prog 58 #[.int .u64 n, .int .u64 16] w fun e w' => e = .returned (.int .i64 (sgnZ n 16)) ∧ w' = w := by
  by_cases h : 32768 ≤ n
  · have e : sgnZ n 16 = (n : Int) - 65536 := by unfold sgnZ; rw [if_pos ⟨by decide, h⟩]; rfl
    rw [e]
    exact signed16_up w n n _ (by simp; omega) (by rw [IntKind.wrap_i64]; omega) (by rw [IntKind.wrap_i64]; omega)
  · have e : sgnZ n 16 = (n : Int) := by unfold sgnZ; rw [if_neg (fun hh => h hh.2), IntKind.wrap_i64]; omega
    rw [e]
    exact signed16_low w n n (by simp; omega) (by rw [IntKind.wrap_i64]; omega)
theorem signed32_any (w : World) (n : Nat) (hn : n < 4294967296) :
    Calls Try.prog 58 #[.int .u64 n, .int .u64 32] w fun e w' => e = .returned (.int .i64 (sgnZ n 32)) ∧ w' = w := by
  by_cases h : 2147483648 ≤ n
  · have e : sgnZ n 32 = (n : Int) - 4294967296 := by unfold sgnZ; rw [if_pos ⟨by decide, h⟩]; rfl
    rw [e]
    exact signed32_up w n n _ (by simp; omega) (by rw [IntKind.wrap_i64]; omega) (by rw [IntKind.wrap_i64]; omega)
  · have e : sgnZ n 32 = (n : Int) := by unfold sgnZ; rw [if_neg (fun hh => h hh.2), IntKind.wrap_i64]; omega
    rw [e]
    exact signed32_low w n n (by simp; omega) (by rw [IntKind.wrap_i64]; omega)
theorem signed64 (w : World) (n : Nat) : Calls Try.prog 58 #[.int .u64 n, .int .u64 64] w fun e w' => e = .returned (.int .i64 (sgnZ n 64)) ∧ w' = w :=
  signed64_any w n _ (by unfold sgnZ; rw [if_neg (fun hh => absurd hh.1 (by decide))])
end Go.Proofs.Ytlkinkbdhoejiaa

namespace Go.Proofs.Ytlkinkbdhoejiaa
open Go.RowKit Go.Lib
set_option maxRecDepth 100000

structure Blk (w : World) (g : Nat) (cs : Array Value) (t : TypeId) : Prop where
  h : w.heap[g]? = some (.cells cs t (0, 0))
theorem Blk.lt {w : World} {g : Nat} {cs : Array Value} {t : TypeId} (h : Blk w g cs t) : g < w.heap.size := (Array.getElem?_eq_some_iff.1 h.h).1
theorem Blk.cell {w : World} {g : Nat} {cs : Array Value} {t : TypeId} (h : Blk w g cs t) (j : Nat) : w.cell? ⟨g, j, none⟩ = cs[j]? := cell_of_row w g j cs t (0, 0) h.h
theorem Blk.frozen {w : World} {g : Nat} {cs : Array Value} {t : TypeId} (h : Blk w g cs t) (j : Nat) : w.frozen? ⟨g, j, none⟩ = false := by
  simp [World.frozen?, h.h]
theorem Blk.new (w : World) (cs : Array Value) (t : TypeId) : Blk (w.alloc (.cells cs t)) w.heap.size cs t := ⟨heap_alloc_new w _⟩
theorem Blk.alloc {w : World} {g : Nat} {cs : Array Value} {t : TypeId} (h : Blk w g cs t) (o : Obj) : Blk (w.alloc o) g cs t := ⟨(Below.heap_alloc w o g h.lt).trans h.h⟩
theorem Blk.below {w w' : World} {g B : Nat} {cs : Array Value} {t : TypeId} (h : Blk w g cs t) (hb : Below B w w') (hg : g < B) : Blk w' g cs t := ⟨(hb.block g hg).trans h.h⟩
theorem Blk.on {w w' : World} {g : Nat} {cs : Array Value} {t : TypeId} (h : Blk w g cs t) (hb : Below w.heap.size w w') : Blk w' g cs t := ⟨(hb.block g h.lt).trans h.h⟩
theorem Blk.grown {w w' : World} {g : Nat} {cs : Array Value} {t : TypeId} {row : Option Nat} (h : Blk w g cs t) (hg : w.grownBy w' row) (hne : some g ≠ row) : Blk w' g cs t := ⟨(hg.block g h.lt hne).trans h.h⟩
theorem Blk.set {w : World} {g : Nat} {cs : Array Value} {t : TypeId} (h : Blk w g cs t) (j : Nat) (u : Value) : Blk (w.setCell ⟨g, j, none⟩ u) g (cs.setIfInBounds j u) t := by
  exact ⟨by simp [World.setCell, Array.getElem?_modify, h.h]⟩
theorem Blk.row {w : World} {g : Nat} {cs : Array Value} {t : TypeId} (h : Blk w g cs t) (cs' : Array Value) : Blk (w.setRow g cs') g cs' t := ⟨setRow_heap _ _ _ _ _ _ h.h⟩
theorem Blk.setO {w : World} {g g' j : Nat} {cs : Array Value} {t : TypeId} (h : Blk w g cs t) (hne : g ≠ g') (u : Value) : Blk (w.setCell ⟨g', j, none⟩ u) g cs t := ⟨(Below.heap_setCell w ⟨g', j, none⟩ u g hne).trans h.h⟩
theorem Blk.rowO {w : World} {g g' : Nat} {cs : Array Value} {t : TypeId} (h : Blk w g cs t) (hne : g ≠ g') (cs' : Array Value) : Blk (w.setRow g' cs') g cs t := by
  refine ⟨?_⟩
  simp only [World.setRow, Array.getElem?_modify]
  rw [if_neg (by omega)]
  exact h.h
theorem ret58 {fn : Func} {p : Tmp} {tmps : Array Value} {W : World} {g : Nat} {cs : Array Value} {R : Ending → World → Prop} (hf : fn.results = #[.cell p 58]) (h : Blk W g cs 58) (hs : cs.size = 4) (hp : tmps.getD p undef = .pointer (some ⟨g, 0, none⟩)) (hR : R (.returned (.agg cs)) W) :
    bodyPost Try.prog fn R .ret { tmps := tmps, defers := [] } W :=
  bodyPost_ret (results_cell_row hf tmps W g 58 cs (0, 0) _ hp h.h Try.underlying58 rfl (by rw [hs]; kernel_rfl)) rfl hR
theorem wpl_store {ty : TypeId} {ops : Array Oper} {rest : List Oper} {o : Oper} {a : Act} {w : World} {Q : Exit → Act → World → Prop} (hgd : o.guard = none) (x y : Operand) (ho : o.op = .store ty x y)
    (g : Nat) (cells : Array Value) (hx : a.eval x = .pointer (some ⟨g, 0, none⟩)) (hy : a.eval y = .agg cells)
    {t : TypeId} {old : Array Value} (hg : Blk w g old t) (hi : (Try.prog.info? ty).map (·.size) = some cells.size)
    (hold : old.size = cells.size) (h1 : cells.all (·.oneCell') = true)
    (h : wpList Try.prog ops Q rest (a.put o.dst undef) (w.setRow g cells)) : wpList Try.prog ops Q (o :: rest) a w :=
  wpList_store_row hgd ty x y ho g cells hx hy t old hg.h hi hold h1 h
theorem grown_setRow (w : World) (g : Nat) (cs : Array Value) : w.grownBy (w.setRow g cs) (some g) :=
  ⟨rfl, rfl, rfl, by simp [World.setRow], fun k _ hne => by
    simp only [World.setRow, Array.getElem?_modify]
    rw [if_neg (fun e => hne (by rw [e]))]⟩
theorem wpl_put {ty : TypeId} {ops : Array Oper} {rest : List Oper} {o : Oper} {a : Act} {w : World} {Q : Exit → Act → World → Prop} (hgd : o.guard = none) (x y : Operand) (ho : o.op = .store ty x y)
    (g : Nat) (cells : Array Value) (hx : a.eval x = .pointer (some ⟨g, 0, none⟩)) (hy : a.eval y = .agg cells)
    {t : TypeId} {old : Array Value} (hg : Blk w g old t) (hi : (Try.prog.info? ty).map (·.size) = some cells.size)
    (hold : old.size = cells.size) (h1 : cells.all (·.oneCell') = true)
    (h : ∀ W', Blk W' g cells t → w.grownBy W' (some g) → W'.heap.size = w.heap.size → wpList Try.prog ops Q rest (a.put o.dst undef) W') : wpList Try.prog ops Q (o :: rest) a w :=
  wpl_store hgd x y ho g cells hx hy hg hi hold h1 (h _ (hg.row cells) (grown_setRow w g cells) (by simp [World.setRow]))
/-- A struct is stored into a block that was made just before. -/
theorem wpl_fresh {ty : TypeId} {ops : Array Oper} {rest : List Oper} {o : Oper} {a : Act} {w : World} {Q : Exit → Act → World → Prop} (hgd : o.guard = none) (x y : Operand) (ho : o.op = .store ty x y)
    (cells old : Array Value) {t : TypeId} (hx : a.eval x = .pointer (some ⟨w.heap.size, 0, none⟩)) (hy : a.eval y = .agg cells)
    (hi : (Try.prog.info? ty).map (·.size) = some cells.size) (hold : old.size = cells.size) (h1 : cells.all (·.oneCell') = true)
    (h : ∀ W', Blk W' w.heap.size cells t → Below w.heap.size w W' → W'.heap.size = w.heap.size + 1 → wpList Try.prog ops Q rest (a.put o.dst undef) W') : wpList Try.prog ops Q (o :: rest) a (w.alloc (.cells old t)) :=
  wpl_put hgd x y ho w.heap.size cells hx hy (Blk.new w old t) hi hold h1 fun W' h2 h3 h4 => h W' h2 (((Below.refl _ w).alloc (Nat.le_refl _) _).grown h3 (by simp) (fun k hk => by injection hk with hk; omega)) (by rw [h4]; simp)
/-- The walk stands still here. -/
theorem wpl_halt {ops : Array Oper} {l : List Oper} {Q : Exit → Act → World → Prop} {a : Act} {w : World} (h : True → wpList Try.prog ops Q l a w) : wpList Try.prog ops Q l a w := h trivial
/-- One cell is stored. -/
theorem wpl_set {ty : TypeId} {ops : Array Oper} {rest : List Oper} {o : Oper} {a : Act} {w : World} {Q : Exit → Act → World → Prop} (hgd : o.guard = none) (x y : Operand) (ho : o.op = .store ty x y)
    (g j : Nat) (u : Value) (hx : a.eval x = .pointer (some ⟨g, j, none⟩)) (hy : a.eval y = u)
    {t : TypeId} {old : Array Value} (hg : Blk w g old t) (hi : (Try.prog.info? ty).map (·.size) = some 1) (hu : u.cells = #[u]) (h1 : u.oneCell' = true) (hj : j < old.size)
    (h : ∀ W', Blk W' g (old.setIfInBounds j u) t → w.grownBy W' (some g) → W'.heap.size = w.heap.size → wpList Try.prog ops Q rest (a.put o.dst undef) W') : wpList Try.prog ops Q (o :: rest) a w := by
  refine wpList_plain hgd fun K hK => ?_
  have hst := run_storeCells_at Try.prog g j t [u] 0 old w hg.h (by simp; omega) (fun v hv => by simp at hv; subst hv; exact h1)
  simp only [Nat.add_zero, List.length_singleton] at hst
  have hrun : (storeVar ty ⟨g, j, none⟩ u).run Try.prog w = .ok () (w.setRow g (old.toList.take j ++ [u] ++ old.toList.drop (j + 1)).toArray) := by
    cases hq : Try.prog.info? ty with
    | none => simp [hq] at hi
    | some i =>
      have hs : i.size = 1 := by simpa [hq] using hi
      simp [storeVar, sizeOf, typeInfo, hq, hu, hs, hst]
  have e : (old.toList.take j ++ [u] ++ old.toList.drop (j + 1)).toArray = old.setIfInBounds j u := by
    apply Array.ext'
    rw [Array.toList_setIfInBounds]
    simp [List.set_eq_take_append_cons_drop, hj]
  rw [e] at hrun
  unfold Oper.wp execOp
  simp only [ho, hx, hy, Instr.storeAt, Instr.sureAddr, Sem.run_bind, Sem.run_pure, Result.andThen_ok, hrun]
  exact hK _ _ (h _ (hg.row _) (grown_setRow w g _) (by simp [World.setRow]))
theorem Blk.but {w w' : World} {g b : Nat} {cs : Array Value} {t : TypeId} (h : Blk w g cs t) (hb : But w w' b) (hne : g ≠ b) : Blk w' g cs t := ⟨by rw [hb.block g hne]; exact h.h⟩
end Go.Proofs.Ytlkinkbdhoejiaa
