/- What the document's own Next reads of any bytes. Conditions: those that each row states. -/
import Derived.Test.YtlkinkbdhoejiaaRd
namespace Go.Proofs.Ytlkinkbdhoejiaa
open Go.RowKit Go.Lib
set_option maxRecDepth 100000

/-- Three cells at block b, which may be written. -/
structure F3 (w : World) (b : Nat) (u0 u1 u2 : Value) : Prop where
  c0 : w.cell? ⟨b, 0, none⟩ = some u0
  c1 : w.cell? ⟨b, 1, none⟩ = some u1
  c2 : w.cell? ⟨b, 2, none⟩ = some u2
  f0 : w.frozen? ⟨b, 0, none⟩ = false
  f1 : w.frozen? ⟨b, 1, none⟩ = false
  f2 : w.frozen? ⟨b, 2, none⟩ = false
theorem F3.but {w w' : World} {b k : Nat} {u0 u1 u2 : Value} (h : F3 w b u0 u1 u2) (hb : But w w' k) (hk : b ≠ k) : F3 w' b u0 u1 u2 :=
  ⟨by rw [hb.cell b 0 hk]; exact h.c0, by rw [hb.cell b 1 hk]; exact h.c1, by rw [hb.cell b 2 hk]; exact h.c2, by rw [hb.frozen b 0 hk]; exact h.f0, by rw [hb.frozen b 1 hk]; exact h.f1, by rw [hb.frozen b 2 hk]; exact h.f2⟩
theorem F3.below {w w' : World} {b B : Nat} {u0 u1 u2 : Value} (h : F3 w b u0 u1 u2) (hb : Below B w w') (hk : b < B) : F3 w' b u0 u1 u2 :=
  ⟨by rw [hb.cell (p := ⟨b, 0, none⟩) hk]; exact h.c0, by rw [hb.cell (p := ⟨b, 1, none⟩) hk]; exact h.c1, by rw [hb.cell (p := ⟨b, 2, none⟩) hk]; exact h.c2, by rw [hb.frozen (p := ⟨b, 0, none⟩) hk]; exact h.f0, by rw [hb.frozen (p := ⟨b, 1, none⟩) hk]; exact h.f1, by rw [hb.frozen (p := ⟨b, 2, none⟩) hk]; exact h.f2⟩
theorem F3.new (w : World) (u0 u1 u2 : Value) (t : TypeId) : F3 (w.alloc (.cells #[u0, u1, u2] t)) w.heap.size u0 u1 u2 :=
  ⟨by simp [World.cell?_alloc_new], by simp [World.cell?_alloc_new], by simp [World.cell?_alloc_new], by simp, by simp, by simp⟩
theorem F3.set1 {w : World} {b : Nat} {u0 u1 u2 : Value} (h : F3 w b u0 u1 u2) (v : Value) : F3 (w.setCell ⟨b, 1, none⟩ v) b u0 v u2 :=
  ⟨by rw [World.cell?_setCell_other (h := by simp)]; exact h.c0, World.cell?_setCell_same (h := h.c1) .., by rw [World.cell?_setCell_other (h := by simp)]; exact h.c2, by rw [World.frozen?_setCell]; exact h.f0, by rw [World.frozen?_setCell]; exact h.f1, by rw [World.frozen?_setCell]; exact h.f2⟩
theorem F3.set2 {w : World} {b : Nat} {u0 u1 u2 : Value} (h : F3 w b u0 u1 u2) (v : Value) : F3 (w.setCell ⟨b, 2, none⟩ v) b u0 u1 v :=
  ⟨by rw [World.cell?_setCell_other (h := by simp)]; exact h.c0, by rw [World.cell?_setCell_other (h := by simp)]; exact h.c1, World.cell?_setCell_same (h := h.c2) .., by rw [World.frozen?_setCell]; exact h.f0, by rw [World.frozen?_setCell]; exact h.f1, by rw [World.frozen?_setCell]; exact h.f2⟩
theorem Rd.but {w w' : World} {b k : Nat} {s : List UInt8} {bad : Bool} (h : Rd w b s bad) (hb : But w w' k) (hk : b ≠ k) : Rd w' b s bad :=
  ⟨by rw [hb.cell b 0 hk]; exact h.c0, by rw [hb.cell b 1 hk]; exact h.c1, by rw [hb.frozen b 0 hk]; exact h.f0, by rw [hb.frozen b 1 hk]; exact h.f1⟩
theorem Rd.below {w w' : World} {b B : Nat} {s : List UInt8} {bad : Bool} (h : Rd w b s bad) (hb : Below B w w') (hk : b < B) : Rd w' b s bad :=
  ⟨by rw [hb.cell (p := ⟨b, 0, none⟩) hk]; exact h.c0, by rw [hb.cell (p := ⟨b, 1, none⟩) hk]; exact h.c1, by rw [hb.frozen (p := ⟨b, 0, none⟩) hk]; exact h.f0, by rw [hb.frozen (p := ⟨b, 1, none⟩) hk]; exact h.f1⟩
theorem Rd.new (w : World) (s : List UInt8) (bad : Bool) (t : TypeId) : Rd (w.alloc (.cells #[str s, .bool bad] t)) w.heap.size s bad :=
  ⟨by simp [World.cell?_alloc_new], by simp [World.cell?_alloc_new], by simp, by simp⟩
theorem num1 (l : List UInt8) (h : 0 < l.length) : numL (l.take 1) = (l.getD 0 0).toNat := by
  cases l with
  | nil => simp at h
  | cons c r => simp [numL]

set_option maxHeartbeats 400000 in
theorem rnext_nil (w : World) : Calls Try.prog 12 #[str []] w fun e w' => e = .returned (nrV ⟨0, 0, [], 0, 41⟩) ∧ Below w.heap.size w w' := by
  go_enter Try.func12, Try.ntmps12
  go_wp2_with fail
  exact bodyPost_ret (v := nrV ⟨0, 0, [], 0, 41⟩) (by simp [results, Try.results12, go_sem, nrV]) rfl ⟨rfl, below_new w _⟩

set_option maxHeartbeats 400000 in
theorem rnext_odd (w : World) (l : List UInt8) (h0 : 0 < l.length) (hty : tyZ ((l.getD 0 0).toNat : Int) = false) :
    Calls Try.prog 12 #[str l] w fun e w' => e = .returned (nrV ⟨0, 0, [], 0, 40⟩) ∧ Below w.heap.size w w' := by
  have g0 := get_str l 0
  generalize l.getD 0 0 = c at *
  have hc : (c.toNat : Int) < 256 := by have := c.toNat_lt; omega
  obtain ⟨x, hx⟩ : ∃ x, c.toNat = x := ⟨_, rfl⟩
  rw [hx] at hty hc
  have hne : l.isEmpty = false := by cases l <;> simp at *
  go_enter Try.func12, Try.ntmps12
  go_wp2_with (first | (go_at_call 21; refine (kind_any _ _).mono ?_; rintro e w' ⟨rfl, rfl⟩))
  exact bodyPost_ret (v := nrV ⟨0, 0, [], 0, 40⟩) (by simp [results, Try.results12, go_sem, nrV]) rfl ⟨rfl, below_new w _⟩

set_option maxHeartbeats 400000 in
theorem rnext_short (w : World) (l : List UInt8) (h0 : 0 < l.length) (h7 : l.length < 7) (hty : tyZ ((l.getD 0 0).toNat : Int) = true) :
    Calls Try.prog 12 #[str l] w fun e w' => e = .returned (nrV ⟨0, 0, [], 0, 41⟩) ∧ Below w.heap.size w w' := by
  have g0 := get_str l 0
  generalize l.getD 0 0 = c at *
  have hc : (c.toNat : Int) < 256 := by have := c.toNat_lt; omega
  obtain ⟨x, hx⟩ : ∃ x, c.toNat = x := ⟨_, rfl⟩
  rw [hx] at hty hc
  have hne : l.isEmpty = false := by cases l <;> simp at *
  go_enter Try.func12, Try.ntmps12
  go_wp2_with (first | (go_at_call 21; refine (kind_any _ _).mono ?_; rintro e w' ⟨rfl, rfl⟩))
  exact bodyPost_ret (v := nrV ⟨0, 0, [], 0, 41⟩) (by simp [results, Try.results12, go_sem, nrV]) rfl ⟨rfl, below_new w _⟩

set_option maxHeartbeats 400000 in
theorem rnext_long (w : World) (l : List UInt8) (hl : l.length ≤ 140000000000000) (h7 : 7 ≤ l.length) (hty : tyZ ((l.getD 0 0).toNat : Int) = true) :
    Calls Try.prog 12 #[str l] w fun e w' => e = .returned (nrV (nextL l)) ∧ Below w.heap.size w w' := by
  have hne : l.isEmpty = false := by cases l <;> simp at *
  obtain ⟨a, ha⟩ : ∃ a, w.heap.size = a := ⟨_, rfl⟩
  have N1 : ∀ w, Rd w (a + 1) l false → Calls Try.prog 25 #[.pointer (some ⟨a + 1, 0, none⟩), .int .i64 1] w fun e w' => e = .returned (.int .u64 (numL (l.take 1))) ∧ Rd w' (a + 1) (l.drop 1) false ∧ But w w' (a + 1) := fun w h => number_any w (a + 1) 1 _ _ (by omega) (by rw [List.length_take]; exact Nat.min_le_left ..) (take_ok w (a + 1) 1 l h (by omega))
  have N2 : ∀ w, Rd w (a + 1) (l.drop 1) false → Calls Try.prog 25 #[.pointer (some ⟨a + 1, 0, none⟩), .int .i64 2] w fun e w' => e = .returned (.int .u64 (numL ((l.drop 1).take 2))) ∧ Rd w' (a + 1) (l.drop 3) false ∧ But w w' (a + 1) := fun w h => by
    have := number_any w (a + 1) 2 _ _ (by omega) (by rw [List.length_take]; exact Nat.min_le_left ..) (take_ok w (a + 1) 2 (l.drop 1) h (by rw [List.length_drop]; omega))
    rw [List.drop_drop] at this
    exact this
  have N4 : ∀ w, Rd w (a + 1) (l.drop 3) false → Calls Try.prog 25 #[.pointer (some ⟨a + 1, 0, none⟩), .int .i64 4] w fun e w' => e = .returned (.int .u64 (numL ((l.drop 3).take 4))) ∧ Rd w' (a + 1) (l.drop 7) false ∧ But w w' (a + 1) := fun w h => by
    have := number_any w (a + 1) 4 _ _ (by omega) (by rw [List.length_take]; exact Nat.min_le_left ..) (take_ok w (a + 1) 4 (l.drop 3) h (by rw [List.length_drop]; omega))
    rw [List.drop_drop] at this
    exact this
  have hl7 : (l.drop 7).length = l.length - 7 := List.length_drop
  have hnl := numL_lt ((l.drop 3).take 4)
  have hn4 : numL ((l.drop 3).take 4) ≤ 4294967295 := by
    have := Nat.lt_of_lt_of_le hnl (Nat.le_trans (Nat.pow_le_pow_right (by decide) (by rw [List.length_take]; exact Nat.min_le_left 4 _)) (by decide : 256 ^ 4 ≤ 4294967296))
    omega
  have hnl2 := numL_lt ((l.drop 1).take 2)
  have hn2 : numL ((l.drop 1).take 2) ≤ 65535 := by
    have := Nat.lt_of_lt_of_le hnl2 (Nat.le_trans (Nat.pow_le_pow_right (by decide) (by rw [List.length_take]; exact Nat.min_le_left 2 _)) (by decide : 256 ^ 2 ≤ 65536))
    omega
  have hNx : Hid (nextL l = if 16384 < numL ((l.drop 3).take 4) then ⟨0, 0, [], 0, 40⟩ else if l.length ≤ 7 + numL ((l.drop 3).take 4) then ⟨0, 0, [], 0, 41⟩ else if l.getD (7 + numL ((l.drop 3).take 4)) 0 ≠ 206 then ⟨0, 0, [], 0, 40⟩ else ⟨(l.getD 0 0).toNat, numL ((l.drop 1).take 2), (l.drop 7).take (numL ((l.drop 3).take 4)), numL ((l.drop 3).take 4) + 8, 0⟩) := by
    show _ = _
    unfold nextL
    rw [if_neg (by rw [hty]; simp), if_neg (by omega)]
  rw [num1 l (by omega)] at N1
  clear hnl hnl2
  have hLd : Hid (∀ n, 7 + n < l.length → l.getD (7 + n) 0 = (l.drop 7).getD n 0) := fun n _ => by simp [List.getD_eq_getElem?_getD]
  generalize nextL l = res at *
  generalize numL ((l.drop 3).take 4) = n at *
  generalize numL ((l.drop 1).take 2) = ch at *
  have g0 := get_str l 0
  generalize l.getD 0 0 = c at *
  have hc : (c.toNat : Int) < 256 := by have := c.toNat_lt; omega
  obtain ⟨x, hx⟩ : ∃ x, c.toNat = x := ⟨_, rfl⟩
  rw [hx] at hty hc N1 hNx
  have h7z : (7 : Int) ≤ (l.length : Int) := by omega
  go_enter Try.func12, Try.ntmps12
  go_wp2_with (first | (go_at_call 21; refine (kind_any _ _).mono ?_; rintro e w' ⟨rfl, rfl⟩))
  have hA : F3 ((w.alloc (.cells #[.int .i64 0, .int .i64 0, .string { data := #[] }] 23)).alloc (.cells #[str l, .bool false] 53)) a (.int .i64 0) (.int .i64 0) (.string { data := #[] }) := by
    have := F3.new w (.int .i64 0) (.int .i64 0) (.string { data := #[] }) 23
    rw [ha] at this
    exact this.below (below_new _ _) (by simp; omega)
  have hR : Rd ((w.alloc (.cells #[.int .i64 0, .int .i64 0, .string { data := #[] }] 23)).alloc (.cells #[str l, .bool false] 53)) (a + 1) l false := by
    have := Rd.new (w.alloc (.cells #[.int .i64 0, .int .i64 0, .string { data := #[] }] 23)) l false 53
    rw [World.size_alloc, ha] at this
    exact this
  have hB : Below a w ((w.alloc (.cells #[.int .i64 0, .int .i64 0, .string { data := #[] }] 23)).alloc (.cells #[str l, .bool false] 53)) := by
    have := (below_new w (.cells #[.int .i64 0, .int .i64 0, .string { data := #[] }] 23)).trans ((below_new _ (.cells #[str l, .bool false] 53)).mono (by simp))
    rwa [ha] at this
  have hS : ((w.alloc (.cells #[.int .i64 0, .int .i64 0, .string { data := #[] }] 23)).alloc (.cells #[str l, .bool false] 53)).heap.size = a + 2 := by simp; omega
  generalize (w.alloc (.cells #[.int .i64 0, .int .i64 0, .string { data := #[] }] 23)).alloc (.cells #[str l, .bool false] 53) = W0 at *
  refine (N1 W0 hR).mono ?_
  rintro e w1 ⟨rfl, hR1, hb1⟩
  have hA1 := hA.but hb1 (by omega)
  have hB1 := hB.trans (hb1.below (by omega))
  have hS1 : w1.heap.size = a + 2 := by rw [hb1.size, hS]
  have ha' : Hid (w.heap.size = a) := ha
  clear N1 hR hA hB hS hb1 ha
  go_wp2_with fail
  have hC0 : F3 (w1.alloc (.cells #[.int .i64 (x : Int), .int .i64 0, .string { data := #[] }] 23)) (a + 2) (.int .i64 (x : Int)) (.int .i64 0) (.string { data := #[] }) := by
    have := F3.new w1 (.int .i64 (x : Int)) (.int .i64 0) (.string { data := #[] }) 23
    rwa [hS1] at this
  have hbn := below_new w1 (.cells #[.int .i64 (x : Int), .int .i64 0, .string { data := #[] }] 23)
  have hA1' := hA1.below hbn (by omega)
  have hR1' := hR1.below hbn (by omega)
  have hB1' := hB1.trans (hbn.mono (by omega))
  have hS1' : (w1.alloc (.cells #[.int .i64 (x : Int), .int .i64 0, .string { data := #[] }] 23)).heap.size = a + 3 := by simp; omega
  clear hA1 hR1 hB1 hS1 hbn
  generalize w1.alloc (.cells #[.int .i64 (x : Int), .int .i64 0, .string { data := #[] }] 23) = W1 at *
  refine (N2 W1 hR1').mono ?_
  rintro e w2 ⟨rfl, hR2, hb2⟩
  have hA2 := hA1'.but hb2 (by omega)
  have hC2 := hC0.but hb2 (by omega)
  have hB2 := hB1'.trans (hb2.below (by omega))
  have hS2 : w2.heap.size = a + 3 := by rw [hb2.size, hS1']
  clear N2 hR1' hA1' hC0 hB1' hS1' hb2
  have d1 := hC2.c1
  have d2 := hC2.f1
  go_wp2_with fail
  have hbs := But.set w2 (a + 2) 1 (.int .i64 (ch : Int))
  have hC2' := hC2.set1 (.int .i64 (ch : Int))
  have hA2' := hA2.but hbs (by omega)
  have hR2' := hR2.but hbs (by omega)
  have hB2' := hB2.trans (hbs.below (by omega))
  have hS2' : (w2.setCell ⟨a + 2, 1, none⟩ (.int .i64 (ch : Int))).heap.size = a + 3 := by rw [hbs.size, hS2]
  clear hbs hC2 hA2 hR2 hB2 hS2 d1 d2
  generalize w2.setCell ⟨a + 2, 1, none⟩ (.int .i64 (ch : Int)) = W2 at *
  refine (N4 W2 hR2').mono ?_
  rintro e w3 ⟨rfl, hR3, hb3⟩
  have hA3 := hA2'.but hb3 (by omega)
  have hC3 := hC2'.but hb3 (by omega)
  have hB3 := hB2'.trans (hb3.below (by omega))
  have hS3 : w3.heap.size = a + 3 := by rw [hb3.size, hS2']
  clear N4 hR2' hA2' hC2' hB2' hS2' hb3
  have fin : ∀ (W : World) (v : Value), Below a w W → Below w.heap.size w (((W.setCell ⟨a, 0, none⟩ (.int .i64 0)).setCell ⟨a, 1, none⟩ (.int .i64 0)).setCell ⟨a, 2, none⟩ v) := fun W v h => by
    rw [ha'.out]
    exact ((h.setCell (Nat.le_refl _) _).setCell (Nat.le_refl _) _).setCell (Nat.le_refl _) _
  by_cases hn : 16384 < n
  · have hnz : (16384 : Int) < (n : Int) := by omega
    have e1 := hNx.out
    rw [if_pos hn] at e1
    have E1 : Hid (res = ⟨0, 0, [], 0, 40⟩) := e1
    obtain ⟨q0, q1, q2, p0, p1, p2⟩ := hA3
    clear hNx e1 hn
    go_wp2_with fail
    exact bodyPost_ret (v := nrV ⟨0, 0, [], 0, 40⟩) (by simp [results, Try.results12, go_sem, nrV, q0, q1, q2]) rfl ⟨by rw [E1.out], fin _ _ hB3⟩
  · have hnz : (n : Int) ≤ 16384 := by omega
    have T1 : ∃ (pay rest : List UInt8) (bad : Bool), ((l.length < 7 + n ∧ bad = true) ∨ (7 + n ≤ l.length ∧ bad = false ∧ pay = (l.drop 7).take n ∧ rest = l.drop (7 + n))) ∧ ∀ w, Rd w (a + 1) (l.drop 7) false → Calls Try.prog 26 #[.pointer (some ⟨a + 1, 0, none⟩), .int .i64 n] w fun e w' => e = .returned (str pay) ∧ Rd w' (a + 1) rest bad ∧ But w w' (a + 1) := by
      by_cases hs : l.length < 7 + n
      · exact ⟨[], l.drop 7, true, .inl ⟨hs, rfl⟩, fun w h => take_bad w (a + 1) n _ false h (.inr (by omega))⟩
      · exact ⟨(l.drop 7).take n, l.drop (7 + n), false, .inr ⟨by omega, rfl, rfl, rfl⟩, fun w h => by
          have := take_ok w (a + 1) n (l.drop 7) h (by omega)
          rwa [List.drop_drop] at this⟩
    obtain ⟨pay, rest, bad, hcase, T1⟩ := T1
    have T2 : ∃ (last rest2 : List UInt8) (bad2 : Bool), ((l.length ≤ 7 + n ∧ bad2 = true) ∨ (7 + n < l.length ∧ bad2 = false ∧ pay = (l.drop 7).take n ∧ last = [l.getD (7 + n) 0])) ∧ ∀ w, Rd w (a + 1) rest bad → Calls Try.prog 26 #[.pointer (some ⟨a + 1, 0, none⟩), .int .i64 1] w fun e w' => e = .returned (str last) ∧ Rd w' (a + 1) rest2 bad2 ∧ But w w' (a + 1) := by
      rcases hcase with ⟨h1, rfl⟩ | ⟨h1, rfl, rfl, rfl⟩
      · exact ⟨[], rest, true, .inl ⟨by omega, rfl⟩, fun w h => take_bad w (a + 1) 1 _ true h (.inl rfl)⟩
      · by_cases hs : 7 + n < l.length
        · refine ⟨(l.drop (7 + n)).take 1, (l.drop (7 + n)).drop 1, false, .inr ⟨hs, rfl, rfl, ?_⟩, fun w h => take_ok w (a + 1) 1 _ h (by rw [List.length_drop]; omega)⟩
          rw [List.drop_eq_getElem_cons hs]
          simp only [List.take_succ_cons, List.take_zero, List.getD_eq_getElem?_getD, List.getElem?_eq_getElem hs, Option.getD_some]
        · exact ⟨[], l.drop (7 + n), true, .inl ⟨by omega, rfl⟩, fun w h => take_bad w (a + 1) 1 _ false h (.inr (by rw [List.length_drop]; omega))⟩
    obtain ⟨last, rest2, bad2, hcase2, T2⟩ := T2
    clear hcase
    have hNy := hNx.out
    rw [if_neg hn] at hNy
    have HN : Hid (res = if l.length ≤ 7 + n then (⟨0, 0, [], 0, 41⟩ : Nr) else if l.getD (7 + n) 0 ≠ 206 then ⟨0, 0, [], 0, 40⟩ else ⟨x, ch, (l.drop 7).take n, n + 8, 0⟩) := hNy
    have HC : Hid ((l.length ≤ 7 + n ∧ bad2 = true) ∨ (7 + n < l.length ∧ bad2 = false ∧ pay = (l.drop 7).take n ∧ last = [l.getD (7 + n) 0])) := hcase2
    clear hNx hNy hcase2 hn
    have d1 := hC3.c2
    have d2 := hC3.f2
    go_wp2_with fail
    refine (T1 w3 hR3).mono ?_
    rintro e w4 ⟨rfl, hR4, hb4⟩
    have hA4 := hA3.but hb4 (by omega)
    have hC4 := hC3.but hb4 (by omega)
    have hB4 := hB3.trans (hb4.below (by omega))
    have hS4 : w4.heap.size = a + 3 := by rw [hb4.size, hS3]
    clear T1 hR3 hA3 hC3 hB3 hS3 hb4 d1 d2
    have d1 := hC4.c2
    have d2 := hC4.f2
    go_wp2_with fail
    have hbs := But.set w4 (a + 2) 2 (str pay)
    have hC4' := hC4.set2 (str pay)
    have hA4' := hA4.but hbs (by omega)
    have hR4' := hR4.but hbs (by omega)
    have hB4' := hB4.trans (hbs.below (by omega))
    clear hbs hC4 hA4 hR4 hB4 hS4 d1 d2
    generalize w4.setCell ⟨a + 2, 2, none⟩ (str pay) = W4 at *
    refine (T2 W4 hR4').mono ?_
    rintro e w5 ⟨rfl, hR5, hb5⟩
    have hA5 := hA4'.but hb5 (by omega)
    have hC5 := hC4'.but hb5 (by omega)
    have hB5 := hB4'.trans (hb5.below (by omega))
    clear T2 hR4' hA4' hC4' hB4' hb5
    have r1 := hR5.c1
    rcases HC.out with ⟨hle, rfl⟩ | ⟨hgt, rfl, hpay, hlast⟩
    · have e1 := HN.out
      rw [if_pos hle] at e1
      have E1 : Hid (res = ⟨0, 0, [], 0, 41⟩) := e1
      obtain ⟨q0, q1, q2, p0, p1, p2⟩ := hA5
      clear HN HC e1 hle
      go_wp2_with fail
      exact bodyPost_ret (v := nrV ⟨0, 0, [], 0, 41⟩) (by simp [results, Try.results12, go_sem, nrV, q0, q1, q2]) rfl ⟨by rw [E1.out], fin _ _ hB5⟩
    · have e1 := HN.out
      rw [if_neg (by omega)] at e1
      rw [← hpay] at e1
      generalize l.getD (7 + n) 0 = d at *
      subst hlast
      by_cases hd : d = 206
      · subst hd
        rw [if_neg (by simp)] at e1
        have E1 : Hid (res = ⟨x, ch, pay, n + 8, 0⟩) := e1
        obtain ⟨q0, q1, q2, p0, p1, p2⟩ := hA5
        obtain ⟨k0, k1, k2, _, _, _⟩ := hC5
        clear HN HC e1 hpay
        go_wp2_with fail
        refine bodyPost_ret (v := .tuple #[frV x ch pay, .int .i64 ((n : Int) + 8), .int .i64 0]) (by simp [results, Try.results12, go_sem, q0, q1, q2]) rfl ⟨by rw [E1.out]; rfl, ?_⟩
        rw [ha'.out]
        exact ((hB5.setCell (Nat.le_refl _) _).setCell (Nat.le_refl _) _).setCell (Nat.le_refl _) _
      · rw [if_pos hd] at e1
        have E1 : Hid (res = ⟨0, 0, [], 0, 40⟩) := e1
        have hdb : (d == 206) = false := by simpa using hd
        clear hd
        obtain ⟨q0, q1, q2, p0, p1, p2⟩ := hA5
        clear HN HC e1 hpay
        go_wp2_with fail
        exact bodyPost_ret (v := nrV ⟨0, 0, [], 0, 40⟩) (by simp [results, Try.results12, go_sem, nrV, q0, q1, q2]) rfl ⟨by rw [E1.out], fin _ _ hB5⟩
end Go.Proofs.Ytlkinkbdhoejiaa
