/- What aframe.Next reads of any bytes. Conditions: those that each row states. -/
import Derived.Test.YtlkinkbdhoejiaaEn
namespace Go.Proofs.Ytlkinkbdhoejiaa
open Go.RowKit Go.Lib
set_option maxRecDepth 100000

theorem old_of {W w1 : World} (hb : Below W.heap.size W w1) : (∀ b o, b < W.heap.size → w1.cell? ⟨b, o, none⟩ = W.cell? ⟨b, o, none⟩) ∧ (∀ b o, b < W.heap.size → w1.frozen? ⟨b, o, none⟩ = W.frozen? ⟨b, o, none⟩) :=
  ⟨fun b o h => hb.cell (p := ⟨b, o, none⟩) h, fun b o h => hb.frozen (p := ⟨b, o, none⟩) h⟩
def nrV (r : Nr) : Value := .tuple #[frV r.ty r.ch r.pay, .int .i64 r.n, .int .i64 r.e]
theorem ext_str (l : List UInt8) (a b : Nat) : (⟨l.toArray⟩ : ByteArray).extract a b = ⟨((l.drop a).take (b - a)).toArray⟩ := by
  apply ByteArray.ext
  simp [ByteArray.data_extract, List.extract_eq_take_drop]
theorem get_str (l : List UInt8) (i : Nat) (h : i < (⟨l.toArray⟩ : ByteArray).size) : (⟨l.toArray⟩ : ByteArray)[i]'h = l.getD i 0 := by
  have : i < l.length := h
  show l.toArray[i] = _
  simp [List.getD_eq_getElem?_getD, this]

set_option maxHeartbeats 400000 in
theorem next_nil (w : World) : Calls Try.prog 11 #[str []] w fun e w' => e = .returned (nrV ⟨0, 0, [], 0, 41⟩) ∧ Below w.heap.size w w' := by
  go_enter Try.func11, Try.ntmps11
  go_wp2_with fail
  exact bodyPost_ret (v := nrV ⟨0, 0, [], 0, 41⟩) (by simp [results, Try.results11, go_sem, nrV]) rfl ⟨rfl, below_new w _⟩

set_option maxHeartbeats 400000 in
theorem next_odd (w : World) (l : List UInt8) (hl : l.length ≤ 140000000000000) (h0 : 0 < l.length) (hty : tyZ ((l.getD 0 0).toNat : Int) = false) :
    Calls Try.prog 11 #[str l] w fun e w' => e = .returned (nrV ⟨0, 0, [], 0, 40⟩) ∧ Below w.heap.size w w' := by
  have g0 := get_str l 0
  generalize l.getD 0 0 = c at *
  have hc : (c.toNat : Int) < 256 := by have := c.toNat_lt; omega
  obtain ⟨x, hx⟩ : ∃ x, c.toNat = x := ⟨_, rfl⟩
  rw [hx] at hty hc
  have hne : l.isEmpty = false := by cases l <;> simp at *
  go_enter Try.func11, Try.ntmps11
  go_wp2_with (first | (go_at_call 19; refine (isType_any _ _).mono ?_; rintro e w' ⟨rfl, rfl⟩))
  exact bodyPost_ret (v := nrV ⟨0, 0, [], 0, 40⟩) (by simp [results, Try.results11, go_sem, nrV]) rfl ⟨rfl, below_new w _⟩

set_option maxHeartbeats 400000 in
theorem next_short (w : World) (l : List UInt8) (h0 : 0 < l.length) (h7 : l.length < 7) (hty : tyZ ((l.getD 0 0).toNat : Int) = true) :
    Calls Try.prog 11 #[str l] w fun e w' => e = .returned (nrV ⟨0, 0, [], 0, 41⟩) ∧ Below w.heap.size w w' := by
  have g0 := get_str l 0
  generalize l.getD 0 0 = c at *
  have hc : (c.toNat : Int) < 256 := by have := c.toNat_lt; omega
  obtain ⟨x, hx⟩ : ∃ x, c.toNat = x := ⟨_, rfl⟩
  rw [hx] at hty hc
  have hne : l.isEmpty = false := by cases l <;> simp at *
  go_enter Try.func11, Try.ntmps11
  go_wp2_with (first | (go_at_call 19; refine (isType_any _ _).mono ?_; rintro e w' ⟨rfl, rfl⟩))
  exact bodyPost_ret (v := nrV ⟨0, 0, [], 0, 41⟩) (by simp [results, Try.results11, go_sem, nrV]) rfl ⟨rfl, below_new w _⟩

set_option maxHeartbeats 400000 in
theorem next_far (w : World) (l : List UInt8) (hl : l.length ≤ 140000000000000) (h7 : 7 ≤ l.length) (hty : tyZ ((l.getD 0 0).toNat : Int) = true) (hn : 16384 < numL ((l.drop 3).take 4)) :
    Calls Try.prog 11 #[str l] w fun e w' => e = .returned (nrV ⟨0, 0, [], 0, 40⟩) ∧ Below w.heap.size w w' := by
  have g0 := get_str l 0
  generalize l.getD 0 0 = c at *
  have hc : (c.toNat : Int) < 256 := by have := c.toNat_lt; omega
  obtain ⟨x, hx⟩ : ∃ x, c.toNat = x := ⟨_, rfl⟩
  rw [hx] at hty hc
  have hne : l.isEmpty = false := by cases l <;> simp at *
  have N4 : ∀ w, Calls Try.prog 23 #[.string ((⟨l.toArray⟩ : ByteArray).extract 3 7)] w fun e w' => e = .returned (.int .u64 (numL ((l.drop 3).take 4))) ∧ Below w.heap.size w w' := fun w => by
    rw [ext_str]; exact num_any w _ (by rw [List.length_take]; omega)
  have hnl := numL_lt ((l.drop 3).take 4)
  have hn4 : numL ((l.drop 3).take 4) < 4294967296 := Nat.lt_of_lt_of_le hnl (Nat.le_trans (Nat.pow_le_pow_right (by decide) (by rw [List.length_take]; exact Nat.min_le_left 4 _)) (by decide))
  clear hnl
  generalize numL ((l.drop 3).take 4) = n at *
  have hnz : (16384 : Int) < (n : Int) := by omega
  have h7z : (7 : Int) ≤ (l.length : Int) := by omega
  go_enter Try.func11, Try.ntmps11
  go_wp2_with (first | (go_at_call 19; refine (isType_any _ _).mono ?_; rintro e w' ⟨rfl, rfl⟩))
  refine (N4 _).mono ?_
  rintro e w1 ⟨rfl, hb1⟩
  have hb2 : Below w.heap.size w w1 := (below_new w _).trans (hb1.mono (by simp))
  obtain ⟨c1, c2⟩ := old_of hb1
  go_wp2_with fail
  refine bodyPost_ret (v := nrV ⟨0, 0, [], 0, 40⟩) (by simp [results, Try.results11, go_sem, nrV, c1]) rfl ⟨rfl, ?_⟩
  exact ((hb2.setCell (by simp) _).setCell (by simp) _).setCell (by simp) _
set_option maxHeartbeats 400000 in
theorem next_less (w : World) (l : List UInt8) (hl : l.length ≤ 140000000000000) (h7 : 7 ≤ l.length) (hty : tyZ ((l.getD 0 0).toNat : Int) = true) (hn : numL ((l.drop 3).take 4) ≤ 16384) (hle : l.length ≤ 7 + numL ((l.drop 3).take 4)) :
    Calls Try.prog 11 #[str l] w fun e w' => e = .returned (nrV ⟨0, 0, [], 0, 41⟩) ∧ Below w.heap.size w w' := by
  have g0 := get_str l 0
  generalize l.getD 0 0 = c at *
  have hc : (c.toNat : Int) < 256 := by have := c.toNat_lt; omega
  obtain ⟨x, hx⟩ : ∃ x, c.toNat = x := ⟨_, rfl⟩
  rw [hx] at hty hc
  have hne : l.isEmpty = false := by cases l <;> simp at *
  have N4 : ∀ w, Calls Try.prog 23 #[.string ((⟨l.toArray⟩ : ByteArray).extract 3 7)] w fun e w' => e = .returned (.int .u64 (numL ((l.drop 3).take 4))) ∧ Below w.heap.size w w' := fun w => by
    rw [ext_str]; exact num_any w _ (by rw [List.length_take]; omega)
  have hnl := numL_lt ((l.drop 3).take 4)
  have hn4 : numL ((l.drop 3).take 4) < 4294967296 := Nat.lt_of_lt_of_le hnl (Nat.le_trans (Nat.pow_le_pow_right (by decide) (by rw [List.length_take]; exact Nat.min_le_left 4 _)) (by decide))
  clear hnl
  generalize numL ((l.drop 3).take 4) = n at *
  have hnz : (n : Int) ≤ 16384 := by omega
  have hlz : (l.length : Int) ≤ 7 + (n : Int) := by omega
  have h7z : (7 : Int) ≤ (l.length : Int) := by omega
  go_enter Try.func11, Try.ntmps11
  go_wp2_with (first | (go_at_call 19; refine (isType_any _ _).mono ?_; rintro e w' ⟨rfl, rfl⟩))
  refine (N4 _).mono ?_
  rintro e w1 ⟨rfl, hb1⟩
  have hb2 : Below w.heap.size w w1 := (below_new w _).trans (hb1.mono (by simp))
  obtain ⟨c1, c2⟩ := old_of hb1
  go_wp2_with fail
  refine bodyPost_ret (v := nrV ⟨0, 0, [], 0, 41⟩) (by simp [results, Try.results11, go_sem, nrV, c1]) rfl ⟨rfl, ?_⟩
  exact ((hb2.setCell (by simp) _).setCell (by simp) _).setCell (by simp) _
set_option maxHeartbeats 400000 in
theorem next_mark (w : World) (l : List UInt8) (hl : l.length ≤ 140000000000000) (h7 : 7 ≤ l.length) (hty : tyZ ((l.getD 0 0).toNat : Int) = true) (hn : numL ((l.drop 3).take 4) ≤ 16384) (hle : 7 + numL ((l.drop 3).take 4) < l.length) (hd : l.getD (7 + numL ((l.drop 3).take 4)) 0 ≠ 206) :
    Calls Try.prog 11 #[str l] w fun e w' => e = .returned (nrV ⟨0, 0, [], 0, 40⟩) ∧ Below w.heap.size w w' := by
  have g0 := get_str l 0
  generalize l.getD 0 0 = c at *
  have hc : (c.toNat : Int) < 256 := by have := c.toNat_lt; omega
  obtain ⟨x, hx⟩ : ∃ x, c.toNat = x := ⟨_, rfl⟩
  rw [hx] at hty hc
  have hne : l.isEmpty = false := by cases l <;> simp at *
  have N4 : ∀ w, Calls Try.prog 23 #[.string ((⟨l.toArray⟩ : ByteArray).extract 3 7)] w fun e w' => e = .returned (.int .u64 (numL ((l.drop 3).take 4))) ∧ Below w.heap.size w w' := fun w => by
    rw [ext_str]; exact num_any w _ (by rw [List.length_take]; omega)
  have hnl := numL_lt ((l.drop 3).take 4)
  have hn4 : numL ((l.drop 3).take 4) < 4294967296 := Nat.lt_of_lt_of_le hnl (Nat.le_trans (Nat.pow_le_pow_right (by decide) (by rw [List.length_take]; exact Nat.min_le_left 4 _)) (by decide))
  clear hnl
  generalize numL ((l.drop 3).take 4) = n at *
  have g7 := get_str l (7 + n)
  generalize l.getD (7 + n) 0 = d at *
  have hdz : ¬ (d.toNat : Int) = 206 := fun e => hd (UInt8.toNat_inj.1 (by show d.toNat = 206; omega))
  obtain ⟨y, hy⟩ : ∃ y, d.toNat = y := ⟨_, rfl⟩
  rw [hy] at hdz
  have hnz : (n : Int) ≤ 16384 := by omega
  have hlz : 7 + (n : Int) < (l.length : Int) := by omega
  have h0n : (0 : Int) ≤ 7 + (n : Int) := by omega
  have htn : (7 + (n : Int)).toNat = 7 + n := by omega
  have h7z : (7 : Int) ≤ (l.length : Int) := by omega
  go_enter Try.func11, Try.ntmps11
  go_wp2_with (first | (go_at_call 19; refine (isType_any _ _).mono ?_; rintro e w' ⟨rfl, rfl⟩))
  refine (N4 _).mono ?_
  rintro e w1 ⟨rfl, hb1⟩
  have hb2 : Below w.heap.size w w1 := (below_new w _).trans (hb1.mono (by simp))
  obtain ⟨c1, c2⟩ := old_of hb1
  go_wp2_with fail
  refine bodyPost_ret (v := nrV ⟨0, 0, [], 0, 40⟩) (by simp [results, Try.results11, go_sem, nrV, c1]) rfl ⟨rfl, ?_⟩
  exact ((hb2.setCell (by simp) _).setCell (by simp) _).setCell (by simp) _
end Go.Proofs.Ytlkinkbdhoejiaa
