/- FltTells, walked. -/
import Derived.Test.YtklgemnmihpkcaaGreatDoorVg
import Derived.Test.YtklgemnmihpkcaaGreatDoorNz
set_option maxRecDepth 100000
namespace Go.Proofs.YtklgemnmihpkcaaGreatDoor
open Go.RowKit Go.Lib Ieee

theorem nan_single : isN single 2143289344 := by decide
theorem canon_nan {x : Nat} (hx : isN double (canonB x)) : canonB x = 9221120237041090561 := by
  unfold canonB at hx ⊢
  by_cases hn : isN double x
  · rw [if_pos hn]
  · rw [if_neg hn] at hx
    exact absurd hx hn
theorem narB_inj {a b : Nat} (ha : a < 2 ^ 64) (hb : b < 2 ^ 64) (h1 : (narB (canonB a)).2 = true) (h2 : (narB (canonB b)).2 = true) : decide ((narB (canonB a)).1 = (narB (canonB b)).1) = decide (canonB a = canonB b) := by
  by_cases h : canonB a = canonB b
  · rw [decide_eq_true h, h, decide_eq_true rfl]
  · rw [decide_eq_false h]
    refine decide_eq_false fun e => h ?_
    have sp : ∀ x, x < 2 ^ 64 → (narB x).2 = true → (isN double x ∧ (narB x).1 = 2143289344) ∨ (wide (narB x).1 = x ∧ ¬ isN single (narB x).1) := by
      intro x hx h
      unfold narB at h ⊢
      by_cases hn : isN double x
      · rw [if_pos hn]; exact .inl ⟨hn, rfl⟩
      · rw [if_neg hn] at h ⊢
        cases e : nar x with
        | none => rw [e] at h; cases h
        | some g =>
          obtain ⟨q1, q2, _⟩ := nar_some_wide hx e
          exact .inr ⟨q1, q2⟩
    rcases sp _ (canonB_lt ha) h1 with ⟨n1, e1⟩ | ⟨e1, n1⟩
    · rcases sp _ (canonB_lt hb) h2 with ⟨n2, e2⟩ | ⟨e2, n2⟩
      · rw [canon_nan n1, canon_nan n2]
      · rw [← e, e1] at n2
        exact absurd nan_single n2
    · rcases sp _ (canonB_lt hb) h2 with ⟨n2, e2⟩ | ⟨e2, n2⟩
      · rw [e, e2] at n1
        exact absurd nan_single n1
      · rw [← e1, ← e2, e]

set_option maxHeartbeats 2000000 in
theorem tells_walk (w : World) (a b : Nat) (ha : a < 2 ^ 64) (hb : b < 2 ^ 64) (hv : Vars w) (hP : Pow w) :
    Calls Tryz.prog 8 #[.int .u64 a, .int .u64 b] w fun e w' => e = .returned (.bool true) ∧ Below w.heap.size w w' := by
  have hW := wakes_any w hv
  have N1 : Hid (∀ w, Calls Tryz.prog 24 #[.float .f64 (canonB a)] w fun e w' => e = .returned (.tuple #[.int .u32 ((narB (canonB a)).1 : Nat), .bool (narB (canonB a)).2]) ∧ Below w.heap.size w w') := fun w => narrow_any w _ (canonB_lt ha)
  have N2 : Hid (∀ w, Calls Tryz.prog 24 #[.float .f64 (canonB b)] w fun e w' => e = .returned (.tuple #[.int .u32 ((narB (canonB b)).1 : Nat), .bool (narB (canonB b)).2]) ∧ Below w.heap.size w w') := fun w => narrow_any w _ (canonB_lt hb)
  have T1 : Hid (∀ w, Vars w → Pow w → Calls Tryz.prog 22 #[.float .f64 (canonB a)] w fun e w' => e = .returned (.string ⟨(textB (canonB a)).toArray⟩) ∧ Below w.heap.size w w') := fun w h1 h2 => text_any w _ (canonB_lt ha) h1 h2
  have T2 : Hid (∀ w, Vars w → Pow w → Calls Tryz.prog 22 #[.float .f64 (canonB b)] w fun e w' => e = .returned (.string ⟨(textB (canonB b)).toArray⟩) ∧ Below w.heap.size w w') := fun w h1 h2 => text_any w _ (canonB_lt hb) h1 h2
  have C1 : Hid (∀ w, Calls Tryz.prog 14 #[.float .f64 a] w fun e w' => e = .returned (.float .f64 (canonB a)) ∧ w' = w) := fun w => canon_any w a
  have C2 : Hid (∀ w, Calls Tryz.prog 14 #[.float .f64 b] w fun e w' => e = .returned (.float .f64 (canonB b)) ∧ w' = w) := fun w => canon_any w b
  have S1 : Hid (∀ w, Calls Tryz.prog 13 #[.float .f64 (canonB a), .float .f64 (canonB b)] w fun e w' => e = .returned (.bool (decide (canonB a = canonB b))) ∧ w' = w) := fun w => rsame_any w _ _
  have HTb : (({ data := (textB (canonB a)).toArray } : ByteArray).toList == ({ data := (textB (canonB b)).toArray } : ByteArray).toList) = decide (canonB a = canonB b) := by
    rw [Go.ByteArray.toList_mk, Go.ByteArray.toList_mk, ← canon_texts ha hb]
    generalize textB (canonB a) = l1
    generalize textB (canonB b) = l2
    by_cases h : l1 = l2
    · simp [h]
    · rw [decide_eq_false h]
      exact beq_eq_false_iff_ne.2 h
  have HN := narB_inj ha hb
  have HV : Hid (Vars w ∧ Pow w) := ⟨hv, hP⟩
  generalize ({ data := (textB (canonB a)).toArray } : ByteArray) = t1 at *
  generalize ({ data := (textB (canonB b)).toArray } : ByteArray) = t2 at *
  generalize narB (canonB a) = na at *
  generalize narB (canonB b) = nb at *
  obtain ⟨p1, q1⟩ := na
  obtain ⟨p2, q2⟩ := nb
  dsimp only at N1 N2 HN
  generalize decide (canonB a = canonB b) = d at *
  generalize canonB a = x at *
  generalize canonB b = y at *
  clear ha hb hv hP
  have HNh : Hid (q1 = true → q2 = true → (((p1 : Int) == (p2 : Int)) == d) = true) := fun h1 h2 => by
    have h := HN h1 h2
    rw [← h]
    by_cases e : p1 = p2
    · simp [e]
    · have : ¬ ((p1 : Int) = (p2 : Int)) := by omega
      simp [e]
      exact this
  clear HN
  go_enter Tryz.func8, Tryz.ntmps8
  go_wp2_with fail
  refine hW.mono ?_
  rintro e w1 ⟨rfl, hb1⟩
  clear hW
  have hs1 := hb1.size
  go_wp2_with fail
  refine (rfrom_any w1 a).mono ?_
  rintro e w2 ⟨rfl, rfl⟩
  go_wp2_with fail
  refine Calls.mono (C1.out w2) ?_
  rintro e w3 ⟨rfl, rfl⟩
  go_wp2_with fail
  refine (rfrom_any w3 b).mono ?_
  rintro e w4 ⟨rfl, rfl⟩
  go_wp2_with fail
  refine Calls.mono (C2.out w4) ?_
  rintro e w5 ⟨rfl, rfl⟩
  go_wp2_with fail
  refine Calls.mono (S1.out w5) ?_
  rintro e w6 ⟨rfl, rfl⟩
  go_wp2_with fail
  refine Calls.mono (N1.out w6) ?_
  rintro e w7 ⟨rfl, hb7⟩
  have b7 := hb1.trans (hb7.mono hs1)
  have hs7 := b7.size
  clear hb7 hb1
  go_wp2_with fail
  refine Calls.mono (N2.out w7) ?_
  rintro e w8 ⟨rfl, hb8⟩
  have b8 := b7.trans (hb8.mono hs7)
  have hs8 := b8.size
  clear hb8 b7
  go_wp2_with fail
  refine Calls.mono (T1.out w8 (HV.out.1.on b8) (HV.out.2.on b8)) ?_
  rintro e w9 ⟨rfl, hb9⟩
  have b9 := b8.trans (hb9.mono hs8)
  have hs9 := b9.size
  clear hb9 b8
  go_wp2_with fail
  refine Calls.mono (T2.out w9 (HV.out.1.on b9) (HV.out.2.on b9)) ?_
  rintro e w10 ⟨rfl, hb10⟩
  have b10 := b9.trans (hb10.mono hs9)
  clear hb10 b9 T1 T2 N1 N2 C1 C2 S1 HV
  go_wp2
  · go_ret
    rename_i k1 k2
    exact ⟨ret_b (HNh.out k1 k2), b10⟩
  · go_ret
    exact ⟨rfl, b10⟩
  · go_ret
    exact ⟨rfl, b10⟩
end Go.Proofs.YtklgemnmihpkcaaGreatDoor
