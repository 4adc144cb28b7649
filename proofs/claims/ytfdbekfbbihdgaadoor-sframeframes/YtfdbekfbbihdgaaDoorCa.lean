
/- strings.IndexRune of a rune that is no byte, in a few bytes below 128: none. Conditions: those that each row states. -/
import Derived.Test.YtfdbekfbbihdgaaDoorSc
import Derived.Test.YtfdbekfbbihdgaaDoorShe2
import Derived.Laws.Runes
import Derived.Laws.RangeAny
namespace Go.Proofs.YtfdbekfbbihdgaaDoor
open Go.RowKit Go.Lib
set_option maxRecDepth 100000
set_option linter.unusedSimpArgs false

theorem below_iter (w : World) (s : ByteArray) (p : Nat) : Below w.heap.size w (w.iter s p) := (Below.refl _ w).alloc (Nat.le_refl _) _
set_option maxHeartbeats 2000000 in
theorem rune_err (w : World) (s : Bs) (hs : ∀ (i : Nat), i < s.length → (s.getD i 0).toNat < 128) (_hl : s.length ≤ 3) :
    Calls Tryd.prog 60 #[str s, .int .i32 65533] w fun e w' => e = .returned (.int .i64 (-1)) ∧ Below w.heap.size w w' := by
  have HS : Hid (∀ (i : Nat), i < s.length → (s.getD i 0).toNat < 128) := hs
  clear hs
  go_enter Tryd.func60, Tryd.ntmps60
  go_wp2_with fail
  go_loopg [5, 6] s.length (fun g _ _ wx => ∃ i : Nat, i + g = s.length ∧ wx = w.iter ⟨s.toArray⟩ i)
  case atStart => exact ⟨0, by omega, rfl⟩
  case round =>
    obtain ⟨i, hig, rfl⟩ := hrel
    cases gk with
    | zero =>
      obtain rfl : i = s.length := by omega
      have hnx := run_next_end (P := Tryd.prog) w ⟨s.toArray⟩ s.length
      go_wp2
      go_ret
      exact ⟨rfl, below_iter w _ _⟩
    | succ g =>
      have hi : i < (⟨s.toArray⟩ : ByteArray).size := by show i < s.length; omega
      have hx := get_str s i hi
      have hx128 := HS.out i hi
      have hnx := fun ty => run_next_ascii (P := Tryd.prog) w ⟨s.toArray⟩ i ty hi (by rw [hx]; exact hx128)
      rw [hx] at hnx
      generalize (s.getD i 0) = x at *
      have hne : ((x.toNat : Int) == 65533) = false := by rw [beq_eq_false_iff_ne]; omega
      clear hx
      go_wp2
      go_roundg g
      case measure => omega
      case rel => exact ⟨i + 1, by omega, rfl⟩
set_option maxHeartbeats 2000000 in
theorem rune_hi (w : World) (s : Bs) (r : Int) (hs : ∀ (i : Nat), i < s.length → (s.getD i 0).toNat < 128) (hl : s.length ≤ 3) (h128 : 128 ≤ r) :
    Calls Tryd.prog 60 #[str s, .int .i32 r] w fun e w' => e = .returned (.int .i64 (-1)) ∧ Below w.heap.size w w' := by
  by_cases he : r = 65533
  · subst he; exact rune_err w s hs hl
  have heb : (r == 65533) = false := by rw [beq_eq_false_iff_ne]; exact he
  have h0 : decide (0 ≤ r) = true := decide_eq_true (by omega)
  have h1 : decide (r < 128) = false := decide_eq_false (by omega)
  have V := fun w => Tryd.utf8_ValidRune r w
  cases hv : Lib.validRune r with
  | false =>
    rw [hv] at V
    go_enter Tryd.func60, Tryd.ntmps60
    go_wp2_with (go_at_call 72; refine (V _).mono ?_; rintro e w' ⟨rfl, rfl⟩)
    go_ret
    exact ⟨rfl, Below.refl _ _⟩
  | true =>
    rw [hv] at V
    have hv2 : Utf8.valid r = true := by
      unfold Lib.validRune at hv
      unfold Utf8.valid
      simp at hv ⊢
      omega
    obtain ⟨k2, k4, kl⟩ := encode_facts r hv2 h128
    generalize hR : Utf8.encode r = R at *
    have hcv : ∀ w, (convert 21 9 (.int .i32 r)).run Tryd.prog w = .ok (.string R) w := fun w => by
      rw [← hR]; exact run_convert_int_string w 21 9 .i32 r rfl Tryd.underlying9
    obtain ⟨k, hk⟩ : ∃ k, R.size = k + 1 := ⟨R.size - 1, by omega⟩
    have kl2 : ∀ h : k < R.size, 128 ≤ (R[k]'h).toNat := fun h => by
      have := kl (by omega)
      simpa [hk] using this
    obtain ⟨y, hy⟩ : ∃ y : UInt8, ∀ h : k < R.size, R[k]'h = y := ⟨R[k]'(by omega), fun _ => rfl⟩
    have hy128 : 128 ≤ y.toNat := by rw [← hy (by omega)]; exact kl2 _
    have hRs : (R.size : Int) = (k : Int) + 1 := by omega
    clear kl kl2 hR hv hv2
    by_cases hks : k < s.length
    · have hkz : (k : Int) < (s.length : Int) := by omega
      have gk := get_str s k
      have hx128 := hs k hks
      have hne : (((s.getD k 0).toNat : Int) == (y.toNat : Int)) = false := by rw [beq_eq_false_iff_ne]; omega
      have e1 : (⟨s.toArray⟩ : ByteArray).extract (k + 1) s.length = ⟨(s.drop (k + 1)).toArray⟩ := by
        rw [ext_str, List.take_of_length_le (by rw [List.length_drop]; omega)]
      have hk1 : (k : Int) + 1 ≤ (s.length : Int) := by omega
      have hc : cutN y (s.drop (k + 1)) = none := by
        rw [cutN_none]
        intro hm
        obtain ⟨i, hi, he⟩ := List.getElem_of_mem hm
        rw [List.getElem_drop] at he
        rw [List.length_drop] at hi
        have := hs (k + 1 + i) (by omega)
        simp only [List.getD_eq_getElem?_getD, List.getElem?_eq_getElem (show k + 1 + i < s.length by omega), Option.getD_some] at this
        rw [he] at this
        omega
      have IB := fun w => ib_any w (s.drop (k + 1)) y
      rw [hc] at IB
      simp only [] at IB
      generalize s.getD k 0 = x at *
      generalize s.drop (k + 1) = s' at *
      clear hs hx128 hc
      have hw1 : IntKind.i64.wrap ((k : Int) + 1) = (k : Int) + 1 := by rw [IntKind.wrap_i64]; omega
      have hk0 : (0 : Int) ≤ (k : Int) + 1 := by omega
      have hk3 : (0 : Int) ≤ (k : Int) := by omega
      have hk4 : ((k : Int) + 1).toNat = k + 1 := by omega
      have hidx : ∀ w, (Instr.index 9 (.string R) (.int .i64 (k : Int))).run Tryd.prog w = .ok (.int .u8 (y.toNat : Int)) w := fun w => by
        rw [run_index_string w 9 R .i64 (k : Int) Tryd.underlying9, dif_pos ⟨by omega, by omega⟩]
        have := hy (by omega)
        simp only [Int.toNat_natCast, this]
      have hR1 : (k : Int) < (R.size : Int) := by omega
      have hsub : (R.size : Int) - 1 = (k : Int) := by omega
      go_enter Tryd.func60, Tryd.ntmps60
      go_wp2_with (go_at_call 72; refine (V _).mono ?_; rintro e w' ⟨rfl, rfl⟩)
      go_step3
      go_wp2_with fail
      go_loop [9, 10] (fun i f => i = .int .i64 k ∧ f = .int .i64 0) (fun _ _ => 0)
      case atStart => exact ⟨by first | rfl | (rw [hsub]), rfl⟩
      case round =>
        obtain ⟨rfl, rfl⟩ := hrel
        go_wp2_with fail
        go_step3
        go_wp2_with fail
        go_quiet (fail)
        have hb2 := below_drewN (Below.refl w'.heap.size w') nq
        generalize w'.drewN nq = w2 at *
        go_wp2_with fail
        go_quiet ((go_at_call 34; exact Calls.quiet_of_same (IB _)))
        go_wp2_with fail
        simp +zetaDelta only [Exit.noGoto, Exit.inBlock, Exit.then]
        go_ret
        exact ⟨rfl, below_drewN hb2 _⟩
    · have hkz : decide ((k : Int) < (s.length : Int)) = false := decide_eq_false (by omega)
      have hsub : (R.size : Int) - 1 = (k : Int) := by omega
      go_enter Tryd.func60, Tryd.ntmps60
      go_wp2_with (go_at_call 72; refine (V _).mono ?_; rintro e w' ⟨rfl, rfl⟩)
      go_step3
      go_wp2_with fail
      go_loop [9, 10] (fun i f => i = .int .i64 k ∧ f = .int .i64 0) (fun _ _ => 0)
      case atStart => exact ⟨by first | rfl | (rw [hsub]), rfl⟩
      case round =>
        obtain ⟨rfl, rfl⟩ := hrel
        go_wp2
        go_ret
        exact ⟨rfl, Below.refl _ _⟩
end Go.Proofs.YtfdbekfbbihdgaaDoor
