
/- The document's lines. Conditions: those that each row states. -/
import Derived.Test.YtfdbekfbbihdgaaDoorHh
import Derived.Test.YtfdbekfbbihdgaaDoorRz
namespace Go.Proofs.YtfdbekfbbihdgaaDoor
open Go.RowKit Go.Lib
set_option maxRecDepth 100000
set_option linter.unusedSimpArgs false

/-- A piece of a text. -/
def pcs (s : Bs) (a b : Nat) : Bs := (s.drop a).take (b - a)
theorem pcs_nil (s : Bs) (a : Nat) : pcs s a a = [] := by simp [pcs]
theorem pcs_len {s : Bs} {a b : Nat} (h : a ≤ b) (hb : b ≤ s.length) : (pcs s a b).length = b - a := by
  unfold pcs
  rw [List.length_take, List.length_drop]; omega
theorem pcs_snoc {s : Bs} {a b : Nat} (h : a ≤ b) (hb : b < s.length) : pcs s a (b + 1) = pcs s a b ++ [s.getD b 0] := by
  unfold pcs
  rw [show b + 1 - a = (b - a) + 1 by omega, List.take_succ_eq_append_getElem (by rw [List.length_drop]; omega), List.getElem_drop]
  have e : a + (b - a) = b := by omega
  simp only [e, List.getD_eq_getElem?_getD, List.getElem?_eq_getElem hb, Option.getD_some]
theorem trim_one13 {s : Bs} {a b : Nat} (h : a ≤ b) (hb : b < s.length) (h13 : s.getD b 0 = 13) : trimR (pcs s a (b + 1)) = pcs s a b := by
  rw [pcs_snoc h hb, h13]
  unfold trimR
  simp
theorem trim_other {s : Bs} {a b : Nat} (h : a ≤ b) (hb : b < s.length) (h13 : s.getD b 0 ≠ 13) : trimR (pcs s a (b + 1)) = pcs s a (b + 1) := by
  rw [pcs_snoc h hb]
  unfold trimR
  rw [if_neg]
  simpa using h13
theorem slice_pcs (s : Bs) (a b : Nat) (h : a < b) (hb : b ≤ s.length) (wx : World) : (Instr.slice 9 (str s) (some (.int .i64 (a : Int))) (some (.int .i64 (b : Int))) none).run Tryd.prog wx = .ok (str (pcs s a b)) wx := by
  have := run_slice_string (P := Tryd.prog) (w := wx) 9 ⟨s.toArray⟩ .i64 .i64 (a : Int) (b : Int) Tryd.underlying9 (by omega) (by omega) (by show (b : Int) ≤ (s.length : Int); omega)
  rw [show str s = .string ⟨s.toArray⟩ from rfl, this, Int.toNat_natCast, Int.toNat_natCast, ext_str]
  rfl
def LinP (w w' : World) (s : Bs) (e : Ending) : Prop :=
  (∃ (L : List Bs) (n : Nat) (v : Value), headA [] [] s = some (L, s.drop n) ∧ 1 ≤ n ∧ n ≤ s.length ∧ e = .returned (.tuple #[v, .int .i64 n]) ∧ OwnL w' w.heap.size v L ∧ L.length ≤ s.length) ∨ (headA [] [] s = none ∧ e = .returned (.tuple #[.slice none 0 0, .int .i64 (-1)]))
set_option maxHeartbeats 4000000 in
theorem rlines_any (w : World) (s : Bs) (hl : s.length ≤ 100000000) : Calls Tryd.prog 27 #[str s] w fun e w' => LinP w w' s e ∧ Below w.heap.size w w' := by
  obtain ⟨A, hA⟩ : ∃ A, Hid (headA [] [] s = A) := ⟨_, (rfl : headA [] [] s = _)⟩
  go_enter Tryd.func27, Tryd.ntmps27
  go_wp2_with fail
  go_loopw [4, 5, 6] (fun u f i wr => ∃ (a j : Nat) (out : List Bs), a ≤ j ∧ j ≤ s.length ∧ i = .int .i64 j ∧ f = .int .i64 a ∧ OwnL wr w.heap.size u out ∧ Below w.heap.size w wr ∧ out.length ≤ j ∧ Hid (A = headA out (pcs s a j) (s.drop j))) (fun _ _ i _ => s.length - (RowKit.intOf i).toNat)
  case atStart => exact ⟨0, 0, [], Nat.le_refl _, Nat.zero_le _, rfl, rfl, OwnL.nil _ _, Below.refl _ _, Nat.zero_le _, by show A = _; rw [← hA.out, pcs_nil]; rfl⟩
  case round =>
    obtain ⟨a, j, out, haj, hj, rfl, rfl, ho, hbr, hol, HB⟩ := hrel
    have hwr := hbr.size
    by_cases hlt : j < s.length
    · have gk := get_str s j
      have hjz : (j : Int) < (s.length : Int) := by omega
      have hgj : s.getD j 0 = s[j] := by simp [List.getD_eq_getElem?_getD, hlt]
      have HS : Hid (A = if s.getD j 0 = 10 then (if trimR (pcs s a j) = [] then some (out, s.drop (j + 1)) else headA (out ++ [trimR (pcs s a j)]) [] (s.drop (j + 1))) else headA out (pcs s a j ++ [s.getD j 0]) (s.drop (j + 1))) := by
        show A = _
        rw [HB.out, List.drop_eq_getElem_cons hlt, headA_cons, hgj]
      by_cases h10 : s.getD j 0 = 10
      · have HS2 : Hid (A = if trimR (pcs s a j) = [] then some (out, s.drop (j + 1)) else headA (out ++ [trimR (pcs s a j)]) [] (s.drop (j + 1))) := by show A = _; rw [HS.out, if_pos h10]
        rw [h10] at gk
        clear hgj h10 HS HB
        rcases Nat.eq_or_lt_of_le haj with rfl | hlt3
        · have HR : Hid (headA [] [] s = some (out, s.drop (a + 1))) := by
            show _ = _
            rw [hA.out, HS2.out, pcs_nil]; rfl
          have q0 : decide ((a : Int) < (a : Int)) = false := by simp
          clear hA HS2
          go_wp2
          go_ret2
          exact ⟨.inl ⟨out, a + 1, _, HR.out, by omega, by omega, rfl, ho, by omega⟩, hbr⟩
        · obtain ⟨k, rfl⟩ : ∃ k, j = k + 1 := ⟨j - 1, by omega⟩
          have gk2 := get_str s k
          have q0 : decide ((a : Int) < ((k + 1 : Nat) : Int)) = true := decide_eq_true (by omega)
          have q1 : (a : Int) < (k : Int) + 1 := by omega
          have q3 : ((k : Int) + 1 - 1) = (k : Int) := by omega
          have hks : k < s.length := by omega
          have hkz : (k : Int) < (s.length : Int) := by omega
          have hak : a ≤ k := by omega
          by_cases h13 : s.getD k 0 = 13
          · have ht := trim_one13 hak hks h13
            rw [h13] at gk2
            clear h13
            rcases Nat.eq_or_lt_of_le hak with rfl | hlt4
            · have HR : Hid (headA [] [] s = some (out, s.drop (a + 1 + 1))) := by
                show _ = _
                rw [hA.out, HS2.out, ht, pcs_nil]; rfl
              clear hA HS2 ht
              go_wp2
              go_ret2
              exact ⟨.inl ⟨out, a + 1 + 1, _, HR.out, by omega, by omega, rfl, ho, by omega⟩, hbr⟩
            · have hne : ¬ pcs s a k = [] := fun h => by have := pcs_len (s := s) hak (by omega); rw [h] at this; simp at this; omega
              have HS3 : Hid (A = headA (out ++ [pcs s a k]) [] (s.drop (k + 1 + 1))) := by show A = _; rw [HS2.out, ht, if_neg hne]
              have hsl := slice_pcs s a k hlt4 (by omega)
              have q4 : ((k : Int) == (a : Int)) = false := by rw [beq_eq_false_iff_ne]; omega
              have q5 : (a : Int) ≤ (k : Int) := by omega
              clear HS2 ht hne
              generalize pcs s a k = p at *
              go_wp2_with (at_builtin; refine wpList_plain rfl fun K hK => ?_; refine appL1 (.tmp 37) (.tmp 42) rfl w.heap.size _ out p wr rfl ho rfl (by omega) hwr ?_; intro v1 w1 ho1 b1; refine hK _ _ ?_)
              have hb1 := hbr.trans b1
              go_roundw
              case rel => exact ⟨k + 1 + 1, k + 1 + 1, out ++ [p], Nat.le_refl _, by omega, by go_num, by go_num, ho1, hb1, by simp only [List.length_append, List.length_cons, List.length_nil]; omega, by rw [pcs_nil]; exact HS3⟩
              case measure => simp [RowKit.intOf]; omega
          · have ht := trim_other hak hks h13
            have n13 : (((s.getD k 0).toNat : Int) == 13) = false := by
              rw [beq_eq_false_iff_ne]; intro e; exact h13 (UInt8.toNat.inj (show (s.getD k 0).toNat = 13 by omega))
            have hne : ¬ pcs s a (k + 1) = [] := fun h => by have := pcs_len (s := s) haj (by omega); rw [h] at this; simp at this; omega
            have HS3 : Hid (A = headA (out ++ [pcs s a (k + 1)]) [] (s.drop (k + 1 + 1))) := by show A = _; rw [HS2.out, ht, if_neg hne]
            have hsl : ∀ wx, (Instr.slice 9 (str s) (some (.int .i64 (a : Int))) (some (.int .i64 ((k : Int) + 1))) none).run Tryd.prog wx = .ok (str (pcs s a (k + 1))) wx := slice_pcs s a (k + 1) (by omega) (by omega)
            have q4 : ((k : Int) + 1 == (a : Int)) = false := by rw [beq_eq_false_iff_ne]; omega
            have q5 : (a : Int) ≤ (k : Int) + 1 := by omega
            clear HS2 ht hne h13
            generalize s.getD k 0 = y at *
            generalize pcs s a (k + 1) = p at *
            go_wp2_with (at_builtin; refine wpList_plain rfl fun K hK => ?_; refine appL1 (.tmp 37) (.tmp 42) rfl w.heap.size _ out p wr rfl ho rfl (by omega) hwr ?_; intro v1 w1 ho1 b1; refine hK _ _ ?_)
            have hb1 := hbr.trans b1
            go_roundw
            case rel => exact ⟨k + 1 + 1, k + 1 + 1, out ++ [p], Nat.le_refl _, by omega, by go_num, by go_num, ho1, hb1, by simp only [List.length_append, List.length_cons, List.length_nil]; omega, by rw [pcs_nil]; exact HS3⟩
            case measure => simp [RowKit.intOf]; omega
      · have n10 : (((s.getD j 0).toNat : Int) != 10) = true := by
          unfold bne
          rw [(by rw [beq_eq_false_iff_ne]; intro e; exact h10 (UInt8.toNat.inj (show (s.getD j 0).toNat = 10 by omega)) : (((s.getD j 0).toNat : Int) == 10) = false)]
          rfl
        have HS2 : Hid (A = headA out (pcs s a (j + 1)) (s.drop (j + 1))) := by show A = _; rw [HS.out, if_neg h10, pcs_snoc haj hlt]
        clear hgj h10 HS HB
        generalize s.getD j 0 = y at *
        go_wp2
        all_goals
          go_roundw
          case rel => exact ⟨a, j + 1, out, by omega, by omega, by go_num, rfl, ho, hbr, by omega, HS2⟩
          case measure => simp [RowKit.intOf]; omega
    · obtain rfl : j = s.length := by omega
      have HR : Hid (headA [] [] s = none) := by
        show _ = _
        rw [hA.out, HB.out, List.drop_length]; rfl
      clear hA HB
      go_wp2
      go_ret2
      exact ⟨.inr ⟨HR.out, rfl⟩, hbr⟩
end Go.Proofs.YtfdbekfbbihdgaaDoor
