
/- What unmarked answers of a text. Conditions: those that each row states. -/
import Derived.Test.YtfdbekfbbihdgaaDoorSc
namespace Go.Proofs.YtfdbekfbbihdgaaDoor
open Go.RowKit Go.Lib
set_option maxRecDepth 100000
set_option linter.unusedSimpArgs false

theorem unm_ne {c : UInt8} (h : c ≠ 92) : ∀ r : Bs, unm (c :: r) = (unm r).map (c :: ·)
  | [] => by simp [unm, h]
  | d :: s => by rw [unm, if_neg h]
theorem unm_bs (d : UInt8) (s : Bs) : unm (92 :: d :: s) = (letter d).bind fun x => (unm s).map (x :: ·) := by rw [unm, if_pos rfl]
/-- Behind what has been read. -/
abbrev upon (out : Bs) (o : Option Bs) : Option Bs := o.map (out ++ ·)
theorem upon_snoc (out : Bs) (x : UInt8) (o : Option Bs) : upon out (o.map (x :: ·)) = upon (out ++ [x]) o := by
  cases o <;> simp [upon]
theorem unm_step {s : Bs} {j : Nat} {out : Bs} (h : j < s.length) (h2 : unm s = upon out (unm (s.drop j))) (hc : s.getD j 0 ≠ 92) : unm s = upon (out ++ [s.getD j 0]) (unm (s.drop (j + 1))) := by
  have e : s.drop j = s.getD j 0 :: s.drop (j + 1) := by rw [List.drop_eq_getElem_cons h]; simp [List.getD_eq_getElem?_getD, h]
  rw [h2, e, unm_ne hc, upon_snoc]
theorem unm_end {s : Bs} {j : Nat} {out : Bs} (h : j < s.length) (h1 : ¬ j + 1 < s.length) (h2 : unm s = upon out (unm (s.drop j))) (hc : s.getD j 0 = 92) : unm s = none := by
  have e : s.drop j = [92] := by rw [List.drop_eq_getElem_cons h, List.drop_eq_nil_of_le (by omega), ← hc]; simp [List.getD_eq_getElem?_getD, h]
  rw [h2, e]; rfl
theorem unm_two {s : Bs} {j : Nat} {out : Bs} (h : j + 1 < s.length) (h2 : unm s = upon out (unm (s.drop j))) (hc : s.getD j 0 = 92) : unm s = (letter (s.getD (j + 1) 0)).bind fun x => upon (out ++ [x]) (unm (s.drop (j + 2))) := by
  have e : s.drop j = 92 :: s.getD (j + 1) 0 :: s.drop (j + 2) := by
    rw [List.drop_eq_getElem_cons (by omega), List.drop_eq_getElem_cons h, ← hc]
    simp [List.getD_eq_getElem?_getD, h, show j < s.length by omega]
  rw [h2, e, unm_bs]
  cases letter (s.getD (j + 1) 0) with
  | none => rfl
  | some x => exact upon_snoc _ _ _
/-- A letter, its place, and the byte that it writes. -/
theorem letters (d : UInt8) : (d = 92 ∧ letter d = some 92) ∨ (d = 114 ∧ letter d = some 13) ∨ (d = 110 ∧ letter d = some 10) ∨ (d = 99 ∧ letter d = some 58) ∨ (letter d = none ∧ cutN d [92, 114, 110, 99] = none) := by
  by_cases h1 : d = 92
  · exact .inl ⟨h1, by rw [h1]; rfl⟩
  by_cases h2 : d = 114
  · exact .inr (.inl ⟨h2, by rw [h2]; rfl⟩)
  by_cases h3 : d = 110
  · exact .inr (.inr (.inl ⟨h3, by rw [h3]; rfl⟩))
  by_cases h4 : d = 99
  · exact .inr (.inr (.inr (.inl ⟨h4, by rw [h4]; rfl⟩)))
  refine .inr (.inr (.inr (.inr ⟨by simp [letter, h1, h2, h3, h4], ?_⟩)))
  rw [cutN_none]
  simp [h1, h2, h3, h4]
set_option maxHeartbeats 4000000 in
theorem unm_any (w : World) (s : Bs) (hl : s.length ≤ 1000000000) : Calls Tryd.prog 55 #[str s] w fun e w' => Below w.heap.size w w' ∧ ((∃ t, unm s = some t ∧ e = .returned (str t)) ∨ (unm s = none ∧ e = .panicked (gup 40))) := by
  obtain ⟨C, hmk, hown⟩ := make0 w (s.length : Int) (by omega) (by omega)
  have hb0 := below_new w (.cells C 5)
  have ho := hown w.heap.size (Nat.le_refl _)
  have IB : Hid (∀ (w : World) (d : UInt8), letter d = none → Calls Tryd.prog 34 #[str [92, 114, 110, 99], .int .u8 d.toNat] w fun e w' => e = .returned (.int .i64 (-1)) ∧ w' = w) := fun w d h => by
    refine (ib_any w [92, 114, 110, 99] d).mono fun e w' ⟨h1, h2⟩ => ⟨?_, h2⟩
    rw [h1]
    have : cutN d [92, 114, 110, 99] = none := by
      rcases letters d with ⟨_, h3⟩ | ⟨_, h3⟩ | ⟨_, h3⟩ | ⟨_, h3⟩ | ⟨_, h3⟩
      · rw [h] at h3; cases h3
      · rw [h] at h3; cases h3
      · rw [h] at h3; cases h3
      · rw [h] at h3; cases h3
      · exact h3
    rw [this]
  have I0 : Hid (∀ (w : World), Calls Tryd.prog 34 #[str [92, 114, 110, 99], .int .u8 92] w fun e w' => e = .returned (.int .i64 0) ∧ w' = w) := fun w => ib_any w [92, 114, 110, 99] 92
  have I1 : Hid (∀ (w : World), Calls Tryd.prog 34 #[str [92, 114, 110, 99], .int .u8 114] w fun e w' => e = .returned (.int .i64 1) ∧ w' = w) := fun w => ib_any w [92, 114, 110, 99] 114
  have I2 : Hid (∀ (w : World), Calls Tryd.prog 34 #[str [92, 114, 110, 99], .int .u8 110] w fun e w' => e = .returned (.int .i64 2) ∧ w' = w) := fun w => ib_any w [92, 114, 110, 99] 110
  have I3 : Hid (∀ (w : World), Calls Tryd.prog 34 #[str [92, 114, 110, 99], .int .u8 99] w fun e w' => e = .returned (.int .i64 3) ∧ w' = w) := fun w => ib_any w [92, 114, 110, 99] 99
  have hgup : ∃ g, gup 40 = g := ⟨_, rfl⟩
  obtain ⟨g, hg⟩ := hgup
  have IN : Hid (∀ (w : World), Calls Tryd.prog 45 #[.bool false, .int .i64 40] w fun e w' => e = .panicked g ∧ w' = w) := fun w => by rw [← hg]; exact insist_no w 40
  rw [hg]
  clear hg
  clear hown
  go_enter Tryd.func55, Tryd.ntmps55
  go_wp2_with fail
  go_loopw [3, 4] (fun v i wr => ∃ (j : Nat) (out : Bs), j ≤ s.length ∧ out.length ≤ j ∧ i = .int .i64 j ∧ Own wr w.heap.size v out ∧ Below w.heap.size w wr ∧ Hid (unm s = upon out (unm (s.drop j)))) (fun _ i _ => s.length - (RowKit.intOf i).toNat)
  case atStart => exact ⟨0, [], Nat.zero_le _, Nat.le_refl _, rfl, ho, hb0, by show _ = _; simp [upon]⟩
  case round =>
    clear ho hb0 hmk
    obtain ⟨j, out, hj, hoj, rfl, ho, hbr, hU⟩ := hrel
    have hwr := hbr.size
    by_cases hlt : j < s.length
    · have gj := get_str s j
      have hjz : (j : Int) < (s.length : Int) := by omega
      have HS : Hid (s.getD j 0 ≠ 92 → unm s = upon (out ++ [s.getD j 0]) (unm (s.drop (j + 1)))) := unm_step hlt hU.out
      have HE : Hid (¬ j + 1 < s.length → s.getD j 0 = 92 → unm s = none) := fun h => unm_end hlt h hU.out
      have HT : Hid (j + 1 < s.length → s.getD j 0 = 92 → unm s = (letter (s.getD (j + 1) 0)).bind fun x => upon (out ++ [x]) (unm (s.drop (j + 2)))) := fun h => unm_two h hU.out
      have gj1 : Hid (∀ (h : j + 1 < (⟨s.toArray⟩ : ByteArray).size), (⟨s.toArray⟩ : ByteArray)[j + 1] = s.getD (j + 1) 0) := fun h => get_str s (j + 1) h
      clear hU
      generalize s.getD j 0 = c at *
      by_cases hc : c = 92
      · subst hc
        by_cases h1 : j + 1 < s.length
        · have hj1z : (j : Int) + 1 < (s.length : Int) := by omega
          have HT2 := HT.out h1 rfl
          have gj2 := gj1.out h1
          generalize s.getD (j + 1) 0 = d at *
          rcases letters d with ⟨rfl, h3⟩ | ⟨rfl, h3⟩ | ⟨rfl, h3⟩ | ⟨rfl, h3⟩ | ⟨h3, _⟩
          all_goals rw [h3] at HT2
          · go_wp2_with (first | (go_at_call 45; refine (insist_ok _ _).mono ?_; rintro e w' ⟨rfl, rfl⟩) | (go_at_call 34; refine (I0.out _).mono ?_; rintro e w' ⟨rfl, rfl⟩) | (at_builtin; refine app1 rfl (.tmp 37) (.tmp 39) rfl w.heap.size _ out _ 92 _ (by rfl) rfl ho rfl (by omega) (by assumption) ?_))
            intro v3 w3 ho3 hb3
            have b3 := hbr.trans hb3
            have HT3 : Hid (unm s = upon (out ++ [92]) (unm (s.drop (j + 2)))) := HT2
            clear ho hbr hb3 HT2 HT HE HS gj1 gj2
            go_wp2
            go_roundw
            case rel => exact ⟨j + 2, _, by omega, by simp; omega, by go_num, ho3, b3, HT3⟩
            case measure => simp [RowKit.intOf]; omega
          · go_wp2_with (first | (go_at_call 45; refine (insist_ok _ _).mono ?_; rintro e w' ⟨rfl, rfl⟩) | (go_at_call 34; refine (I1.out _).mono ?_; rintro e w' ⟨rfl, rfl⟩) | (at_builtin; refine app1 rfl (.tmp 37) (.tmp 39) rfl w.heap.size _ out _ 13 _ (by rfl) rfl ho rfl (by omega) (by assumption) ?_))
            intro v3 w3 ho3 hb3
            have b3 := hbr.trans hb3
            have HT3 : Hid (unm s = upon (out ++ [13]) (unm (s.drop (j + 2)))) := HT2
            clear ho hbr hb3 HT2 HT HE HS gj1 gj2
            go_wp2
            go_roundw
            case rel => exact ⟨j + 2, _, by omega, by simp; omega, by go_num, ho3, b3, HT3⟩
            case measure => simp [RowKit.intOf]; omega
          · go_wp2_with (first | (go_at_call 45; refine (insist_ok _ _).mono ?_; rintro e w' ⟨rfl, rfl⟩) | (go_at_call 34; refine (I2.out _).mono ?_; rintro e w' ⟨rfl, rfl⟩) | (at_builtin; refine app1 rfl (.tmp 37) (.tmp 39) rfl w.heap.size _ out _ 10 _ (by rfl) rfl ho rfl (by omega) (by assumption) ?_))
            intro v3 w3 ho3 hb3
            have b3 := hbr.trans hb3
            have HT3 : Hid (unm s = upon (out ++ [10]) (unm (s.drop (j + 2)))) := HT2
            clear ho hbr hb3 HT2 HT HE HS gj1 gj2
            go_wp2
            go_roundw
            case rel => exact ⟨j + 2, _, by omega, by simp; omega, by go_num, ho3, b3, HT3⟩
            case measure => simp [RowKit.intOf]; omega
          · go_wp2_with (first | (go_at_call 45; refine (insist_ok _ _).mono ?_; rintro e w' ⟨rfl, rfl⟩) | (go_at_call 34; refine (I3.out _).mono ?_; rintro e w' ⟨rfl, rfl⟩) | (at_builtin; refine app1 rfl (.tmp 37) (.tmp 39) rfl w.heap.size _ out _ 58 _ (by rfl) rfl ho rfl (by omega) (by assumption) ?_))
            intro v3 w3 ho3 hb3
            have b3 := hbr.trans hb3
            have HT3 : Hid (unm s = upon (out ++ [58]) (unm (s.drop (j + 2)))) := HT2
            clear ho hbr hb3 HT2 HT HE HS gj1 gj2
            go_wp2
            go_roundw
            case rel => exact ⟨j + 2, _, by omega, by simp; omega, by go_num, ho3, b3, HT3⟩
            case measure => simp [RowKit.intOf]; omega
          · have IBd := fun w => IB.out w d h3
            go_wp2_with fail
            refine (insist_ok _ _).mono ?_
            rintro e w' ⟨rfl, rfl⟩
            go_wp2_with (go_at_call 34; refine (IBd _).mono ?_; rintro e w' ⟨rfl, rfl⟩)
            refine (IN.out _).mono ?_
            rintro e w' ⟨rfl, rfl⟩
            exact ⟨rfl, hbr, .inr ⟨HT2, rfl⟩⟩
        · have hj1z : decide ((j : Int) + 1 < (s.length : Int)) = false := by simp; omega
          have HE2 := HE.out h1 rfl
          go_wp2_with fail
          refine (IN.out _).mono ?_
          rintro e w' ⟨rfl, rfl⟩
          exact ⟨rfl, hbr, .inr ⟨HE2, rfl⟩⟩
      · have hcz : ((c.toNat : Int) == 92) = false := by
          rw [beq_eq_false_iff_ne]
          intro h
          exact hc (byte_eq_of_toNat h)
        have HS2 := HS.out hc
        clear HS HE HT gj1
        go_wp2_with (at_builtin; refine app1 rfl (.tmp 37) (.tmp 39) rfl w.heap.size _ out _ c _ (by rfl) rfl ho rfl (by omega) (by assumption) ?_)
        intro v3 w3 ho3 hb3
        have b3 := hbr.trans hb3
        clear ho hbr hb3
        go_wp2
        go_roundw
        case rel => exact ⟨j + 1, _, by omega, by simp; omega, by go_num, ho3, b3, HS2⟩
        case measure => simp [RowKit.intOf]; omega
    · obtain rfl : j = s.length := by omega
      have hcv := conv_any ho.rd
      have hu : unm s = some out := by rw [hU.out, List.drop_length]; simp [upon, unm]
      go_wp2
      go_ret
      exact ⟨hbr, .inl ⟨_, hu, rfl⟩⟩
end Go.Proofs.YtfdbekfbbihdgaaDoor
