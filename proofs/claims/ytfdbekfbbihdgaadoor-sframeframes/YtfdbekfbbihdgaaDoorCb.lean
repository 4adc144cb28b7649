
/- strings.ContainsAny of any bytes and two or three bytes below 128. Conditions: those that each row states. -/
import Derived.Test.YtfdbekfbbihdgaaDoorCa
import Derived.Lib.OthersKept
namespace Go.Proofs.YtfdbekfbbihdgaaDoor
open Go.RowKit Go.Lib
set_option maxRecDepth 100000
set_option linter.unusedSimpArgs false

theorem decode_cont (s : ByteArray) (pos : Nat) (h : pos < s.size) (ha : 128 ≤ (s[pos]'h).toNat) : pos + (Utf8.decode s pos).2 ≤ s.size ∧ ∀ j, 1 ≤ j → j < (Utf8.decode s pos).2 → 128 ≤ (s.get! (pos + j)).toNat := by
  have hn : ¬ (s[pos]'h).toNat < 128 := by omega
  simp only [Utf8.decode, get_at s pos h, hn, if_false]
  repeat' split
  all_goals simp_all [Utf8.runeError]
  all_goals first
    | omega
    | (refine ⟨by omega, fun j h1 h2 => ?_⟩
       have : j = 1 ∨ j = 2 ∨ j = 3 := by omega
       rcases this with rfl | rfl | rfl <;> omega)
    | (intro j h1 h2
       omega)
/-- Whether one of some bytes stands in a text. -/
def anyL (s ch : Bs) : Bool := s.any fun c => ch.contains c
theorem any_index (ch : Bs) : ∀ s : Bs, decide (0 ≤ Lib.indexAny s ch) = anyL s ch
  | [] => rfl
  | x :: s => by
    have ih := any_index ch s
    unfold anyL at ih ⊢
    rw [List.any_cons, ← ih, Lib.indexAny]
    cases ch.contains x with
    | true => rfl
    | false =>
      simp only [Bool.false_or, Bool.false_eq_true, if_false]
      have hg := Lib.indexAny_ge ch s
      split
      · rename_i h
        rw [beq_iff_eq] at h
        rw [h]
      · rename_i h
        have h : ¬ Lib.indexAny s ch = -1 := by simpa using h
        exact decide_eq_decide.2 (by omega)
theorem get_bang (s : Bs) (i : Nat) (h : i < s.length) : (⟨s.toArray⟩ : ByteArray).get! i = s.getD i 0 := by
  rw [← get_str s i h]
  simp [ByteArray.get!, getElem!_pos, h]
  rfl
set_option maxHeartbeats 2000000 in
theorem idxany_short (w : World) (s ch : Bs) (h2 : 2 ≤ ch.length) (h3 : ch.length ≤ 3) (hc : ∀ (i : Nat), i < ch.length → (ch.getD i 0).toNat < 128) (h8 : s.length ≤ 8) :
    Calls Tryd.prog 51 #[str s, str ch] w fun e w' => e = .returned (.int .i64 (Lib.indexAny s ch)) ∧ Below w.heap.size w w' := by
  have hemp : (ch == []) = false := by
    cases ch with
    | nil => simp at h2
    | cons _ _ => rfl
  have hn1 : ((ch.length : Int) == 1) = false := beq_eq_false_iff_ne.2 (by omega)
  have h8z : decide ((8 : Int) < (s.length : Int)) = false := decide_eq_false (by omega)
  have HR : Hid (∀ (w : World) (r : Int), 128 ≤ r → Calls Tryd.prog 60 #[str ch, .int .i32 r] w fun e w' => e = .returned (.int .i64 (-1)) ∧ Below w.heap.size w w') := fun w r hr => rune_hi w ch r hc h3 hr
  have HN0 : Hid (∀ i, Lib.NoAny s ch i → i = s.length → Lib.indexAny s ch = -1) := fun i h e => Lib.indexAny_none (by subst e; exact h)
  go_enter Tryd.func51, Tryd.ntmps51
  go_wp2
  go_loopg [9, 10] s.length (fun g _ _ wx => ∃ i : Nat, wx.heap[w.heap.size]? = some (.stringIter ⟨s.toArray⟩ i) ∧ Below w.heap.size w wx ∧ Hid (Lib.NoAny s ch i) ∧ s.length ≤ i + g ∧ i ≤ s.length)
  case atStart => exact ⟨0, World.iter_heap w _ 0, (Below.refl _ w).alloc (Nat.le_refl _) _, Lib.NoAny.zero _ _, by omega, by omega⟩
  case round =>
    obtain ⟨i, hit, hbw, hno, hfu, hile⟩ := hrel
    by_cases hps : i < s.length
    · obtain ⟨g', rfl⟩ : ∃ g', gk = g' + 1 := ⟨gk - 1, by omega⟩
      have hi : i < (⟨s.toArray⟩ : ByteArray).size := hps
      have hx := get_str s i hi
      have hxl : s[i]? = some (s.getD i 0) := by simp [List.getD_eq_getElem?_getD, List.getElem?_eq_getElem hps]
      by_cases hx128 : (s.getD i 0).toNat < 128
      · have hnx : ∀ ty, (Instr.next (.pointer (some ⟨w.heap.size, 0, none⟩)) true ty).run Tryd.prog wr = _ := fun ty => Lib.run_next_ascii_at wr w.heap.size ⟨s.toArray⟩ i ty hit hi (by rw [hx]; exact hx128)
        rw [hx] at hnx
        have hit2 := Lib.iterAt_heap wr w.heap.size ⟨s.toArray⟩ i (i + 1) hit
        have hbw2 := Lib.below_iterAt hbw (k := w.heap.size) (Nat.le_refl _) ⟨s.toArray⟩ (i + 1)
        generalize wr.iterAt w.heap.size ⟨s.toArray⟩ (i + 1) = W at *
        have Hs : Hid (ch.contains (s.getD i 0) = false → Lib.NoAny s ch (i + 1)) := fun h => hno.out.succ hxl h
        have Hh : Hid (ch.contains (s.getD i 0) = true → Lib.indexAny s ch = i) := fun h => Lib.indexAny_hit hno.out hxl h
        have hcon := Lib.contains_iff_indexByte ch (s.getD i 0)
        have IR := fun w => Tryd.strings_IndexRune_ascii ⟨ch.toArray⟩ ((s.getD i 0).toNat : Int) w (by omega) (by omega)
        have hback : ((((s.getD i 0).toNat : Int)).toNat.toUInt8) = s.getD i 0 := by simp
        have IR : ∀ w, Calls Tryd.prog 60 #[str ch, .int .i32 ((s.getD i 0).toNat : Int)] w fun e w' => e = .returned (.int .i64 (Lib.indexByte ch (s.getD i 0))) ∧ w' = w := fun w => (IR w).mono fun e w' ⟨h1, h2⟩ => ⟨by rw [h1, hback], h2⟩
        generalize s.getD i 0 = x at *
        clear hx hxl hback
        cases hin : ch.contains x
        · rw [hin] at hcon
          have hlt : decide ((0 : Int) ≤ Lib.indexByte ch x) = false := hcon.symm
          have hs := Hs.out hin
          clear hcon hin Hs Hh
          go_wp2_with (go_at_call 60; refine (IR _).mono ?_; rintro e w' ⟨rfl, rfl⟩)
          go_roundg g'
          case measure => omega
          case rel => exact ⟨i + 1, hit2, hbw2, hs, by omega, by omega⟩
        · rw [hin] at hcon
          have hge : decide ((0 : Int) ≤ Lib.indexByte ch x) = true := hcon.symm
          have hh : Hid (Lib.indexAny s ch = i) := Hh.out hin
          clear hcon hin Hs Hh
          go_wp2_with (go_at_call 60; refine (IR _).mono ?_; rintro e w' ⟨rfl, rfl⟩)
          go_ret
          exact ⟨by rw [hh.out]; rfl, hbw2⟩
      · have hxh : 128 ≤ ((⟨s.toArray⟩ : ByteArray)[i]'hi).toNat := by rw [hx]; omega
        obtain ⟨d1, d2⟩ := decode_high ⟨s.toArray⟩ i hi hxh
        obtain ⟨d3, d4⟩ := decode_cont ⟨s.toArray⟩ i hi hxh
        have hnx : ∀ ty, (Instr.next (.pointer (some ⟨w.heap.size, 0, none⟩)) true ty).run Tryd.prog wr = _ := fun ty => Lib.run_next_any_at wr w.heap.size ⟨s.toArray⟩ i ty hit hi
        generalize (Utf8.decode ⟨s.toArray⟩ i).1 = R at *
        generalize (Utf8.decode ⟨s.toArray⟩ i).2 = K at *
        have d3 : i + K ≤ s.length := d3
        have hs : Hid (Lib.NoAny s ch (i + K)) := fun j b hj hb => by
          rcases Nat.lt_or_ge j i with h | h
          · exact hno.out j b h hb
          · have hjl : j < s.length := by omega
            have hbv : b = s.getD j 0 := by simp [List.getD_eq_getElem?_getD, hb]
            have h128 : 128 ≤ b.toNat := by
              by_cases e : j = i
              · subst e; rw [hbv]; omega
              · have := d4 (j - i) (by omega) (by omega)
                rw [show i + (j - i) = j by omega, get_bang s j hjl] at this
                rw [hbv]; exact this
            cases hcb : ch.contains b with
            | false => rfl
            | true =>
              obtain ⟨q, hq, he⟩ := List.getElem_of_mem (List.contains_iff_mem.1 hcb)
              have := hc q hq
              simp only [List.getD_eq_getElem?_getD, List.getElem?_eq_getElem hq, Option.getD_some] at this
              rw [he] at this
              omega
        have hit2 := Lib.iterAt_heap wr w.heap.size ⟨s.toArray⟩ i (i + K) hit
        have hbw2 := Lib.below_iterAt hbw (k := w.heap.size) (Nat.le_refl _) ⟨s.toArray⟩ (i + K)
        generalize wr.iterAt w.heap.size ⟨s.toArray⟩ (i + K) = W at *
        have hltW : w.heap.size < W.heap.size := (Array.getElem?_eq_some_iff.1 hit2).1
        have IR := HR.out W (R : Int) (by omega)
        clear hx hxl hx128 hxh d4 d1
        go_wp2_with (go_at_call 60; refine IR.mono ?_; rintro e W' ⟨rfl, hbc⟩)
        go_roundg g'
        case measure => omega
        case rel => exact ⟨i + K, (hbc.block _ hltW).trans hit2, hbw2.trans (hbc.mono hbw2.size), hs, by omega, by omega⟩
    · have hps2 : ¬ i < (⟨s.toArray⟩ : ByteArray).size := hps
      have hnx : ∀ ty, (Instr.next (.pointer (some ⟨w.heap.size, 0, none⟩)) true ty).run Tryd.prog wr = _ := fun ty => Lib.run_next_end_at wr w.heap.size ⟨s.toArray⟩ i ty hit hps2
      have hh : Hid (Lib.indexAny s ch = -1) := HN0.out i hno.out (by omega)
      go_wp2
      go_ret
      exact ⟨by rw [hh.out]; rfl, hbw⟩
theorem zero76 (w : World) : (zeroValue 76).run Tryd.prog w = .ok (.agg (Array.replicate 256 (.bool false))) w := by
  have h : (Tryd.prog.info? 76).map (·.zero) = some (some (.agg (Array.replicate 256 (.bool false)))) := by kernel_rfl
  cases hq : Tryd.prog.info? 76 with
  | none => rw [hq] at h; cases h
  | some i =>
    rw [hq] at h
    have hz : i.zero = some (.agg (Array.replicate 256 (.bool false))) := by simpa using h
    simp [zeroValue, typeInfo, hq, hz]
theorem contains_any (w : World) (s ch : Bs) (h2 : 2 ≤ ch.length) (h3 : ch.length ≤ 3) (hc : ∀ (i : Nat), i < ch.length → (ch.getD i 0).toNat < 128) (hs : s.length ≤ 1000000000) :
    Calls Tryd.prog 41 #[str s, str ch] w fun e w' => e = .returned (.bool (anyL s ch)) ∧ Below w.heap.size w w' := by
  have IA : ∀ w, Calls Tryd.prog 51 #[str s, str ch] w fun e w' => e = .returned (.int .i64 (Lib.indexAny s ch)) ∧ Below w.heap.size w w' := fun w => by
    by_cases h8 : s.length ≤ 8
    · exact idxany_short w s ch h2 h3 hc h8
    · refine (Tryd.strings_IndexAny_long zero76 ⟨s.toArray⟩ ⟨ch.toArray⟩ w h2 (by show 8 < s.length; omega) (by show s.length < _; omega) (by show ch.length < _; omega) (fun j b hb => ?_)).mono fun e w' ⟨h1, h5⟩ => ⟨h1, ?_⟩
      · have hb : ch[j]? = some b := hb
        obtain ⟨hj, he⟩ := List.getElem?_eq_some_iff.1 hb
        have := hc j hj
        simp only [List.getD_eq_getElem?_getD, hb, Option.getD_some] at this
        exact this
      · subst h5
        exact ((Below.refl _ w).alloc (Nat.le_refl _) _).alloc (by simp) _
  rw [← any_index]
  generalize Lib.indexAny s ch = z at *
  go_enter Tryd.func41, Tryd.ntmps41
  go_wp2_with (go_at_call 51; refine (IA _).mono ?_; rintro e w1 ⟨rfl, hb⟩)
  go_ret
  exact ⟨rfl, hb⟩
end Go.Proofs.YtfdbekfbbihdgaaDoor
