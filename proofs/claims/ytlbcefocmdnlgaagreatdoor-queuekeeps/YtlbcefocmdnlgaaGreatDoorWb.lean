
/- What topic.isWord, split, Pattern, Good, Covers and Match answer of any texts. Conditions: Vars, what the library's tables hold when the call begins, and texts of a length that Go knows. -/
import Derived.Test.YtlbcefocmdnlgaaGreatDoorZa
import Derived.Test.YtlbcefocmdnlgaaGreatDoorShelf
namespace Go.Proofs.YtlbcefocmdnlgaaGreatDoor.To
open Go.RowKit Go.Lib

/-- What the library's variables hold. -/
structure Vars (w : World) : Prop where
  max : ∃ m, w.cell? ⟨1, 0, none⟩ = some (.int .i64 m)
theorem Vars.below {w w' : World} (h : Vars w) (hb : Below w.heap.size w w') : Vars w' := by
  obtain ⟨m, hm⟩ := h.max
  exact ⟨⟨m, by rw [hb.cell (p := ⟨1, 0, none⟩) (World.block_lt_of_cell? w _ hm)]; exact hm⟩⟩
theorem nxt {a b c : World} (h1 : Below a.heap.size a b) (h2 : Below b.heap.size b c) : Below a.heap.size a c := h1.trans (h2.mono h1.size)

theorem pred_word (w : World) : PredGrows Tryz.prog 92 #[] (fun x => !inN (x : Int)) w := fun W x _ _ =>
  (notword_any W (x : Int)).mono fun _ _ ⟨he, hw⟩ => ⟨he, hw ▸ Below.refl _ _⟩
theorem e42 : ∀ args w, (callFunc 92 args).run Tryz.prog w = .ok (.enter 92 args) w := fun args w => by go_simp
set_option maxRecDepth 10000 in
theorem isWord_any (w : World) (l : List UInt8) : Calls Tryz.prog 80 #[str l] w fun e w' => e = .returned (.bool (isW l)) ∧ Below w.heap.size w w' := by
  by_cases h0 : l = []
  · subst h0
    have e : isW [] = false := rfl
    rw [e]
    go_enter Tryz.func80, Tryz.ntmps80
    go_wp2
    go_ret
    exact ⟨rfl, Below.refl _ _⟩
  · by_cases h1 : (l.length : Int) ≤ 16
    · have e : Hid (isW l = !(l.any (fun c => !inW c))) := by
        show isW l = _
        unfold isW
        rw [decide_eq_true (by omega : l.length ≤ 16), List.not_any_eq_all_not]
        simp [h0]
      have hc := Tryz.strings_ContainsFunc_grows 92 #[] e42 _ ⟨l.toArray⟩ w (pred_word w)
      rw [idx_any, show bl ⟨l.toArray⟩ = l from rfl] at hc
      generalize isW l = r at *
      generalize (l.any (fun c => !inW c)) = q at *
      go_enter Tryz.func80, Tryz.ntmps80
      go_wp2_with (go_at_call 91; refine hc.mono ?_; rintro e w' ⟨rfl, hb⟩)
      go_ret
      refine ⟨ret_b ?_, hb⟩
      rw [e.out]
      simp [h0]
    · have e : Hid (isW l = false) := by
        show isW l = _
        unfold isW
        rw [decide_eq_false (by omega : ¬ l.length ≤ 16)]
        simp
      generalize isW l = r at *
      go_enter Tryz.func80, Tryz.ntmps80
      go_wp2
      go_ret
      exact ⟨ret_b e.out.symm, Below.refl _ _⟩
theorem oddW_any (w : World) (l : List UInt8) : Calls Tryz.prog 79 #[str l] w fun e w' => e = .returned (.bool (!midW l)) ∧ Below w.heap.size w w' := by
  have hs := isWord_any w l
  cases h0 : (l == [42]) with
  | true =>
    have e : Hid ((!midW l) = false) := by show (!midW l) = false; unfold midW; rw [h0]; rfl
    clear hs
    generalize (!midW l) = r at *
    go_enter Tryz.func79, Tryz.ntmps79
    go_wp2
    go_ret
    exact ⟨ret_b e.out.symm, Below.refl _ _⟩
  | false =>
    have e : Hid ((!midW l) = !isW l) := by show (!midW l) = _; unfold midW; rw [h0]; rfl
    generalize (!midW l) = r at *
    generalize isW l = q at *
    go_enter Tryz.func79, Tryz.ntmps79
    go_wp2_with (go_at_call 80; refine hs.mono ?_; rintro e w' ⟨rfl, hb⟩)
    go_ret
    exact ⟨ret_b e.out.symm, hb⟩

theorem split_any (w : World) (hv : Vars w) (l : List UInt8) (hs : l.length < 4294967281) : Calls Tryz.prog 77 #[str l] w fun e w' =>
    ∃ b, e = .returned (.slice (some ⟨b, 0, none⟩) (wordsL l).length (wordsL l).length) ∧ RdS w' b 0 (wordsL l) ∧ Below w.heap.size w w' := by
  obtain ⟨m, hm⟩ := hv.max
  have hc := Tryz.strings_Split ⟨l.toArray⟩ dot m w hs hm (by decide)
  rw [split_vals, split_count, show bl ⟨l.toArray⟩ = l from rfl] at hc
  obtain ⟨ws, hws⟩ : ∃ ws, wordsL l = ws := ⟨_, rfl⟩
  rw [hws] at hc ⊢
  clear hws
  have hr : RdS (w.alloc (.cells (ws.map (fun l => Value.string ⟨l.toArray⟩)).toArray 9)) w.heap.size 0 ws := by
    refine ⟨by simp, fun j hj => ?_⟩
    have h1 := heap_alloc_new w (.cells (ws.map (fun l => Value.string ⟨l.toArray⟩)).toArray 9)
    unfold World.cell?
    rw [h1]
    simp [hj]
  have hb : Below w.heap.size w (w.alloc (.cells (ws.map (fun l => Value.string ⟨l.toArray⟩)).toArray 9)) := (Below.refl _ _).alloc (Nat.le_refl _) _
  generalize (w.alloc (.cells (ws.map (fun l => Value.string ⟨l.toArray⟩)).toArray 9)) = W at *
  have HR : Hid _ := hr
  clear hr
  obtain ⟨n, hn⟩ : ∃ n, ws.length = n := ⟨_, rfl⟩
  rw [hn] at hc ⊢
  clear hn
  go_enter Tryz.func77, Tryz.ntmps77
  go_wp2_with (go_at_call 90; refine hc.mono ?_; rintro e w' ⟨rfl, rfl⟩)
  go_ret
  exact ⟨_, rfl, HR.out, hb⟩

theorem pat_long (l : List UInt8) (h : (l.length : Int) > 64) : pat l = false := by
  unfold pat
  rw [decide_eq_false (by omega : ¬ l.length ≤ 64)]
  rfl
set_option maxRecDepth 10000 in
set_option maxHeartbeats 1000000 in
theorem pattern_any (w : World) (hv : Vars w) (l : List UInt8) : Calls Tryz.prog 56 #[str l] w fun e w' => e = .returned (.bool (pat l)) ∧ Below w.heap.size w w' := by
  by_cases h1 : (l.length : Int) > 64
  · have e : Hid (pat l = false) := pat_long l h1
    generalize pat l = r at *
    go_enter Tryz.func56, Tryz.ntmps56
    go_wp2
    go_ret
    exact ⟨ret_b e.out.symm, Below.refl _ _⟩
  · have hne := wordsL_ne l
    have e0 : Hid (pat l = (decide ((wordsL l).length ≤ 8) && (decide (oddZ (wordsL l) < 0) || (decide (oddZ (wordsL l) = ((wordsL l).length : Int) - 1) && (wordsL l).getLast hne == [35])))) := by
      show pat l = _
      unfold pat
      rw [decide_eq_true (by omega : l.length ≤ 64), okP_odd _ hne]
      rfl
    have hlen : (wordsL l).length ≤ 65 := by
      rw [words_len]
      have := List.count_le_length (a := (46 : UInt8)) (l := l)
      omega
    have hs := split_any w hv l (by omega)
    generalize pat l = r at *
    generalize wordsL l = ws at *
    obtain ⟨k, hk⟩ : ∃ k, ws.length = k + 1 := ⟨ws.length - 1, by have := List.length_pos_iff.2 hne; omega⟩
    have HK : Hid (ws.length = k + 1) := hk
    have hkl : k < ws.length := by omega
    have hz : -1 ≤ oddZ ws ∧ oddZ ws ≤ k := by unfold oddZ; split <;> omega
    obtain ⟨y, hy⟩ : ∃ y, ws[k] = y := ⟨_, rfl⟩
    have e : Hid (r = (decide (k + 1 ≤ 8) && (decide (oddZ ws < 0) || (decide (oddZ ws = (k : Int)) && y == [35])))) := by
      have := e0.out
      rw [List.getLast_eq_getElem hne] at this
      simp only [hk, Nat.add_sub_cancel, hy] at this
      rw [show ((k + 1 : Nat) : Int) - 1 = (k : Int) by omega] at this
      exact this
    have HY : Hid (ws[k] = y) := hy
    rw [hk] at hs
    have hk65 : k ≤ 64 := by omega
    clear e0 hy hlen hne hk
    go_enter Tryz.func56, Tryz.ntmps56
    go_wp2_with (go_at_call 77; refine hs.mono ?_; rintro e w' ⟨b, rfl, hr, hb⟩)
    have hI := indexFunc_any w' b (k + 1) ws hr (by have := HK.out; omega) (fun W l _ => oddW_any W l)
    rw [HK.out] at hI
    have HC : Hid (∀ w2, Below w'.heap.size w' w2 → w2.cell? ⟨b, k, none⟩ = some (str y)) := fun w2 hb2 => by
      rw [hb2.cell (p := ⟨b, k, none⟩) hr.1]
      have := hr.2 k hkl
      rw [Nat.zero_add, HY.out] at this
      exact this
    clear hr hs HY hkl HK
    generalize oddZ ws = z at *
    refine hI.mono ?_
    rintro e0 w2 ⟨rfl, hb2⟩
    have hcell := HC.out w2 hb2
    clear hI HC
    by_cases h8 : (k : Int) + 1 ≤ 8
    · have e : Hid (r = (decide (z < 0) || (decide (z = (k : Int)) && y == [35]))) := by
        have := e.out
        rw [decide_eq_true (by omega : k + 1 ≤ 8), Bool.true_and] at this
        exact this
      by_cases hz0 : z < 0
      · have e : Hid (r = true) := by
          have := e.out
          rw [decide_eq_true hz0, Bool.true_or] at this
          exact this
        clear hcell
        go_wp2
        go_ret
        exact ⟨ret_b e.out.symm, nxt hb hb2⟩
      · by_cases hzk : z = (k : Int)
        · have e : Hid (r = (y == [35])) := by
            have := e.out
            rw [decide_eq_false hz0, decide_eq_true hzk, Bool.false_or, Bool.true_and] at this
            exact this
          subst hzk
          go_wp2
          go_ret
          exact ⟨ret_b e.out.symm, nxt hb hb2⟩
        · have e : Hid (r = false) := by
            have := e.out
            rw [decide_eq_false hz0, decide_eq_false hzk, Bool.false_or, Bool.false_and] at this
            exact this
          have hzk : (z == (k : Int)) = false := by rw [beq_eq_false_iff_ne]; exact hzk
          clear hcell
          go_wp2
          go_ret
          exact ⟨ret_b (by rw [e.out]; simp_all), nxt hb hb2⟩
    · have e : Hid (r = false) := by
        have := e.out
        rw [decide_eq_false (by omega : ¬ k + 1 ≤ 8), Bool.false_and] at this
        exact this
      clear hcell
      go_wp2
      go_ret
      exact ⟨ret_b e.out.symm, nxt hb hb2⟩

theorem ascii_at {l : List UInt8} (h : ∀ c ∈ l, c.toNat < 128) : ∀ (j : Nat) b, l[j]? = some b → b.toNat < 128 := fun _ b hb => h b (List.mem_of_getElem? hb)
theorem good_any (w : World) (hv : Vars w) (l : List UInt8) : Calls Tryz.prog 32 #[str l] w fun e w' => e = .returned (.bool (good l)) ∧ Below w.heap.size w w' := by
  have hp := pattern_any w hv l
  cases h : pat l with
  | false =>
    have e : Hid (good l = false) := by show good l = false; rw [good_iff, h]; rfl
    rw [h] at hp
    generalize good l = r at *
    go_enter Tryz.func32, Tryz.ntmps32
    go_wp2_with (go_at_call 56; refine hp.mono ?_; rintro e w' ⟨rfl, hb⟩)
    go_ret
    exact ⟨ret_b e.out.symm, hb⟩
  | true =>
    have e : Hid (good l = !(l.any (fun c => c == 42 || c == 35))) := by show good l = _; rw [good_iff, h]; rfl
    rw [h] at hp
    have hlen := (pat_nums h).1
    have hc : ∀ W, Calls Tryz.prog 57 #[str l, .string ⟨#[42, 35]⟩] W _ := fun W => Tryz.strings_ContainsAny_laid ⟨l.toArray⟩ ⟨#[42, 35]⟩ W (by show l.length < _; omega) (by decide) (ascii_at (pat_ascii h)) (ascii_at (l := [42, 35]) (by decide))
    simp only [show Lib.containsAny (⟨l.toArray⟩ : ByteArray).data.toList (⟨#[42, 35]⟩ : ByteArray).data.toList = l.any (fun c => c == 42 || c == 35) from containsAny_two l] at hc
    clear hlen
    generalize good l = r at *
    generalize l.any (fun c => c == 42 || c == 35) = q at *
    go_enter Tryz.func32, Tryz.ntmps32
    go_wp2_with (first | (go_at_call 56; refine hp.mono ?_; rintro e w' ⟨rfl, hb⟩) | (go_at_call 57; refine (hc _).mono ?_; rintro e w' ⟨rfl, hb2⟩))
    go_ret
    exact ⟨ret_b e.out.symm, nxt hb hb2⟩

end Go.Proofs.YtlbcefocmdnlgaaGreatDoor.To
