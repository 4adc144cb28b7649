
/- What the document's Good and Pattern answer of any text. Condition: a text of a length that Go knows. -/
import Derived.Test.YtlbcefocmdnlgaaGreatDoorRa
import Derived.Deep.LoopGhost
namespace Go.Proofs.YtlbcefocmdnlgaaGreatDoor.To
open Go.RowKit Go.Lib
set_option maxRecDepth 10000

theorem rname_str (w : World) (l : List UInt8) (hl : l.length ≤ 9223372036854775807) : Calls Tryz.prog 31 #[str l] w fun e w' => e = .returned (.bool (isW l)) ∧ w' = w := rname_any w ⟨l.toArray⟩ hl
theorem words_few (l : List UInt8) (h : l.length ≤ 64) : (wordsL l).length ≤ 65 := by
  rw [words_len]
  have := List.count_le_length (a := (46 : UInt8)) (l := l)
  omega

set_option maxHeartbeats 1000000 in
theorem rgood_any (w : World) (l : List UInt8) : Calls Tryz.prog 35 #[str l] w fun e w' => e = .returned (.bool (good l)) ∧ Below w.heap.size w w' := by
  by_cases h1 : (l.length : Int) > 64
  · have e : Hid (good l = false) := by
      show good l = false
      unfold good
      rw [decide_eq_false (by omega : ¬ l.length ≤ 64)]
      rfl
    generalize good l = r at *
    go_enter Tryz.func35, Tryz.ntmps35
    go_wp2
    go_ret
    exact ⟨ret_b e.out.symm, Below.refl _ _⟩
  · have e : Hid (good l = (decide ((wordsL l).length ≤ 8) && (wordsL l).all isW)) := by
      show good l = _
      unfold good
      rw [decide_eq_true (by omega : l.length ≤ 64)]
      rfl
    have hlen := words_few l (by omega)
    have hs := words_any w l (by omega)
    have HL : Hid (∀ x ∈ wordsL l, x.length ≤ 64) := fun x hx => Nat.le_trans (word_len l x hx) (by omega)
    generalize good l = r at *
    generalize wordsL l = ws at *
    obtain ⟨n, hn⟩ : ∃ n, ws.length = n := ⟨_, rfl⟩
    rw [hn] at hs
    have HN : Hid (ws.length = n) := hn
    have hn65 : Hid (n ≤ 65) := by rw [← hn]; exact hlen
    clear hn hlen
    go_enter Tryz.func35, Tryz.ntmps35
    go_wp2_with fail
    refine hs.mono ?_
    rintro e1 w1 ⟨b, cap, rfl, hr, hb, _⟩
    have HR : Hid _ := hr
    clear hr hs
    go_wp2_with fail
    go_loopg [5, 13] n (fun gg _ s13 wr => ∃ kk : Nat, kk ≤ n ∧ n - kk ≤ gg ∧ s13 = .int .i64 kk ∧ wr = w1 ∧ Hid (∀ j (hj : j < ws.length), j < kk → isW ws[j] = true))
    case atStart => exact ⟨0, Nat.zero_le _, by omega, rfl, rfl, fun j _ hj => absurd hj (Nat.not_lt_zero _)⟩
    case round =>
      obtain ⟨kk, hkk, hg, rfl, rfl, A⟩ := hrel
      by_cases hlt : kk < n
      · have hltz : (kk : Int) < (n : Int) := by omega
        have hkl : kk < ws.length := by have := HN.out; omega
        have hcell := HR.out.2 kk hkl
        have hname := rname_str wr ws[kk] (by have := HL.out _ (List.getElem_mem hkl); omega)
        obtain ⟨y, hy⟩ : ∃ y, ws[kk] = y := ⟨_, rfl⟩
        rw [hy] at hcell hname
        have B : Hid (ws[kk] = y) := hy
        clear hy
        rw [Nat.zero_add] at hcell
        have hnz : (n : Int) ≤ 9223372036854775807 := by have := hn65.out; omega
        cases hq : isW y with
        | false =>
          rw [hq] at hname
          have er : Hid (r = false) := by
            show r = false
            rw [e.out, Bool.and_eq_false_iff]
            right
            rw [List.all_eq_false]
            exact ⟨ws[kk], List.getElem_mem hkl, by rw [B.out, hq]; decide⟩
          go_wp2_with (go_at_call 31; refine hname.mono ?_; rintro e w' ⟨rfl, rfl⟩)
          go_ret
          exact ⟨ret_b er.out.symm, hb⟩
        | true =>
          rw [hq] at hname
          go_wp2_with (go_at_call 31; refine hname.mono ?_; rintro e w' ⟨rfl, rfl⟩)
          go_roundg (n - (kk + 1))
          case measure => omega
          case rel =>
            refine ⟨kk + 1, by omega, by omega, by go_num, rfl, (show Hid _ from fun j hj hjk => ?_)⟩
            by_cases e : j = kk
            · subst e
              rw [B.out]; exact hq
            · exact A.out j hj (by omega)
      · have hltz : ¬ (kk : Int) < (n : Int) := by omega
        have : kk = n := by omega
        subst this
        have er : Hid (r = decide ((kk : Int) ≤ 8)) := by
          show r = _
          rw [e.out, show ws.all isW = true from List.all_eq_true.2 (fun x hx => by
            obtain ⟨j, hj, rfl⟩ := List.mem_iff_getElem.1 hx
            exact A.out j hj (by have := HN.out; omega)), Bool.and_true, HN.out]
          exact decide_eq_decide.2 (by omega)
        go_wp2
        go_ret
        exact ⟨ret_b er.out.symm, hb⟩

/-- A pattern word for word. -/
def okAt (ws : List (List UInt8)) (k : Nat) (y : List UInt8) : Bool := if y == [35] then decide (¬ (k : Int) < (ws.length : Int) - 1) else midW y
theorem okP_drop (ws : List (List UInt8)) (k : Nat) (h : k < ws.length) : okP (ws.drop k) = (okAt ws k ws[k] && okP (ws.drop (k + 1))) := by
  rw [List.drop_eq_getElem_cons h]
  unfold okAt
  by_cases hk : k + 1 < ws.length
  · rw [List.drop_eq_getElem_cons hk, okP]
    by_cases hy : ws[k] = [35]
    · rw [hy, decide_eq_false (by omega)]
      rfl
    · rw [beq_eq_false_iff_ne.2 hy]
      rfl
  · rw [List.drop_eq_nil_of_le (show ws.length ≤ k + 1 by omega), okP]
    by_cases hy : ws[k] = [35]
    · rw [hy, decide_eq_true (by omega)]
      rfl
    · rw [beq_eq_false_iff_ne.2 hy]
      simp [okP, hy]

end Go.Proofs.YtlbcefocmdnlgaaGreatDoor.To
