
/- The document's write. Conditions: those that each row states. -/
import Derived.Test.YtfdbekfbbihdgaaDoorCe
import Derived.Test.YtfdbekfbbihdgaaDoorRz
namespace Go.Proofs.YtfdbekfbbihdgaaDoor
open Go.RowKit Go.Lib
set_option maxRecDepth 100000
set_option linter.unusedSimpArgs false

set_option maxHeartbeats 4000000 in
theorem rwrite_true (w : World) (B : Nat) (v : Value) (l s : Bs) (ho : OwnW w B v l) (hB : B ≤ w.heap.size) (hl : l.length + 2 * s.length ≤ 1000000000) :
    Calls Tryd.prog 25 #[v, str s, .bool true] w fun e w' => ∃ v', e = .returned v' ∧ OwnW w' B v' (l ++ putL true s) ∧ GW w w' v v' := by
  have g0 : GW w w v v := GW.refl w v
  go_enter Tryd.func25, Tryd.ntmps25
  go_wp2_with fail
  go_loopw [0, 7] (fun u i wr => ∃ j : Nat, j ≤ s.length ∧ i = .int .i64 j ∧ OwnW wr B u (l ++ putL true (s.take j)) ∧ GW w wr v u) (fun _ i _ => s.length - (RowKit.intOf i).toNat)
  case atStart => exact ⟨0, Nat.zero_le _, rfl, by simpa [putL] using ho, g0⟩
  case round =>
    clear ho g0
    obtain ⟨j, hj, rfl, ho, hg⟩ := hrel
    have hwr := hg.g.size
    by_cases hlt : j < s.length
    · have gk := get_str s j
      have hgj : s.getD j 0 = s[j] := by simp [List.getD_eq_getElem?_getD, hlt]
      rw [hgj] at gk
      have hlen : (l ++ putL true (s.take j)).length ≤ l.length + 2 * j := by
        have := putL_len true (s.take j)
        rw [List.length_take] at this
        rw [List.length_append]; omega
      have HS : Hid (l ++ putL true (s.take (j + 1)) = (l ++ putL true (s.take j)) ++ [s[j]]) := by
        show _ = _
        show l ++ s.take (j + 1) = l ++ s.take j ++ [s[j]]; rw [List.take_succ_eq_append_getElem hlt, List.append_assoc]
      have hjz : (j : Int) < (s.length : Int) := by omega
      generalize l ++ putL true (s.take j) = L at *
      generalize s[j] = x at *
      clear hgj
      go_wp2_with (at_builtin; refine wpList_plain rfl fun K hK => ?_; refine appW1 (.tmp 35) (.tmp 37) rfl B _ (L) x wr _ (by rfl) rfl ho rfl (by first | omega | (simp only [List.length_append, List.length_cons, List.length_nil]; omega)) (by omega) ?_; intro v1 w1 ho1 g1; have sz1 := g1.g.size; refine hK _ _ ?_)
      rw [← HS.out] at ho1
      go_roundw
      case rel => exact ⟨j + 1, by omega, by go_num, ho1, hg.trans g1⟩
      case measure => simp [RowKit.intOf]; omega
    · obtain rfl : j = s.length := by omega
      rw [List.take_length] at ho
      go_wp2
      go_ret
      exact ⟨_, rfl, ho, hg⟩
set_option maxHeartbeats 4000000 in
theorem rwrite_false (w : World) (B : Nat) (v : Value) (l s : Bs) (ho : OwnW w B v l) (hB : B ≤ w.heap.size) (hl : l.length + 2 * s.length ≤ 1000000000) :
    Calls Tryd.prog 25 #[v, str s, .bool false] w fun e w' => ∃ v', e = .returned v' ∧ OwnW w' B v' (l ++ putL false s) ∧ GW w w' v v' := by
  have g0 : GW w w v v := GW.refl w v
  go_enter Tryd.func25, Tryd.ntmps25
  go_wp2_with fail
  go_loopw [0, 7] (fun u i wr => ∃ j : Nat, j ≤ s.length ∧ i = .int .i64 j ∧ OwnW wr B u (l ++ putL false (s.take j)) ∧ GW w wr v u) (fun _ i _ => s.length - (RowKit.intOf i).toNat)
  case atStart => exact ⟨0, Nat.zero_le _, rfl, by simpa [putL] using ho, g0⟩
  case round =>
    clear ho g0
    obtain ⟨j, hj, rfl, ho, hg⟩ := hrel
    have hwr := hg.g.size
    by_cases hlt : j < s.length
    · have gk := get_str s j
      have hgj : s.getD j 0 = s[j] := by simp [List.getD_eq_getElem?_getD, hlt]
      rw [hgj] at gk
      have hlen : (l ++ putL false (s.take j)).length ≤ l.length + 2 * j := by
        have := putL_len false (s.take j)
        rw [List.length_take] at this
        rw [List.length_append]; omega
      have HS : Hid (l ++ putL false (s.take (j + 1)) = (l ++ putL false (s.take j)) ++ put1 s[j]) := by
        show _ = _
        rw [putL_snoc s j hlt, List.append_assoc]
      have hjz : (j : Int) < (s.length : Int) := by omega
      generalize l ++ putL false (s.take j) = L at *
      generalize s[j] = x at *
      clear hgj
      rcases marks x with ⟨rfl, h3⟩ | ⟨rfl, h3⟩ | ⟨rfl, h3⟩ | ⟨rfl, h3⟩ | ⟨h3, h4⟩
      · have HS2 : Hid (l ++ putL false (s.take (j + 1)) = L ++ [92] ++ [92]) := by show _ = _; rw [HS.out]; unfold put1; rw [h3]; simp
        clear h3
        go_wp2_with (first | (at_builtin; refine wpList_plain rfl fun K hK => ?_; refine appW1 (.tmp 39) (.tmp 40) rfl B _ (L) 92 wr _ (by rfl) rfl ho rfl (by first | omega | (simp only [List.length_append, List.length_cons, List.length_nil]; omega)) (by omega) ?_; intro v1 w1 ho1 g1; have sz1 := g1.g.size; refine hK _ _ ?_) | (at_builtin; refine wpList_plain rfl fun K hK => ?_; refine appW1 (.tmp 48) (.tmp 49) rfl B v1 (L ++ [92]) 92 w1 _ (by rfl) rfl ho1 rfl (by first | omega | (simp only [List.length_append, List.length_cons, List.length_nil]; omega)) (by omega) ?_; intro v2 w2 ho2 g2; have sz2 := g2.g.size; refine hK _ _ ?_))
        rw [← HS2.out] at ho2
        go_roundw
        case rel => exact ⟨j + 1, by omega, by go_num, ho2, hg.trans (g1.trans g2)⟩
        case measure => simp [RowKit.intOf]; omega
      · have HS2 : Hid (l ++ putL false (s.take (j + 1)) = L ++ [92] ++ [114]) := by show _ = _; rw [HS.out]; unfold put1; rw [h3]; simp
        clear h3
        go_wp2_with (first | (at_builtin; refine wpList_plain rfl fun K hK => ?_; refine appW1 (.tmp 39) (.tmp 40) rfl B _ (L) 92 wr _ (by rfl) rfl ho rfl (by first | omega | (simp only [List.length_append, List.length_cons, List.length_nil]; omega)) (by omega) ?_; intro v1 w1 ho1 g1; have sz1 := g1.g.size; refine hK _ _ ?_) | (at_builtin; refine wpList_plain rfl fun K hK => ?_; refine appW1 (.tmp 58) (.tmp 59) rfl B v1 (L ++ [92]) 114 w1 _ (by rfl) rfl ho1 rfl (by first | omega | (simp only [List.length_append, List.length_cons, List.length_nil]; omega)) (by omega) ?_; intro v2 w2 ho2 g2; have sz2 := g2.g.size; refine hK _ _ ?_))
        rw [← HS2.out] at ho2
        go_roundw
        case rel => exact ⟨j + 1, by omega, by go_num, ho2, hg.trans (g1.trans g2)⟩
        case measure => simp [RowKit.intOf]; omega
      · have HS2 : Hid (l ++ putL false (s.take (j + 1)) = L ++ [92] ++ [110]) := by show _ = _; rw [HS.out]; unfold put1; rw [h3]; simp
        clear h3
        go_wp2_with (first | (at_builtin; refine wpList_plain rfl fun K hK => ?_; refine appW1 (.tmp 39) (.tmp 40) rfl B _ (L) 92 wr _ (by rfl) rfl ho rfl (by first | omega | (simp only [List.length_append, List.length_cons, List.length_nil]; omega)) (by omega) ?_; intro v1 w1 ho1 g1; have sz1 := g1.g.size; refine hK _ _ ?_) | (at_builtin; refine wpList_plain rfl fun K hK => ?_; refine appW1 (.tmp 43) (.tmp 44) rfl B v1 (L ++ [92]) 110 w1 _ (by rfl) rfl ho1 rfl (by first | omega | (simp only [List.length_append, List.length_cons, List.length_nil]; omega)) (by omega) ?_; intro v2 w2 ho2 g2; have sz2 := g2.g.size; refine hK _ _ ?_))
        rw [← HS2.out] at ho2
        go_roundw
        case rel => exact ⟨j + 1, by omega, by go_num, ho2, hg.trans (g1.trans g2)⟩
        case measure => simp [RowKit.intOf]; omega
      · have HS2 : Hid (l ++ putL false (s.take (j + 1)) = L ++ [92] ++ [99]) := by show _ = _; rw [HS.out]; unfold put1; rw [h3]; simp
        clear h3
        go_wp2_with (first | (at_builtin; refine wpList_plain rfl fun K hK => ?_; refine appW1 (.tmp 39) (.tmp 40) rfl B _ (L) 92 wr _ (by rfl) rfl ho rfl (by first | omega | (simp only [List.length_append, List.length_cons, List.length_nil]; omega)) (by omega) ?_; intro v1 w1 ho1 g1; have sz1 := g1.g.size; refine hK _ _ ?_) | (at_builtin; refine wpList_plain rfl fun K hK => ?_; refine appW1 (.tmp 53) (.tmp 54) rfl B v1 (L ++ [92]) 99 w1 _ (by rfl) rfl ho1 rfl (by first | omega | (simp only [List.length_append, List.length_cons, List.length_nil]; omega)) (by omega) ?_; intro v2 w2 ho2 g2; have sz2 := g2.g.size; refine hK _ _ ?_))
        rw [← HS2.out] at ho2
        go_roundw
        case rel => exact ⟨j + 1, by omega, by go_num, ho2, hg.trans (g1.trans g2)⟩
        case measure => simp [RowKit.intOf]; omega
      · have HS2 : Hid (l ++ putL false (s.take (j + 1)) = L ++ [x]) := by show _ = _; rw [HS.out]; unfold put1; rw [h3]
        rw [cutN_none] at h4
        simp only [List.mem_cons, List.not_mem_nil, or_false, not_or] at h4
        have nn : ∀ d : UInt8, x ≠ d → ((x.toNat : Int) == (d.toNat : Int)) = false := fun d h => by
          rw [beq_eq_false_iff_ne]; intro e; exact h (UInt8.toNat.inj (by omega))
        have n1 : ((x.toNat : Int) == 92) = false := nn 92 h4.1
        have n2 : ((x.toNat : Int) == 13) = false := nn 13 h4.2.1
        have n3 : ((x.toNat : Int) == 10) = false := nn 10 h4.2.2.1
        have n4 : ((x.toNat : Int) == 58) = false := nn 58 h4.2.2.2
        have m1 : ((x.toNat : Int) != 92) = true := by unfold bne; rw [n1]; rfl
        have m2 : ((x.toNat : Int) != 13) = true := by unfold bne; rw [n2]; rfl
        have m3 : ((x.toNat : Int) != 10) = true := by unfold bne; rw [n3]; rfl
        have m4 : ((x.toNat : Int) != 58) = true := by unfold bne; rw [n4]; rfl
        clear nn h4 h3
        go_wp2_with (at_builtin; refine wpList_plain rfl fun K hK => ?_; refine appW1 (.tmp 35) (.tmp 37) rfl B _ (L) x wr _ (by rfl) rfl ho rfl (by first | omega | (simp only [List.length_append, List.length_cons, List.length_nil]; omega)) (by omega) ?_; intro v1 w1 ho1 g1; have sz1 := g1.g.size; refine hK _ _ ?_)
        rw [← HS2.out] at ho1
        go_roundw
        case rel => exact ⟨j + 1, by omega, by go_num, ho1, hg.trans g1⟩
        case measure => simp [RowKit.intOf]; omega
    · obtain rfl : j = s.length := by omega
      rw [List.take_length] at ho
      go_wp2
      go_ret
      exact ⟨_, rfl, ho, hg⟩
theorem rwrite_any (w : World) (B : Nat) (v : Value) (l s : Bs) (b : Bool) (ho : OwnW w B v l) (hB : B ≤ w.heap.size) (hl : l.length + 2 * s.length ≤ 1000000000) :
    Calls Tryd.prog 25 #[v, str s, .bool b] w fun e w' => ∃ v', e = .returned v' ∧ OwnW w' B v' (l ++ putL b s) ∧ GW w w' v v' := by
  cases b with
  | true => exact rwrite_true w B v l s ho hB hl
  | false => exact rwrite_false w B v l s ho hB hl
end Go.Proofs.YtfdbekfbbihdgaaDoor
