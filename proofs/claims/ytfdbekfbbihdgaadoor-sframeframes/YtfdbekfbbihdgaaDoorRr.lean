
/- The document's read. Conditions: those that each row states. -/
import Derived.Test.YtfdbekfbbihdgaaDoorCw
import Derived.Test.YtfdbekfbbihdgaaDoorSd
import Derived.Test.YtfdbekfbbihdgaaDoorRz
namespace Go.Proofs.YtfdbekfbbihdgaaDoor
open Go.RowKit Go.Lib
set_option maxRecDepth 100000
set_option linter.unusedSimpArgs false

def rdL (b : Bool) (s : Bs) : Option Bs := if b then some s else unm s
def rdV (o : Option Bs) : Value := match o with
  | some t => .tuple #[str t, .bool true]
  | none => .tuple #[str [], .bool false]
theorem rread_true (w : World) (s : Bs) : Calls Tryd.prog 38 #[str s, .bool true] w fun e w' => e = .returned (rdV (some s)) ∧ Below w.heap.size w w' := by
  show Calls Tryd.prog 38 #[str s, .bool true] w fun e w' => e = .returned (.tuple #[str s, .bool true]) ∧ Below w.heap.size w w'
  go_enter Tryd.func38, Tryd.ntmps38
  go_wp2
  go_ret2
  exact ⟨rfl, Below.refl _ _⟩
set_option maxHeartbeats 4000000 in
theorem rread_false (w : World) (s : Bs) (hl : s.length ≤ 1000000000) : Calls Tryd.prog 38 #[str s, .bool false] w fun e w' => e = .returned (rdV (unm s)) ∧ Below w.heap.size w w' := by
  obtain ⟨R, hR⟩ : ∃ R, Hid (unm s = R) := ⟨_, (rfl : unm s = _)⟩
  rw [hR.out]
  go_enter Tryd.func38, Tryd.ntmps38
  go_wp2_with fail
  go_loopw [6, 7] (fun u i wr => ∃ (j : Nat) (out : Bs), j ≤ s.length ∧ i = .int .i64 j ∧ OwnW wr w.heap.size u out ∧ Below w.heap.size w wr ∧ out.length ≤ j ∧ Hid (R = upon out (unm (s.drop j)))) (fun _ i _ => s.length - (RowKit.intOf i).toNat)
  case atStart => exact ⟨0, [], Nat.zero_le _, rfl, .inl ⟨rfl, rfl⟩, Below.refl _ _, Nat.zero_le _, by show R = _; rw [← hR.out]; simp [upon]⟩
  case round =>
    obtain ⟨j, out, hj, rfl, ho, hbr, hol, HB⟩ := hrel
    have hwr := hbr.size
    have hB2 : unm s = upon out (unm (s.drop j)) := by rw [hR.out]; exact HB.out
    by_cases hlt : j < s.length
    · have gk := get_str s j
      have hjz : (j : Int) < (s.length : Int) := by omega
      by_cases h92 : s.getD j 0 = 92
      · by_cases hl2 : j + 1 < s.length
        · have gk2 := get_str s (j + 1)
          have hjz2 : decide ((s.length : Int) ≤ (j : Int) + 1) = false := decide_eq_false (by omega)
          have hjz3 : (j : Int) + 1 < (s.length : Int) := by omega
          have gk3 : (((j : Int) + 1).toNat) = j + 1 := by omega
          have HT : Hid (R = (letter (s.getD (j + 1) 0)).bind fun x => upon (out ++ [x]) (unm (s.drop (j + 2)))) := by show R = _; rw [← hR.out]; exact unm_two hl2 hB2 h92
          rw [h92] at gk
          clear hB2 h92 HB hR
          generalize s.getD (j + 1) 0 = d at *
          rcases letters d with ⟨rfl, h3⟩ | ⟨rfl, h3⟩ | ⟨rfl, h3⟩ | ⟨rfl, h3⟩ | ⟨h3, h4⟩
          · have HT2 : Hid (R = upon (out ++ [92]) (unm (s.drop (j + 2)))) := by show R = _; rw [HT.out, h3]; rfl
            clear HT h3
            go_wp2_with (at_builtin; refine wpList_plain rfl fun K hK => ?_; refine appW1 (.tmp 37) (.tmp 38) rfl w.heap.size _ out 92 wr _ (by rfl) rfl ho rfl (by omega) hwr ?_; intro v1 w1 ho1 g1; refine hK _ _ ?_)
            have hb1 := hbr.trans (g1.below ho hwr)
            go_roundw
            case rel => exact ⟨j + 2, out ++ [92], by omega, by go_num, ho1, hb1, by simp only [List.length_append, List.length_cons, List.length_nil]; omega, HT2⟩
            case measure => simp [RowKit.intOf]; omega
          · have HT2 : Hid (R = upon (out ++ [13]) (unm (s.drop (j + 2)))) := by show R = _; rw [HT.out, h3]; rfl
            clear HT h3
            go_wp2_with (at_builtin; refine wpList_plain rfl fun K hK => ?_; refine appW1 (.tmp 47) (.tmp 48) rfl w.heap.size _ out 13 wr _ (by rfl) rfl ho rfl (by omega) hwr ?_; intro v1 w1 ho1 g1; refine hK _ _ ?_)
            have hb1 := hbr.trans (g1.below ho hwr)
            go_roundw
            case rel => exact ⟨j + 2, out ++ [13], by omega, by go_num, ho1, hb1, by simp only [List.length_append, List.length_cons, List.length_nil]; omega, HT2⟩
            case measure => simp [RowKit.intOf]; omega
          · have HT2 : Hid (R = upon (out ++ [10]) (unm (s.drop (j + 2)))) := by show R = _; rw [HT.out, h3]; rfl
            clear HT h3
            go_wp2_with (at_builtin; refine wpList_plain rfl fun K hK => ?_; refine appW1 (.tmp 52) (.tmp 53) rfl w.heap.size _ out 10 wr _ (by rfl) rfl ho rfl (by omega) hwr ?_; intro v1 w1 ho1 g1; refine hK _ _ ?_)
            have hb1 := hbr.trans (g1.below ho hwr)
            go_roundw
            case rel => exact ⟨j + 2, out ++ [10], by omega, by go_num, ho1, hb1, by simp only [List.length_append, List.length_cons, List.length_nil]; omega, HT2⟩
            case measure => simp [RowKit.intOf]; omega
          · have HT2 : Hid (R = upon (out ++ [58]) (unm (s.drop (j + 2)))) := by show R = _; rw [HT.out, h3]; rfl
            clear HT h3
            go_wp2_with (at_builtin; refine wpList_plain rfl fun K hK => ?_; refine appW1 (.tmp 42) (.tmp 43) rfl w.heap.size _ out 58 wr _ (by rfl) rfl ho rfl (by omega) hwr ?_; intro v1 w1 ho1 g1; refine hK _ _ ?_)
            have hb1 := hbr.trans (g1.below ho hwr)
            go_roundw
            case rel => exact ⟨j + 2, out ++ [58], by omega, by go_num, ho1, hb1, by simp only [List.length_append, List.length_cons, List.length_nil]; omega, HT2⟩
            case measure => simp [RowKit.intOf]; omega
          · have HT2 : Hid (R = none) := by show R = _; rw [HT.out, h3]; rfl
            rw [cutN_none] at h4
            simp only [List.mem_cons, List.not_mem_nil, or_false, not_or] at h4
            have nn : ∀ c : UInt8, d ≠ c → ((d.toNat : Int) == (c.toNat : Int)) = false := fun c h => by
              rw [beq_eq_false_iff_ne]; intro e; exact h (UInt8.toNat.inj (by omega))
            have n1 : ((d.toNat : Int) == 92) = false := nn 92 h4.1
            have n2 : ((d.toNat : Int) == 114) = false := nn 114 h4.2.1
            have n3 : ((d.toNat : Int) == 110) = false := nn 110 h4.2.2.1
            have n4 : ((d.toNat : Int) == 99) = false := nn 99 h4.2.2.2
            clear nn h4 h3 HT
            go_wp2
            go_ret2
            exact ⟨by rw [HT2.out]; rfl, hbr⟩
        · have HT2 : Hid (R = none) := by show R = _; rw [← hR.out]; exact unm_end hlt hl2 hB2 h92
          have hjz2 : decide ((s.length : Int) ≤ (j : Int) + 1) = true := decide_eq_true (by omega)
          rw [h92] at gk
          clear hB2 h92 HB hR
          go_wp2
          go_ret2
          exact ⟨by rw [HT2.out]; rfl, hbr⟩
      · have HT2 : Hid (R = upon (out ++ [s.getD j 0]) (unm (s.drop (j + 1)))) := by show R = _; rw [← hR.out]; exact unm_step hlt hB2 h92
        have n1 : ((((s.getD j 0).toNat : Int)) != 92) = true := by
          unfold bne
          rw [(by rw [beq_eq_false_iff_ne]; intro e; exact h92 (UInt8.toNat.inj (show (s.getD j 0).toNat = 92 by omega)) : (((s.getD j 0).toNat : Int) == 92) = false)]
          rfl
        clear hB2 h92 HB hR
        generalize s.getD j 0 = y at *
        go_wp2_with (at_builtin; refine wpList_plain rfl fun K hK => ?_; refine appW1 (.tmp 20) (.tmp 24) rfl w.heap.size _ out y wr _ (by rfl) rfl ho rfl (by omega) hwr ?_; intro v1 w1 ho1 g1; refine hK _ _ ?_)
        have hb1 := hbr.trans (g1.below ho hwr)
        go_roundw
        case rel => exact ⟨j + 1, out ++ [y], by omega, by go_num, ho1, hb1, by simp only [List.length_append, List.length_cons, List.length_nil]; omega, HT2⟩
        case measure => simp [RowKit.intOf]; omega
    · obtain rfl : j = s.length := by omega
      have HT2 : Hid (R = some out) := by show R = _; rw [HB.out, List.drop_length]; simp [unm, upon]
      have hcv := conv_any ho.rd
      clear hB2 HB hR
      obtain ⟨xa, xc, rfl⟩ := ho.shape
      go_wp2
      go_ret2
      exact ⟨by rw [HT2.out]; rfl, hbr⟩
theorem rread_any (w : World) (s : Bs) (b : Bool) (hl : s.length ≤ 1000000000) : Calls Tryd.prog 38 #[str s, .bool b] w fun e w' => e = .returned (rdV (rdL b s)) ∧ Below w.heap.size w w' := by
  cases b with
  | true => exact rread_true w s
  | false => exact rread_false w s hl
end Go.Proofs.YtfdbekfbbihdgaaDoor
