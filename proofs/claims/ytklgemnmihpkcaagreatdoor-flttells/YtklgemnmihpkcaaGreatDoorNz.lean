/- Widen, the program's and the document's; FltNarrows walked: it answers true of any bits, where the listed variables read as the walk needs them. -/
import Derived.Test.YtklgemnmihpkcaaGreatDoorNy
set_option maxRecDepth 100000
namespace Go.Proofs.YtklgemnmihpkcaaGreatDoor
open Go.RowKit Go.Lib Ieee

/-- What Widen answers. -/
def widB (g : Nat) : Nat := if isN single g then 9221120237041090561 else wide g
theorem widB_lt (g : Nat) : widB g < 2 ^ 64 := by
  unfold widB
  split
  · omega
  · rename_i h; exact wide_lt g h

/-- What the conversion gives, told by what is held of it. -/
theorem widen_conv (w : World) (g : Nat) : ∃ c w', c < 2 ^ 64 ∧ (convert 53 24 (.float .f32 g)).run Tryz.prog w = .ok (.float .f64 c) w' ∧ Below w.heap.size w w' ∧ canonB c = widB g := by
  by_cases h : isN single g
  · obtain ⟨c, hc, hn, hr⟩ := widen_nan w g h
    refine ⟨c, _, hc, hr, below_drew w, ?_⟩
    unfold canonB widB
    rw [if_pos hn, if_pos h]
  · refine ⟨_, _, wide_lt g h, widen_num w g h, Below.refl _ _, ?_⟩
    unfold canonB widB
    rw [if_neg (wide_not_nan g h), if_neg h]

theorem widen_any (w : World) (g : Nat) :
    Calls Tryz.prog 26 #[.int .u32 g] w fun e w' => e = .returned (.float .f64 (widB g)) ∧ Below w.heap.size w w' := by
  obtain ⟨c, W, _, hr, hb, hc⟩ := widen_conv w g
  have hC := canon_any W c
  rw [hc] at hC
  generalize widB g = x at *
  clear hc
  go_enter Tryz.func26, Tryz.ntmps26
  go_wp2_with fail
  refine hC.mono ?_
  rintro e w1 ⟨rfl, rfl⟩
  clear hC hr
  go_wp2
  go_ret
  exact ⟨rfl, hb⟩
theorem rwiden_any (w : World) (g : Nat) :
    Calls Tryz.prog 27 #[.int .u32 g] w fun e w' => e = .returned (.float .f64 (widB g)) ∧ Below w.heap.size w w' := by
  have hF : Calls Tryz.prog 39 #[.int .u32 g] w fun e w' => e = .returned (.float .f32 g) ∧ w' = w := by
    go_enter Tryz.func39, Tryz.ntmps39
    go_wp2
    go_ret
    exact ⟨rfl, rfl⟩
  obtain ⟨c, W, hlt, hr, hb, hc⟩ := widen_conv w g
  have hC := rcanon_any W c hlt
  rw [hc] at hC
  generalize widB g = x at *
  clear hc hlt
  go_enter Tryz.func27, Tryz.ntmps27
  go_wp2_with fail
  refine hF.mono ?_
  rintro e w1 ⟨rfl, rfl⟩
  clear hF
  go_wp2_with fail
  refine hC.mono ?_
  rintro e w2 ⟨rfl, rfl⟩
  clear hC hr
  go_wp2
  go_ret
  exact ⟨rfl, hb⟩

set_option maxHeartbeats 1000000 in
theorem narrows_walk (w : World) (a g : Nat) (ha : a < 2 ^ 64) (hv : Vars w) :
    Calls Tryz.prog 5 #[.int .u64 a, .int .u32 g] w fun e w' => e = .returned (.bool true) ∧ Below w.heap.size w w' := by
  have hW := wakes_any w hv
  have N1 : Hid (∀ w, Calls Tryz.prog 24 #[.float .f64 a] w fun e w' => e = .returned (.tuple #[.int .u32 ((narB a).1 : Nat), .bool (narB a).2]) ∧ Below w.heap.size w w') := fun w => narrow_any w a ha
  have N2 : Hid (∀ w, Calls Tryz.prog 25 #[.float .f64 a] w fun e w' => e = .returned (.tuple #[.int .u32 ((narB a).1 : Nat), .bool (narB a).2]) ∧ w' = w) := fun w => rnarrow_any w a ha
  have N3 : Hid (∀ w, Calls Tryz.prog 24 #[.float .f64 (widB g)] w fun e w' => e = .returned (.tuple #[.int .u32 ((narB (widB g)).1 : Nat), .bool (narB (widB g)).2]) ∧ Below w.heap.size w w') := fun w => narrow_any w _ (widB_lt g)
  have N4 : Hid (∀ w, Calls Tryz.prog 25 #[.float .f64 (widB g)] w fun e w' => e = .returned (.tuple #[.int .u32 ((narB (widB g)).1 : Nat), .bool (narB (widB g)).2]) ∧ w' = w) := fun w => rnarrow_any w _ (widB_lt g)
  have W1 : Hid (∀ w, Calls Tryz.prog 26 #[.int .u32 g] w fun e w' => e = .returned (.float .f64 (widB g)) ∧ Below w.heap.size w w') := fun w => widen_any w g
  have W2 : Hid (∀ w, Calls Tryz.prog 27 #[.int .u32 g] w fun e w' => e = .returned (.float .f64 (widB g)) ∧ Below w.heap.size w w') := fun w => rwiden_any w g
  generalize narB (widB g) = nb at *
  generalize widB g = x at *
  generalize narB a = na at *
  obtain ⟨p1, q1⟩ := na
  obtain ⟨p2, q2⟩ := nb
  dsimp only at N1 N2 N3 N4
  clear ha hv
  go_enter Tryz.func5, Tryz.ntmps5
  go_wp2_with fail
  refine hW.mono ?_
  rintro e w1 ⟨rfl, hb1⟩
  clear hW
  have hs1 := hb1.size
  go_wp2_with fail
  refine (rfrom_any w1 a).mono ?_
  rintro e w2 ⟨rfl, rfl⟩
  go_wp2_with fail
  refine Calls.mono (N1.out w2) ?_
  rintro e w3 ⟨rfl, hb3⟩
  have b3 := hb1.trans (hb3.mono hs1)
  have hs3 := b3.size
  clear hb3 hb1
  go_wp2_with fail
  refine Calls.mono (N2.out w3) ?_
  rintro e w4 ⟨rfl, rfl⟩
  go_wp2_with fail
  refine Calls.mono (W1.out w4) ?_
  rintro e w5 ⟨rfl, hb5⟩
  have b5 := b3.trans (hb5.mono hs3)
  have hs5 := b5.size
  clear hb5 b3
  go_wp2_with fail
  refine Calls.mono (W2.out w5) ?_
  rintro e w6 ⟨rfl, hb6⟩
  have b6 := b5.trans (hb6.mono hs5)
  have hs6 := b6.size
  clear hb6 b5
  go_wp2_with fail
  refine (rsame_any w6 x x).mono ?_
  rintro e w7 ⟨rfl, rfl⟩
  rw [decide_eq_true rfl]
  go_wp2_with fail
  refine Calls.mono (N3.out w7) ?_
  rintro e w8 ⟨rfl, hb8⟩
  have b8 := b6.trans (hb8.mono hs6)
  clear hb8 b6
  go_wp2_with fail
  refine Calls.mono (N4.out w8) ?_
  rintro e w9 ⟨rfl, rfl⟩
  go_wp2
  go_ret
  exact ⟨ret_b (by simp), b8⟩
end Go.Proofs.YtklgemnmihpkcaaGreatDoor
