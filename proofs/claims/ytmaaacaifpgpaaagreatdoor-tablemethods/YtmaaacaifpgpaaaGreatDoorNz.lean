
/- Widen, the program's and the document's; FltNarrows walked: it answers true of any bits, where the listed variables read as the walk needs them. -/
import Derived.Test.YtmaaacaifpgpaaaGreatDoorNy
set_option maxRecDepth 100000
namespace Go.Proofs.YtmaaacaifpgpaaaGreatDoor
open Go.RowKit Go.Lib Ieee

/-- What Widen answers. -/
def widB (g : Nat) : Nat := if isN single g then 9221120237041090561 else wide g
theorem widB_lt (g : Nat) : widB g < 2 ^ 64 := by
  unfold widB
  split
  · omega
  · rename_i h; exact wide_lt g h

/-- What the conversion gives, told by what is held of it. -/
theorem widen_conv (w : World) (g : Nat) : ∃ c w', c < 2 ^ 64 ∧ (convert 105 40 (.float .f32 g)).run Tryz.prog w = .ok (.float .f64 c) w' ∧ Below w.heap.size w w' ∧ canonB c = widB g := by
  by_cases h : isN single g
  · obtain ⟨c, hc, hn, hr⟩ := widen_nan w g h
    refine ⟨c, _, hc, hr, below_drew w, ?_⟩
    unfold canonB widB
    rw [if_pos hn, if_pos h]
  · refine ⟨_, _, wide_lt g h, widen_num w g h, Below.refl _ _, ?_⟩
    unfold canonB widB
    rw [if_neg (wide_not_nan g h), if_neg h]

theorem widen_any (w : World) (g : Nat) :
    Calls Tryz.prog 88 #[.int .u32 g] w fun e w' => e = .returned (.float .f64 (widB g)) ∧ Below w.heap.size w w' := by
  obtain ⟨c, W, _, hr, hb, hc⟩ := widen_conv w g
  have hC := canon_any W c
  rw [hc] at hC
  generalize widB g = x at *
  clear hc
  go_enter Tryz.func88, Tryz.ntmps88
  go_wp2_with fail
  refine hC.mono ?_
  rintro e w1 ⟨rfl, rfl⟩
  clear hC hr
  go_wp2
  go_ret
  exact ⟨rfl, hb⟩
theorem rwiden_any (w : World) (g : Nat) :
    Calls Tryz.prog 60 #[.int .u32 g] w fun e w' => e = .returned (.float .f64 (widB g)) ∧ Below w.heap.size w w' := by
  have hF : Calls Tryz.prog 73 #[.int .u32 g] w fun e w' => e = .returned (.float .f32 g) ∧ w' = w := by
    go_enter Tryz.func73, Tryz.ntmps73
    go_wp2
    go_ret
    exact ⟨rfl, rfl⟩
  obtain ⟨c, W, hlt, hr, hb, hc⟩ := widen_conv w g
  have hC := rcanon_any W c hlt
  rw [hc] at hC
  generalize widB g = x at *
  clear hc hlt
  go_enter Tryz.func60, Tryz.ntmps60
  go_wp2_with fail
  refine hF.mono ?_
  rintro e w1 ⟨rfl, rfl⟩
  clear hF
  go_wp2_with fail
  refine hC.mono ?_
  rintro e w2 ⟨rfl, rfl⟩
  clear hC hr
  go_wp2
  go_ret
  exact ⟨rfl, hb⟩

end Go.Proofs.YtmaaacaifpgpaaaGreatDoor
