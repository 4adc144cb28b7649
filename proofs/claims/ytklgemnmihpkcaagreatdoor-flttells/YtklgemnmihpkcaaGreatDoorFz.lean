/- What the library's fmtEFG writes of any digits, the shortest ones, without an exponent. -/
import Derived.Test.YtklgemnmihpkcaaGreatDoorFp1
set_option maxRecDepth 100000
namespace Go.Proofs.YtklgemnmihpkcaaGreatDoor
open Go.RowKit Go.Lib Go.Sort


set_option maxHeartbeats 4000000 in
theorem efgF0_p (w : World) (B q : Nat) (v : Value) (hO0 : OwnQ w B q v []) :
    Calls Tryz.prog 60 #[v, .bool false, .slice none 0 0, .int .i64 0, .int .i64 0, .int .i64 (-1), .int .u8 103, .bool true] w fun e w' =>
      ∃ v', e = .returned v' ∧ Own w' B v' [48] ∧ Below B w w' := by
  go_enter Tryz.func60, Tryz.ntmps60
  go_wp2_with (at_builtin; refine appQ rfl (.tmp 209) (.tmp 210) rfl B q _ _ w [48] #[.int .u8 48] rfl 1 rfl (by omega) rfl hO0 rfl (by decide) ?_)
  intro v2 w2 hO2 hk2' hb2
  go_wp2
  go_ret
  exact ⟨_, rfl, hO2.own, hb2⟩

set_option maxHeartbeats 4000000 in
theorem efgF0_n (w : World) (B q : Nat) (v : Value) (hO0 : OwnQ w B q v []) :
    Calls Tryz.prog 60 #[v, .bool true, .slice none 0 0, .int .i64 0, .int .i64 0, .int .i64 (-1), .int .u8 103, .bool true] w fun e w' =>
      ∃ v', e = .returned v' ∧ Own w' B v' [45, 48] ∧ Below B w w' := by
  go_enter Tryz.func60, Tryz.ntmps60
  go_wp2_with (at_builtin; refine appQ rfl (.tmp 179) (.tmp 180) rfl B q _ _ w [45] #[.int .u8 45] rfl 1 rfl (by omega) rfl hO0 rfl (by decide) ?_)
  intro v1 w1 hO1 hk1' hb1
  clear hO0 hk1'
  go_wp2_with (at_builtin; refine appQ rfl (.tmp 209) (.tmp 210) rfl B q _ _ w1 [48] #[.int .u8 48] rfl 1 rfl (by omega) rfl hO1 rfl (by decide) ?_)
  intro v2 w2 hO2 hk2' hb2
  go_wp2
  go_ret
  exact ⟨_, rfl, hO2.own, hb1.trans hb2⟩
end Go.Proofs.YtklgemnmihpkcaaGreatDoor
