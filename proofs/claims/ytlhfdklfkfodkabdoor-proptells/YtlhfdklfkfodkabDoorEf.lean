
/- What the library's fmtEFG writes of one digit, as far as the statements' first look needs it. -/
import Derived.Test.YtlhfdklfkfodkabDoorDg
set_option maxRecDepth 100000
namespace Go.Proofs.YtlhfdklfkfodkabDoor.Ff
open Go.RowKit Go.Lib Go.Sort

theorem cell_kept {w w' : World} {q o : Nat} {v : Value} (h : w'.heap[q]? = w.heap[q]?) (hc : w.cell? ⟨q, o, none⟩ = some v) : w'.cell? ⟨q, o, none⟩ = some v := by
  rw [World.cell?_of_block (w := w) (a := ⟨q, o, none⟩) h]; exact hc

set_option maxHeartbeats 2000000 in
theorem efg2_any (w : World) (B q : Nat) (v : Value) (hO : OwnQ w B q v []) (hc : w.cell? ⟨q, 0, none⟩ = some (.int .u8 49)) :
    Calls Tryd.prog 48 #[v, .bool false, .slice (some ⟨q, 0, none⟩) 32 32, .int .i64 22, .int .i64 1, .int .i64 1, .int .u8 103, .bool true] w fun e w' =>
      ∃ v', e = .returned v' ∧ Own w' B v' [49, 101, 43, 50, 49] ∧ Below B w w' := by
  go_enter Tryd.func48, Tryd.ntmps48
  go_wp2_with (at_builtin; refine appQ rfl (.tmp 87) (.tmp 89) rfl B q _ _ w [49] #[.int .u8 49] rfl 1 rfl (by omega) rfl hO rfl (by simp) ?_)
  intro v1 w1 hO1 hk1 hb1
  clear hO hc hk1
  go_wp2_with (at_builtin; refine appQ rfl (.tmp 120) (.tmp 122) rfl B q _ _ w1 [101] #[.int .u8 101] rfl 1 rfl (by omega) rfl hO1 rfl (by simp) ?_)
  intro v2 w2 hO2 hk2 hb2
  clear hO1 hk2
  go_wp2_with (at_builtin; refine appQ rfl (.tmp 132) (.tmp 134) rfl B q _ _ w2 [43] #[.int .u8 43] rfl 1 rfl (by omega) rfl hO2 rfl (by simp) ?_)
  intro v3 w3 hO3 hk3 hb3
  clear hO2 hk3
  go_wp2_with (at_builtin; refine appQ rfl (.tmp 164) (.tmp 173) rfl B q _ _ w3 [50, 49] #[.int .u8 50, .int .u8 49] rfl 2 rfl (by omega) rfl hO3 rfl (by simp) ?_)
  intro v4 w4 hO4 hk4 hb4
  clear hO3 hk4
  go_wp2
  go_ret
  exact ⟨_, rfl, hO4.own, hb1.trans (hb2.trans (hb3.trans hb4))⟩

@[go_sem] theorem mx10 : max (1 : Int) 0 = 1 := by decide
@[go_sem] theorem mx01 : max (0 : Int) 1 = 1 := by decide
@[go_sem] theorem mx00 : max (0 : Int) 0 = 0 := by decide
@[go_sem] theorem mn10 : min (1 : Int) 0 = 0 := by decide
@[go_sem] theorem mn11 : min (1 : Int) 1 = 1 := by decide

set_option maxHeartbeats 2000000 in
theorem efg1_any (w : World) (B q : Nat) (v : Value) (hO : OwnQ w B q v []) (hc : w.cell? ⟨q, 0, none⟩ = some (.int .u8 49)) :
    Calls Tryd.prog 48 #[v, .bool false, .slice (some ⟨q, 0, none⟩) 32 32, .int .i64 0, .int .i64 1, .int .i64 1, .int .u8 103, .bool true] w fun e w' =>
      ∃ v', e = .returned v' ∧ Own w' B v' [48, 46, 49] ∧ Below B w w' := by
  go_enter Tryd.func48, Tryd.ntmps48
  go_wp2_with (at_builtin; refine appQ rfl (.tmp 209) (.tmp 210) rfl B q _ _ w [48] #[.int .u8 48] rfl 1 rfl (by omega) rfl hO rfl (by simp) ?_)
  intro v1 w1 hO1 hk1 hb1
  have hc1 := cell_kept hk1 hc
  clear hO hc hk1
  go_wp2_with (at_builtin; refine appQ rfl (.tmp 214) (.tmp 215) rfl B q _ _ w1 [46] #[.int .u8 46] rfl 1 rfl (by omega) rfl hO1 rfl (by simp) ?_)
  intro v2 w2 hO2 hk2 hb2
  have hc2 := cell_kept hk2 hc1
  clear hO1 hk2 hc1
  have b2 := hb1.trans hb2
  clear hb1 hb2
  go_wp2_with fail
  go_loopw [0, 240] (fun u i wr => i = .int .i64 0 ∧ v2 = u ∧ w2 = wr) (fun _ _ _ => 0)
  case atStart => exact ⟨rfl, rfl, rfl⟩
  case round =>
    obtain ⟨rfl, rfl, rfl⟩ := hrel
    go_wp2_with fail
    go_loopw [0, 247] (fun u i wr => (i = .int .i64 0 ∧ v2 = u ∧ w2 = wr) ∨ (i = .int .i64 1 ∧ OwnQ wr B q u [48, 46, 49] ∧ Below B w wr)) (fun _ i _ => 1 - (RowKit.intOf i).toNat)
    case atStart => exact .inl ⟨rfl, rfl, rfl⟩
    case round =>
      rcases hrel with ⟨rfl, rfl, rfl⟩ | ⟨rfl, hO3, hb3⟩
      · go_wp2_with (at_builtin; refine appQ rfl (.tmp 250) (.tmp 257) rfl B q _ _ w2 [49] #[.int .u8 49] rfl 1 rfl (by omega) rfl hO2 rfl (by simp) ?_)
        intro v3 w3 hO3 hk3 hb3
        clear hO2 hk3 hc2
        go_wp2
        go_roundw
        case rel => exact .inr ⟨rfl, hO3, b2.trans hb3⟩
        case measure => simp [RowKit.intOf]
      · clear hO2 hc2 b2
        go_wp2_with fail
        go_loopw [0, 261] (fun u i wr => i = .int .i64 0 ∧ OwnQ wr B q u [48, 46, 49] ∧ Below B w wr) (fun _ _ _ => 0)
        case atStart => exact ⟨rfl, hO3, hb3⟩
        case round =>
          obtain ⟨rfl, hO4, hb4⟩ := hrel
          clear hO3 hb3
          go_wp2
          go_ret
          exact ⟨_, rfl, hO4.own, hb4⟩
end Go.Proofs.YtlhfdklfkfodkabDoor.Ff
